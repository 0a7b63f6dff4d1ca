/-
  Regions that draw their order: quiet operations, SEVERAL variables that are made (each may be made ahead of any of the quiet ones, in any order), then a tail in one order (the stores into them): one walk of the head in the text's order serves every order. No Go text is walked here.
-/
import Derived.Test.YtdaapanmalcgbabDoorLay
namespace Go.Proofs.YtdaapanmalcgbabDoor
open Go.RowKit

/-- The act of the head, with the slots of those variables that have been made. -/
def can (D : Nat → Tmp) (σ : Nat → Option Nat) : Nat → Act → Act
  | 0, a => a
  | k + 1, a => match σ k with | some g => (can D σ k a).put (some (D k)) (ptr g) | none => can D σ k a
/-- One more is made. -/
def more (σ : Nat → Option Nat) (j g : Nat) : Nat → Option Nat := fun i => if i = j then some g else σ i

theorem can_more {D : Nat → Tmp} {σ : Nat → Option Nat} {j g : Nat} (hj : σ j = none) (a : Act) : ∀ k, (∀ i, i < k → i ≠ j → σ i ≠ none → D i ≠ D j) → can D (more σ j g) k a = if j < k then (can D σ k a).put (some (D j)) (ptr g) else can D σ k a
  | 0, _ => by simp [can]
  | k + 1, h => by
    have ih := can_more (g := g) hj a k (fun i hi => h i (by omega))
    by_cases hk : k = j
    · subst hk
      rw [if_neg (by omega)] at ih
      simp only [can, more, if_true, hj, if_pos (Nat.lt_succ_self k)]
      rw [← ih]
    · have e : more σ j g k = σ k := if_neg hk
      simp only [can, e]
      cases hs : σ k with
      | none =>
        simp only
        rw [ih]
        by_cases hjk : j < k
        · rw [if_pos hjk, if_pos (by omega)]
        · rw [if_neg hjk, if_neg (by omega)]
      | some G =>
        simp only
        rw [ih]
        by_cases hjk : j < k
        · rw [if_pos hjk, if_pos (by omega)]
          exact Act.put_comm _ _ _ (fun d hd => by
            cases hd
            intro he
            have h1 := h k (by omega) hk (by rw [hs]; simp)
            injection he with he
            exact h1 he)
        · rw [if_neg hjk, if_neg (by omega)]
theorem can_none {D : Nat → Tmp} {σ : Nat → Option Nat} (a : Act) : ∀ k, (∀ i, i < k → σ i = none) → can D σ k a = a
  | 0, _ => rfl
  | k + 1, h => by simp only [can, h k (by omega)]; exact can_none a k (fun i hi => h i (by omega))

section
variable {P : Program} {l : List Oper} {w0 : World}

/-- No head operation looks at, or writes, a made variable's slot; each slot is written by one operation of the head at most; what makes a variable waits for the head alone; the slots are unlike. -/
def laysB (l : List Oper) (s n : Nat) (D : Nat → Tmp) : Bool :=
  (List.range s).all (fun i => match l[i]? with
    | some o => (List.range n).all (fun k => decide (k < s) || (!(o.looksAt l.toArray).contains (D k) && decide (o.dst ≠ some (D k)))) && (List.range s).all (fun j => i == j || (match l[j]? with | some o' => o.dst == none || decide (o.dst ≠ o'.dst) | none => true))
    | none => false) &&
  (List.range n).all (fun k => decide (k < s) || ((match l[k]? with | some o => decide (o.dst = some (D k)) && o.guard.isNone && o.after.all (fun e => !Region.binds .any e || decide (e.on < s)) | none => false) && (List.range n).all (fun j => decide (j < s) || k == j || decide (D k ≠ D j)))) &&
  Region.noSelect l.toArray

structure Lays (l : List Oper) (s n : Nat) (D : Nat → Tmp) : Prop where
  free : ∀ i o k, i < s → l[i]? = some o → s ≤ k → k < n → D k ∉ o.looksAt l.toArray ∧ o.dst ≠ some (D k)
  own : ∀ (i j : Nat) (oi oj : Oper) (t : Tmp), (l.take s).toArray[i]? = some oi → (l.take s).toArray[j]? = some oj → i ≠ j → oi.dst = some t → oj.dst ≠ some t
  mid : ∀ k o, s ≤ k → k < n → l[k]? = some o → o.dst = some (D k) ∧ o.guard = none ∧ ∀ e ∈ o.after, Region.binds .any e = true → e.on < s
  unlike : ∀ k j, s ≤ k → k < n → s ≤ j → j < n → k ≠ j → D k ≠ D j
  sel : Region.noSelect l.toArray = true

theorem lays_of {s n : Nat} {D : Nat → Tmp} (h : laysB l s n D = true) : Lays l s n D := by
  simp only [laysB, Bool.and_eq_true, List.all_eq_true, List.mem_range] at h
  obtain ⟨⟨h1, h2⟩, h3⟩ := h
  refine ⟨fun i o k hi ho hk hkn => ?_, fun i j oi oj t hi hj hne ht he => ?_, fun k o hk hkn ho => ?_, fun k j hk hkn hj hjn hne => ?_, h3⟩
  · have := h1 i hi
    rw [ho] at this
    simp only [Bool.and_eq_true, List.all_eq_true, List.mem_range] at this
    have := this.1 k hkn
    simp only [Bool.or_eq_true, decide_eq_true_eq, Bool.and_eq_true] at this
    rcases this with h | h
    · omega
    · exact ⟨by simpa using h.1, h.2⟩
  · obtain ⟨hsi, hli⟩ := in_head hi
    obtain ⟨hsj, hlj⟩ := in_head hj
    have := h1 i hsi
    rw [hli] at this
    simp only [Bool.and_eq_true, List.all_eq_true, List.mem_range] at this
    have := this.2 j hsj
    rw [hlj] at this
    simp [hne, ht, he] at this
  · have := h2 k hkn
    simp only [Bool.or_eq_true, decide_eq_true_eq, Bool.and_eq_true] at this
    rcases this with h | ⟨h, _⟩
    · omega
    · rw [ho] at h
      simp only [Bool.and_eq_true, decide_eq_true_eq, Option.isNone_iff_eq_none] at h
      refine ⟨h.1.1, h.1.2, fun e he hb => ?_⟩
      have := Array.all_eq_true_iff_forall_mem.1 h.2 e he
      simpa [hb] using this
  · have := h2 k hkn
    simp only [Bool.or_eq_true, decide_eq_true_eq, Bool.and_eq_true, List.all_eq_true, List.mem_range] at this
    rcases this with h | ⟨_, h⟩
    · omega
    · have := h j hjn
      simp only [beq_iff_eq] at this
      rcases this with (h | h) | h
      · omega
      · exact absurd h hne
      · exact h

/-- An operation, with something in a slot that it doesn't know. -/
theorem qOp_put {C : World → Prop} {ops : Array Oper} {i : Nat} {o : Oper} {d : Tmp} {p : Value} {K : Act → Prop} {a : Act} (ho : ops[i]? = some o) (hsel : Region.noSelect ops = true) (hd : d ∉ o.looksAt ops) (hd2 : o.dst ≠ some d)
    (h : qOp P ops C i K a) : qOp P ops C i (fun b => ∃ c, b = c.put (some d) p ∧ K c) (a.put (some d) p) := by
  obtain ⟨v, hy, hK⟩ := yieldsIn_of_qOp ho h
  have hw : Region.wanted o (yielded ops (a.put (some d) p).tmps) = Region.wanted o (yielded ops a.tmps) := wanted_put (ops := ops) o a (some d) p (fun d' hd' => by cases hd'; exact hd)
  have he : execOp (a.put (some d) p).eval o = execOp a.eval o := execOp_put (ops := ops) o (fun cs b => Region.noSelect_spec hsel i o cs b ho) a (some d) p (fun d' hd' => by cases hd'; exact hd)
  have hy' : YieldsIn P ops C o v (a.put (some d) p) := by
    unfold YieldsIn Oper.quietAt at hy ⊢
    rw [hw, he]
    exact hy
  exact hy'.qOp ho ⟨a.put o.dst v, Act.put_comm a p v (fun d' hd' => by cases hd'; exact hd2), hK⟩
theorem qOp_can {C : World → Prop} {ops : Array Oper} {i : Nat} {o : Oper} {D : Nat → Tmp} {σ : Nat → Option Nat} {K : Act → Prop} {a : Act} (ho : ops[i]? = some o) (hsel : Region.noSelect ops = true)
    (h : qOp P ops C i K a) : ∀ k, (∀ j, j < k → σ j ≠ none → D j ∉ o.looksAt ops ∧ o.dst ≠ some (D j)) → qOp P ops C i (fun b => ∃ c, b = can D σ k c ∧ K c) (can D σ k a)
  | 0, _ => by
    obtain ⟨v, hy, hK⟩ := yieldsIn_of_qOp ho h
    exact hy.qOp ho ⟨_, rfl, hK⟩
  | k + 1, hf => by
    have ih := qOp_can ho hsel h k (fun j hj => hf j (by omega))
    cases hs : σ k with
    | none =>
      obtain ⟨v, hy, c, hc, hK⟩ := yieldsIn_of_qOp ho ih
      have e : ∀ x, can D σ (k + 1) x = can D σ k x := fun x => by simp only [can, hs]
      rw [e]
      exact hy.qOp ho ⟨c, by rw [e]; exact hc, hK⟩
    | some G =>
      obtain ⟨h1, h2⟩ := hf k (by omega) (by rw [hs]; simp)
      have e : ∀ x, can D σ (k + 1) x = (can D σ k x).put (some (D k)) (ptr G) := fun x => by simp only [can, hs]
      rw [e]
      obtain ⟨v, hy, c, hc, c', hc', hK⟩ := yieldsIn_of_qOp ho (qOp_put (p := ptr G) ho hsel h1 h2 ih)
      exact hy.qOp ho ⟨c', by rw [e, ← hc']; exact hc, hK⟩

/-- The made variables lie there as they were made, and are unlike. -/
def AllMade (w0 : World) (Z : Nat → Obj) (σ : Nat → Option Nat) : World → Prop := fun w' => ∀ j g, σ j = some g → Made w0 (Z j) g w'
theorem allMade_stable (Z : Nat → Obj) (σ : Nat → Option Nat) : Stable (AllMade w0 Z σ) := fun w1 w2 hb hx j g h => made_stable (Z j) g w1 w2 hb (hx j g h)

/-- How many are still to be made. -/
def left (s : Nat) (σ : Nat → Option Nat) : Nat → Nat
  | 0 => 0
  | k + 1 => left s σ k + if s ≤ k ∧ σ k = none then 1 else 0
theorem left_zero {s : Nat} {σ : Nat → Option Nat} : ∀ k, left s σ k = 0 → ∀ j, s ≤ j → j < k → σ j ≠ none
  | 0, _, _, _, hj => absurd hj (by omega)
  | k + 1, h, j, hs, hj => by
    simp only [left] at h
    by_cases hk : j = k
    · subst hk
      intro he
      rw [if_pos ⟨hs, he⟩] at h; omega
    · exact left_zero k (by omega) j hs (by omega)
theorem left_pos {s : Nat} {σ : Nat → Option Nat} : ∀ k, left s σ k ≠ 0 → ∃ j, s ≤ j ∧ j < k ∧ σ j = none
  | 0, h => absurd rfl h
  | k + 1, h => by
    by_cases hk : s ≤ k ∧ σ k = none
    · exact ⟨k, hk.1, by omega, hk.2⟩
    · simp only [left, if_neg hk, Nat.add_zero] at h
      obtain ⟨j, h1, h2, h3⟩ := left_pos k h
      exact ⟨j, h1, by omega, h3⟩
theorem left_same {s j g : Nat} {σ : Nat → Option Nat} : ∀ k, k ≤ j → left s (more σ j g) k = left s σ k
  | 0, _ => rfl
  | k + 1, h => by
    rw [left, left, left_same k (by omega), show more σ j g k = σ k from if_neg (by omega)]
theorem left_more {s j g : Nat} {σ : Nat → Option Nat} (hs : s ≤ j) (hj : σ j = none) : ∀ k, j < k → left s (more σ j g) k + 1 = left s σ k
  | 0, h => absurd h (by omega)
  | k + 1, h => by
    by_cases hk : k = j
    · subst hk
      simp only [left, left_same k (Nat.le_refl k)]
      rw [if_neg (fun hh => by have := hh.2; simp [more] at this), if_pos ⟨hs, hj⟩]
    · have ih := left_more (g := g) hs hj k (by omega)
      simp only [left]
      rw [show more σ j g k = σ k from if_neg hk]
      omega

/-- The s first operations stand by themselves; from the n-th on all come last, in one order; the n-th waits for each of the first but the h-th, or for one that does. -/
def ptsB (l : List Oper) (s n h : Nat) : Bool :=
  Region.lexB .any (l.take s).toArray &&
  (List.range s).all (fun i => match l[i]? with | some o => o.after.all (fun e => !Region.binds .any e || decide (e.on < i)) && (match o.guard with | some (j, _) => decide (j < s) | none => true) | none => false) &&
  decide (s ≤ n) && decide (n < l.length) &&
  (List.range n).all (fun i => decide (i = h) || (waitsB l n i || (List.range n).any (fun t => decide (i < t) && (decide (t ≠ h) && waitsB l t i)))) &&
  (List.range l.length).all (fun t => decide (t ≤ n) || waitsB l t (t - 1)) &&
  Region.seqB .any l.toArray (l.length - n) n (upTo n l.length)
structure Pts (l : List Oper) (s n h : Nat) : Prop where
  lex : Region.lexB .any (l.take s).toArray = true
  back : ∀ i o, i < s → l[i]? = some o → ∀ e ∈ o.after, Region.binds .any e = true → e.on < i
  guards : ∀ i o j b, i < s → l[i]? = some o → o.guard = some (j, b) → j < s
  sn : s ≤ n
  nl : n < l.length
  reach : ∀ i, i < n → i ≠ h → waitsB l n i = true ∨ ∃ t, i < t ∧ t < n ∧ t ≠ h ∧ waitsB l t i = true
  chain : ∀ t o, n < t → l[t]? = some o → ∃ e ∈ o.after, Region.binds .any e = true ∧ e.on = t - 1
  seq : Region.seqB .any l.toArray (l.length - n) n (upTo n l.length) = true
theorem pts_of {s n lt : Nat} (h : ptsB l s n lt = true) : Pts l s n lt := by
  simp only [ptsB, Bool.and_eq_true, decide_eq_true_eq, List.all_eq_true, List.mem_range, Bool.or_eq_true, List.any_eq_true] at h
  obtain ⟨⟨⟨⟨⟨⟨h1, h2⟩, h3⟩, h4⟩, h5⟩, h6⟩, h7⟩ := h
  refine ⟨h1, fun i o hi ho e he hb => ?_, fun i o j b hi ho hg => ?_, h3, h4, fun i hi hne => ?_, fun t o ht ho => ?_, h7⟩
  · have := h2 i hi
    rw [ho] at this
    simp only [Bool.and_eq_true] at this
    have := Array.all_eq_true_iff_forall_mem.1 this.1 e he
    simpa [hb] using this
  · have := h2 i hi
    rw [ho] at this
    simp only [Bool.and_eq_true] at this
    simpa [hg] using this.2
  · rcases h5 i hi with h | h | ⟨t, ht, hlt, hne', hw⟩
    · exact absurd h hne
    · exact .inl h
    · exact .inr ⟨t, hlt, ht, hne', hw⟩
  · have hl : t < l.length := (List.getElem?_eq_some_iff.1 ho).1
    rcases h6 t hl with h | h
    · omega
    · exact waits_of h ho
theorem pts_ready {s n lt i : Nat} {lh lf : Array Bool} (hp : Pts l s n lt) (hsame : ∀ i, i < s → ∀ b, lf.getD i b = lh.getD i b) (hi : i < s) :
    i ∈ Region.ready .any l.toArray lf ↔ i ∈ Region.ready .any (l.take s).toArray lh := by
  rw [mem_ready, mem_ready, take_get hi, hsame i hi true]
  constructor
  · rintro ⟨h1, o, ho, h2⟩
    exact ⟨h1, o, ho, fun e he hbd => by have := hp.back i o hi (by simpa using ho) e he hbd; rw [← hsame e.on (by omega) false]; exact h2 e he hbd⟩
  · rintro ⟨h1, o, ho, h2⟩
    exact ⟨h1, o, ho, fun e he hbd => by have := hp.back i o hi (by simpa using ho) e he hbd; rw [hsame e.on (by omega) false]; exact h2 e he hbd⟩
theorem pts_all {s n lt : Nat} {lh : Array Bool} (hp : Pts l s n lt) (hsz : lh.size = s) (h : Region.ready .any (l.take s).toArray lh = []) : ∀ i, i < s → lh.getD i false = true := by
  have hsn := hp.sn
  have hnl := hp.nl
  intro i
  induction i using Nat.strongRecOn with
  | _ i ih =>
    intro hi
    rcases getD_or (x := lh) (i := i) (by rw [hsz]; exact hi) with h1 | h1
    · have hl : i < l.length := by omega
      have : i ∈ Region.ready .any (l.take s).toArray lh := mem_ready.2 ⟨h1, l[i], by simp [hi, hl], fun e he hbd => by
        have := hp.back i l[i] hi (by simp [hl]) e he hbd
        exact ih e.on this (by omega)⟩
      rw [h] at this; cases this
    · exact h1
theorem pts_qOp {C : World → Prop} {s n lt i : Nat} {K : Act → Prop} {a : Act} (hp : Pts l s n lt) (hi : i < s) (h : qOp P (l.take s).toArray C i K a) : qOp P l.toArray C i K a := by
  have hl : i < l.length := by have := hp.nl; have := hp.sn; omega
  have h1 : (l.take s).toArray[i]? = some l[i] := by simp [hi, hl]
  have h2 : l.toArray[i]? = some l[i] := by simp [hl]
  obtain ⟨v, hy, hK⟩ := yieldsIn_of_qOp h1 h
  have hw : Region.wanted l[i] (yielded l.toArray a.tmps) = Region.wanted l[i] (yielded (l.take s).toArray a.tmps) := by
    unfold Region.wanted
    cases hg : l[i].guard with
    | none => rfl
    | some jb =>
      obtain ⟨j, b⟩ := jb
      have hj := hp.guards i l[i] j b hi (by simp [hl]) hg
      simp only [yielded, take_get hj]
  have hy' : YieldsIn P l.toArray C l[i] v a := by
    unfold YieldsIn Oper.quietAt at hy ⊢
    rw [hw]
    exact hy
  exact hy'.qOp h2 hK
theorem pts_head {C : World → Prop} {s n lt : Nat} {Lq : Act → Prop} {a : Act} (hp : Pts l s n lt) (h : wpQuiet P (l.take s).toArray C Lq (l.take s) a) : wpAnyQ P .any (l.take s).toArray C Lq s (Array.replicate s false) a := by
  have hB := hp.lex
  have hs : (l.take s).length = s := by have := hp.sn; have := hp.nl; simp; omega
  simp only [Region.lexB, Bool.and_eq_true] at hB
  have := wpAnyQ_lex (P := P) (C := C) (Q := Lq) hB.1 (l.take s) 0 (Array.replicate s false) a (by simp) (by have := hB.2; simpa [hs] using this) h
  rwa [hs] at this
/-- What has come up has all behind it that it waits for. -/
def Closed (l : List Oper) (n : Nat) (lf : Array Bool) : Prop := ∀ j o, j < n → lf.getD j false = true → l[j]? = some o → ∀ e ∈ o.after, Region.binds .any e = true → lf.getD e.on false = true
theorem put_true {x : Array Bool} {i j : Nat} (h : x.getD j false = true) : (x.setIfInBounds i true).getD j false = true := by
  by_cases e : i = j
  · subst e
    by_cases hi : i < x.size
    · simp [hi]
    · simp [hi] at h
  · rw [getD_set_ne false e]; exact h
theorem Closed.set {n i : Nat} {lf : Array Bool} (h : Closed l n lf) (hr : i ∈ Region.ready .any l.toArray lf) : Closed l n (lf.setIfInBounds i true) := fun j o hj hl ho e he hb => put_true (by
  by_cases hij : i = j
  · subst hij
    obtain ⟨_, o', ho', h2⟩ := mem_ready.1 hr
    have : o' = o := by have h3 : l[i]? = some o' := by simpa using ho'
                        rw [ho] at h3; exact (Option.some.inj h3).symm
    subst this
    exact h2 e he hb
  · rw [getD_set_ne false hij] at hl
    exact h j o hj hl ho e he hb)
theorem pts_later {s n lt : Nat} {lf : Array Bool} (hp : Pts l s n lt) (hsz : lf.size = l.length) (hc : Closed l n lf) : ∀ (d j : Nat), n - j = d → j < n → j ≠ lt → lf.getD j false = false → n ∉ Region.ready .any l.toArray lf := by
  intro d
  induction d using Nat.strongRecOn with
  | _ d ih =>
    intro j hd hj hne hun hr
    rcases hp.reach j hj hne with h | ⟨t, h1, h2, h5, h3⟩
    · obtain ⟨_, o, ho, hall⟩ := mem_ready.1 hr
      obtain ⟨e, he, hbd, hon⟩ := waits_of h (by simpa using ho)
      have := hall e he hbd
      rw [hon, hun] at this; cases this
    · have htl : t < l.length := by have := hp.nl; omega
      refine ih (n - t) (by omega) t rfl h2 h5 ?_ hr
      rcases getD_or (x := lf) (i := t) (by rw [hsz]; exact htl) with h4 | h4
      · exact getD_tf h4
      · obtain ⟨e, he, hbd, hon⟩ := waits_of h3 (show l[t]? = some l[t] by simp [htl])
        have := hc t l[t] h2 h4 (by simp [htl]) e he hbd
        rw [hon, hun] at this; cases this

/-- Where all that comes ahead of the tail has come up but the h-th. -/
theorem but_one {n h : Nat} {lf : Array Bool} (hsz : lf.size = l.length) (h1 : ∀ i, i < n → i ≠ h → lf.getD i false = true) (h2 : lf.getD h true = false) (h3 : ∀ i, n ≤ i → i < l.length → lf.getD i true = false) : lf = (upTo n l.length).setIfInBounds h false := by
  have hu : (upTo n l.length).size = l.length := by simp [upTo]
  apply Array.ext
  · simp [hsz, hu]
  · intro i hi hi2
    have hil : i < l.length := by omega
    by_cases hih : i = h
    · subst hih
      simp [hi] at h2
      simp [h2]
    · rw [Array.getElem_setIfInBounds_ne (by rw [hu]; exact hil) (fun e => hih e.symm)]
      by_cases hin : i < n
      · have := h1 i hin hih
        simp [hi] at this
        simp [this, upTo, hin]
      · have := h3 i (by omega) hil
        simp [hi] at this
        simp [this, upTo, hin]
theorem follow_lays {s n lt : Nat} {D : Nat → Tmp} {Z : Nat → Obj} {A : Act} {Q : Exit → Act → World → Prop} (hp : Pts l s n lt) (hl : Lays l s n D)
    (hfree : lt < s → Region.free .any l.toArray ((upTo n l.length).setIfInBounds lt false) lt = true ∧ (Region.ready .any l.toArray ((upTo n l.length).setIfInBounds lt false)).contains lt = true)
    (hlt : lt < s ∨ n ≤ lt) (hpure : lt < s → ∀ o, l[lt]? = some o → ∀ (a : Act) (C : World → Prop) (w : World) (v : Value), o.quietAt P a C w v → ∀ w', (execOp a.eval o).run P w' = .ok (.value v) w')
    (hQ : lt < s → ∀ c a d v w, Q (.panic c) (a.put (some d) v) w → Q (.panic c) a w)
    (ha : ∀ k o, s ≤ k → k < n → l[k]? = some o → ∀ (a : Act) (w : World), (execOp a.eval o).run P w = .ok (.value (ptr w.heap.size)) (w.alloc (Z k)))
    (hT : ∀ σ w', (∀ j, s ≤ j → j < n → σ j ≠ none) → (∀ j, σ j ≠ none → s ≤ j ∧ j < n) → (∀ i j g, i ≠ j → σ i = some g → σ j ≠ some g) → Cls w0 (AllMade w0 Z σ) w' → wpList P l.toArray Q (l.drop n) (can D σ n A) w') :
    ∀ (t f r : Nat) (lh lf : Array Bool) (a : Act) (w : World) (σ : Nat → Option Nat), t = f + r → lf.size = l.length → lh.size = s → (∀ i, i < s → ∀ b, lf.getD i b = lh.getD i b) →
      (∀ j, s ≤ j → j < n → (σ j ≠ none → lf.getD j false = true) ∧ (σ j = none → lf.getD j true = false)) → (∀ i, n ≤ i → i < l.length → lf.getD i true = false) →
      (∀ j, σ j ≠ none → s ≤ j ∧ j < n) → (∀ i j g, i ≠ j → σ i = some g → σ j ≠ some g) → left s σ n = r → Closed l n lf → Cls w0 (AllMade w0 Z σ) w →
      (∀ X, Stable X → Nonempty (ExtX w0 X) → wpAnyQ P .any (l.take s).toArray (Cls w0 X) (fun a' => a' = A) f lh a) → wpAny P .any l.toArray Q (t + (l.length - n)) lf (can D σ n a) w := by
  have hsn := hp.sn
  have hnl := hp.nl
  have last : ∀ (k f : Nat) (lh lf : Array Bool) (a : Act) (w : World) (σ : Nat → Option Nat), lf.size = l.length → lh.size = s → (∀ i, i < s → ∀ b, lf.getD i b = lh.getD i b) →
      (∀ j, s ≤ j → j < n → (σ j ≠ none → lf.getD j false = true) ∧ (σ j = none → lf.getD j true = false)) → (∀ i, n ≤ i → i < l.length → lf.getD i true = false) →
      (∀ j, σ j ≠ none → s ≤ j ∧ j < n) → (∀ i j g, i ≠ j → σ i = some g → σ j ≠ some g) → left s σ n = 0 → Cls w0 (AllMade w0 Z σ) w → Region.ready .any (l.take s).toArray lh = [] → a = A → wpAny P .any l.toArray Q (k + (l.length - n)) lf (can D σ n a) w := by
    intro k f lh lf a w σ h1 h2 h3 h4 h5 h6 h7 hr hw hrd hA
    have hall := pts_all hp h2 hrd
    have hmid := left_zero n hr
    have hb : Beside l s n lh lf := ⟨h2, h1, h3, fun i hi hi2 => (h4 i hi hi2).1 (hmid i hi hi2), h5⟩
    refine any_lift ?_ k
    rw [eq_upTo hb hall]
    have := wpAny_of_seq (P := P) (ops := l.toArray) (md := .any) (Q' := Q) (l.drop n) n (upTo n l.length) (can D σ n a) w (fun j => by simp [List.getElem?_drop]) (by rw [List.length_drop]; exact hp.seq) (by rw [hA]; exact hT σ w hmid h6 h7 hw)
    rwa [List.length_drop] at this
  intro t
  induction t with
  | zero =>
    intro f r lh lf a w σ ht h1 h2 h3 h4 h5 h6 h7 hr hcl hw h
    obtain rfl : f = 0 := by omega
    obtain rfl : r = 0 := by omega
    have hq := h _ (fun _ _ _ _ => trivial) ⟨⟨hw.choose.w, hw.choose.h, trivial⟩⟩
    exact last 0 0 lh lf a w σ h1 h2 h3 h4 h5 h6 h7 hr hw hq.1 hq.2
  | succ t ih =>
    intro f r lh lf a w σ ht h1 h2 h3 h4 h5 h6 h7 hr hcl hw h
    have hq := h (fun _ => True) (fun _ _ _ _ => trivial) ⟨⟨hw.choose.w, hw.choose.h, trivial⟩⟩
    by_cases hdone : Region.ready .any (l.take s).toArray lh = [] ∧ r = 0
    · have hA : a = A := by
        cases f with
        | zero => exact hq.2
        | succ f => exact hq.1 hdone.1
      exact last (t + 1) 0 lh lf a w σ h1 h2 h3 h4 h5 h6 h7 (by omega) hw hdone.1 hA
    rw [show t + 1 + (l.length - n) = (t + (l.length - n)) + 1 by omega]
    -- the late one alone is left: it may as well come first
    by_cases hlate : lt < s ∧ lf.getD lt true = false ∧ ∀ i, i < n → i ≠ lt → lf.getD i false = true
    · obtain ⟨hls, hlu, hrest⟩ := hlate
      have hll : lt < l.length := by omega
      have ho : (l.take s).toArray[lt]? = some l[lt] := by simp [hls, hll]
      have ho2 : l.toArray[lt]? = some l[lt] := by simp [hll]
      have hr0 : r = 0 := by
        rcases Nat.eq_zero_or_pos r with h8 | h8
        · exact h8
        · obtain ⟨j, hj, hjn, he⟩ := left_pos (s := s) (σ := σ) n (by omega)
          have h9 := getD_tf ((h4 j hj hjn).2 he)
          rw [hrest j hjn (by omega)] at h9; cases h9
      have hlf := but_one h1 hrest hlu h5
      obtain ⟨hf1, hf2⟩ := hfree hls
      rw [← hlf] at hf1 hf2
      have hi' : lt ∈ Region.ready .any (l.take s).toArray lh := (pts_ready hp h3 hls).1 (by simpa using hf2)
      cases f with
      | zero => rw [hq.1] at hi'; cases hi'
      | succ f =>
        obtain ⟨v, hy, hK⟩ := yieldsIn_of_qOp ho (hq.2 lt hi')
        have hX : ∀ X, Stable X → Nonempty (ExtX w0 X) → wpAnyQ P .any (l.take s).toArray (Cls w0 X) (fun a' => a' = A) f (lh.setIfInBounds lt true) (a.put l[lt].dst v) := by
          intro X hX hne
          obtain ⟨u, _, hKu⟩ := yieldsIn_of_qOp ho ((h X hX hne).2 lt hi')
          have e : a.put l[lt].dst u = a.put l[lt].dst v := by
            cases hdst : l[lt].dst with
            | none => rfl
            | some d =>
              rw [hdst] at hK hKu
              have hkeep : ∀ (j : Nat) o, (l.take s).toArray[j]? = some o → (lh.setIfInBounds lt true).getD j true = false → o.dst ≠ some d := fun j o hj hu => by
                by_cases hij : lt = j
                · subst hij
                  simp [h2, hls] at hu
                · exact hl.own lt j l[lt] o d ho hj hij hdst
              exact put_alike (any_keeps f _ _ hkeep hKu) (any_keeps f _ _ hkeep hK)
          rw [← e]
          exact hKu
        -- the same value in every world
        have hq1 := pts_qOp hp hls (hy.qOp (K := fun b => b = a.put l[lt].dst v) ho rfl)
        have hq2 := qOp_can (D := D) (σ := σ) ho2 hl.sel hq1 n (fun j hj hne => hl.free lt l[lt] j hls (by simp [hll]) (h6 j hne).1 hj)
        obtain ⟨v2, hy2, c, hc, rfl⟩ := yieldsIn_of_qOp ho2 hq2
        have hyc : Yields P l.toArray l[lt] v2 (can D σ n a) := by
          rcases hy2 with ⟨hwt, hv⟩ | ⟨hwt, hv⟩
          · exact .inl ⟨hwt, hpure hls l[lt] (by simp [hll]) _ _ w v2 (hv w ⟨⟨hw.choose.w, hw.choose.h, trivial⟩, hw.choose_spec⟩)⟩
          · exact .inr ⟨hwt, hv⟩
        have key := ih f r (lh.setIfInBounds lt true) (lf.setIfInBounds lt true) (a.put l[lt].dst v) w σ (by omega) (by simp [h1]) (by simp [h2])
          (fun j hj b => by
            by_cases hij : lt = j
            · subst hij; simp [h1, h2, hll, hls]
            · rw [getD_set_ne b hij, getD_set_ne b hij]; exact h3 j hj b)
          (fun j hj hj2 => by rw [getD_set_ne false (by omega), getD_set_ne true (by omega)]; exact h4 j hj hj2)
          (fun j hj hj2 => by rw [getD_set_ne true (by omega)]; exact h5 j hj hj2) h6 h7 hr (hcl.set (by simpa using hf2)) hw hX
        rw [← hc] at key
        refine wpAny_take ho2 hl.sel hf1 hf2 (fun c a w hh => ?_) hyc key
        cases hdst : l[lt].dst with
        | none => rw [hdst] at hh; exact hh
        | some d => rw [hdst] at hh; exact hQ hls c a d _ w hh
    -- one is still to come: the tail waits
    have hun0 : ∃ i, i < n ∧ lf.getD i false = false := by
      by_cases hr0 : Region.ready .any (l.take s).toArray lh = []
      · obtain ⟨j, hj, hjn, he⟩ := left_pos (s := s) (σ := σ) n (fun e => hdone ⟨hr0, by omega⟩)
        exact ⟨j, hjn, getD_tf ((h4 j hj hjn).2 he)⟩
      · obtain ⟨i0, hi0⟩ : ∃ i0, i0 ∈ Region.ready .any (l.take s).toArray lh := List.exists_mem_of_ne_nil _ hr0
        have h8 := in_head (mem_ready.1 hi0).2.choose_spec.1
        exact ⟨i0, by omega, getD_tf (by rw [h3 i0 h8.1]; exact (mem_ready.1 hi0).1)⟩
    have hun : ∃ i, i < n ∧ i ≠ lt ∧ lf.getD i false = false := by
      obtain ⟨i0, hi0, hu0⟩ := hun0
      by_cases he : i0 = lt
      · subst he
        have h8 : i0 < s := by omega
        have h9 : lf.getD i0 true = false := by
          rcases getD_or (x := lf) (i := i0) (by omega) with h10 | h10
          · exact h10
          · rw [hu0] at h10; cases h10
        have h11 : ¬ ∀ i, i < n → i ≠ i0 → lf.getD i false = true := fun hall => hlate ⟨h8, h9, hall⟩
        simp only [Classical.not_forall] at h11
        obtain ⟨i, hi, hne, hh⟩ := h11
        exact ⟨i, hi, hne, by simpa using hh⟩
      · exact ⟨i0, hi0, he, hu0⟩
    have tail : ∀ i, n ≤ i → i ∉ Region.ready .any l.toArray lf := by
      intro i hi hir
      obtain ⟨i1, hi1, hne1, hun1⟩ := hun
      obtain ⟨h8, o, ho, h9⟩ := mem_ready.1 hir
      have ho' : l[i]? = some o := by simpa using ho
      have hil : i < l.length := (List.getElem?_eq_some_iff.1 ho').1
      rcases Nat.eq_or_lt_of_le hi with h10 | h10
      · subst h10
        exact pts_later hp h1 hcl _ i1 rfl hi1 hne1 hun1 hir
      · obtain ⟨e, he, hbd, hon⟩ := hp.chain i o h10 ho'
        have := h9 e he hbd
        rw [hon, getD_tf (h5 (i - 1) (by omega) (by omega))] at this; cases this
    refine ⟨fun h0 => ?_, fun i hi => ?_⟩
    · by_cases hr0 : Region.ready .any (l.take s).toArray lh = []
      · have hall := pts_all hp h2 hr0
        obtain ⟨j, hj, hjn, he⟩ := left_pos (s := s) (σ := σ) n (fun e => hdone ⟨hr0, by omega⟩)
        have hjl : j < l.length := by omega
        have hoj : l[j]? = some l[j] := by simp [hjl]
        have : j ∈ Region.ready .any l.toArray lf := mem_ready.2 ⟨(h4 j hj hjn).2 he, l[j], by simp [hjl], fun e he' hb => by
          have := (hl.mid j l[j] hj hjn hoj).2.2 e he' hb
          rw [h3 _ this]; exact hall _ this⟩
        rw [h0] at this; cases this
      · obtain ⟨i0, hi0⟩ : ∃ i0, i0 ∈ Region.ready .any (l.take s).toArray lh := List.exists_mem_of_ne_nil _ hr0
        have := (pts_ready hp h3 (in_head (mem_ready.1 hi0).2.choose_spec.1).1).2 hi0
        rw [h0] at this; cases this
    · rcases Nat.lt_or_ge i s with his | his
      · have hi' : i ∈ Region.ready .any (l.take s).toArray lh := (pts_ready hp h3 his).1 hi
        have hil : i < l.length := by omega
        have ho : (l.take s).toArray[i]? = some l[i] := by simp [his, hil]
        have ho2 : l.toArray[i]? = some l[i] := by simp [hil]
        cases f with
        | zero =>
          have := hq.1
          rw [this] at hi'; cases hi'
        | succ f =>
          obtain ⟨v, hy, hK⟩ := yieldsIn_of_qOp ho (hq.2 i hi')
          have hX : ∀ X, Stable X → Nonempty (ExtX w0 X) → wpAnyQ P .any (l.take s).toArray (Cls w0 X) (fun a' => a' = A) f (lh.setIfInBounds i true) (a.put l[i].dst v) := by
            intro X hX hne
            obtain ⟨u, _, hKu⟩ := yieldsIn_of_qOp ho ((h X hX hne).2 i hi')
            have e : a.put l[i].dst u = a.put l[i].dst v := by
              cases hdst : l[i].dst with
              | none => rfl
              | some d =>
                rw [hdst] at hK hKu
                have hkeep : ∀ (j : Nat) o, (l.take s).toArray[j]? = some o → (lh.setIfInBounds i true).getD j true = false → o.dst ≠ some d := fun j o hj hu => by
                  by_cases hij : i = j
                  · subst hij
                    simp [h2, his] at hu
                  · exact hl.own i j l[i] o d ho hj hij hdst
                exact put_alike (any_keeps f _ _ hkeep hKu) (any_keeps f _ _ hkeep hK)
            rw [← e]
            exact hKu
          obtain ⟨v2, hy2, hK2⟩ := yieldsIn_of_qOp ho ((h _ (allMade_stable (w0 := w0) Z σ) ⟨hw.choose⟩).2 i hi')
          have e2 : a.put l[i].dst v2 = a.put l[i].dst v := by
            cases hdst : l[i].dst with
            | none => rfl
            | some d =>
              rw [hdst] at hK hK2
              have hkeep : ∀ (j : Nat) o, (l.take s).toArray[j]? = some o → (lh.setIfInBounds i true).getD j true = false → o.dst ≠ some d := fun j o hj hu => by
                by_cases hij : i = j
                · subst hij
                  simp [h2, his] at hu
                · exact hl.own i j l[i] o d ho hj hij hdst
              exact put_alike (any_keeps f _ _ hkeep hK2) (any_keeps f _ _ hkeep hK)
          have hq1 := pts_qOp hp his (hy2.qOp (K := fun b => b = a.put l[i].dst v) ho e2)
          have hq2 := qOp_can (D := D) (σ := σ) ho2 hl.sel hq1 n (fun j hj hne => hl.free i l[i] j his (by simp [hil]) (h6 j hne).1 hj)
          refine wpOp_of_qOp hw ?_ hq2
          rintro b w' hw' ⟨c, rfl, rfl⟩
          exact ih f r (lh.setIfInBounds i true) (lf.setIfInBounds i true) _ w' σ (by omega) (by simp [h1]) (by simp [h2])
            (fun j hj b => by
              by_cases hij : i = j
              · subst hij; simp [h1, h2, hil, his]
              · rw [getD_set_ne b hij, getD_set_ne b hij]; exact h3 j hj b)
            (fun j hj hj2 => by rw [getD_set_ne false (by omega), getD_set_ne true (by omega)]; exact h4 j hj hj2)
            (fun j hj hj2 => by rw [getD_set_ne true (by omega)]; exact h5 j hj hj2) h6 h7 hr (hcl.set hi) hw' hX
      · rcases Nat.lt_or_ge i n with hin | hin
        · have hil : i < l.length := by omega
          have hoi : l[i]? = some l[i] := by simp [hil]
          have he : σ i = none := by
            cases hs : σ i with
            | none => rfl
            | some g =>
              have h8 := (h4 i his hin).1 (by rw [hs]; simp)
              have h9 := getD_tf (mem_ready.1 hi).1
              rw [h8] at h9; cases h9
          obtain ⟨hd, hgd, _⟩ := hl.mid i l[i] his hin hoi
          obtain ⟨k, rfl⟩ := hw
          have hrp : 0 < r := by
            rcases Nat.eq_zero_or_pos r with h8 | h8
            · exact absurd he (left_zero n (by omega) i his hin)
            · exact h8
          have hcan := can_more (D := D) (g := k.w.heap.size) he a n (fun j hj hji hne => hl.unlike j i (h6 j hne).1 hj his hin hji)
          rw [if_pos hin] at hcan
          have hm : Cls w0 (AllMade w0 Z (more σ i k.w.heap.size)) (k.w.alloc (Z i)) :=
            ⟨⟨k.w.alloc (Z i), k.h.alloc k.h.size _, fun j g hg => by
              by_cases hji : j = i
              · subst hji
                simp only [more, if_true, Option.some.injEq] at hg
                subst hg
                exact ⟨heap_alloc_new _ _, k.h.size⟩
              · simp only [more, if_neg hji] at hg
                exact made_stable (Z j) g k.w _ ((Below.refl _ k.w).alloc (Nat.le_refl _) _) (k.x j g hg)⟩, rfl⟩
          unfold wpOp
          rw [show l.toArray[i]? = some l[i] by simp [hil]]
          show if Region.wanted l[i] (yielded l.toArray (can D σ n a).tmps) = true then _ else _
          rw [if_pos (by simp [Region.wanted, hgd])]
          refine .inl ?_
          unfold Oper.wp
          rw [ha i l[i] his hin hoi, Oper.upon_value, hd]
          rw [← hcan]
          refine ih f (r - 1) lh (lf.setIfInBounds i true) a _ (more σ i k.w.heap.size) (by omega) (by simp [h1]) h2 (fun j hj b => by rw [getD_set_ne b (by omega)]; exact h3 j hj b) (fun j hj hj2 => ?_) (fun j hj hj2 => by rw [getD_set_ne true (by omega)]; exact h5 j hj hj2) (fun j hj => ?_) (fun j1 j2 g hne hg1 hg2 => ?_) ?_ (hcl.set hi) hm h
          · by_cases hji : i = j
            · subst hji
              exact ⟨fun _ => by simp [h1, hil], fun hh => by simp [more] at hh⟩
            · rw [getD_set_ne false hji, getD_set_ne true hji, show more σ i k.w.heap.size j = σ j from if_neg (fun e => hji e.symm)]
              exact h4 j hj hj2
          · by_cases hji : j = i
            · subst hji; exact ⟨his, hin⟩
            · rw [show more σ i k.w.heap.size j = σ j from if_neg hji] at hj
              exact h6 j hj
          · -- a new variable is unlike the elder ones
            have old : ∀ j g, j ≠ i → more σ i k.w.heap.size j = some g → g < k.w.heap.size := fun j g hji hg => by
              rw [show more σ i k.w.heap.size j = σ j from if_neg hji] at hg
              have := (k.x j g hg).1
              rcases Nat.lt_or_ge g k.w.heap.size with h' | h'
              · exact h'
              · rw [Array.getElem?_eq_none h'] at this; cases this
            by_cases hj1 : j1 = i
            · subst hj1
              have h8 := old j2 g (fun e => hne e.symm) hg2
              simp only [more, if_true, Option.some.injEq] at hg1
              omega
            · by_cases hj2 : j2 = i
              · subst hj2
                have h8 := old j1 g hj1 hg1
                simp only [more, if_true, Option.some.injEq] at hg2
                omega
              · rw [show more σ i k.w.heap.size j1 = σ j1 from if_neg hj1] at hg1
                rw [show more σ i k.w.heap.size j2 = σ j2 from if_neg hj2] at hg2
                exact h7 j1 j2 g hne hg1 hg2
          · have := left_more (g := k.w.heap.size) his he n hin
            omega
        · exact absurd hi (tail i hin)
end

/-- Two variables that are made: at s and s + 1, in slots d and e. -/
theorem region_lay2 {P : Program} {l : List Oper} {id : Nat} {Q : Exit → Act → World → Prop} {a : Act} {w : World} (s : Nat) (d e : Tmp) (Z Z' : Obj) (hm : P.follows .mixedOrders = true) (hB : ptsB l s (s + 2) l.length = true) (hsl : laysB l s (s + 2) (fun k => if k = s then d else e) = true)
    (os os' : Oper) (hos : l[s]? = some os) (hos' : l[s + 1]? = some os') (ha : ∀ (a : Act) (w : World), (execOp a.eval os).run P w = .ok (.value (ptr w.heap.size)) (w.alloc Z)) (ha' : ∀ (a : Act) (w : World), (execOp a.eval os').run P w = .ok (.value (ptr w.heap.size)) (w.alloc Z'))
    (h : ∃ A, (∀ X, Stable X → Nonempty (ExtX w X) → wpQuiet P (l.take s).toArray (fun w' => ∃ k : ExtX w X, w' = k.w) (fun a' => a' = A) (l.take s) a) ∧
      ∀ g g' w', w.heap.size ≤ g → w.heap.size ≤ g' → g ≠ g' → Below w.heap.size w w' → w'.heap[g]? = some Z → w'.heap[g']? = some Z' → wpList P l.toArray Q (l.drop (s + 2)) ((A.put (some d) (ptr g)).put (some e) (ptr g')) w') :
    (Code.region id l.toArray true).wp P Q a w := by
  obtain ⟨A, hW, hT⟩ := h
  have hp := pts_of hB
  have hl := hp.nl
  have b0 : Below w.heap.size w { w with drawn := w.drawn + 1 } := ⟨rfl, rfl, rfl, Nat.le_refl _, fun _ _ => rfl⟩
  refine wp_region_any hm ?_
  have key := follow_lays (P := P) (w0 := w) (A := A) (Q := Q) (Z := fun k => if k = s then Z else Z') hp (lays_of hsl) (fun h => absurd h (by omega)) (.inr (by omega)) (fun h => absurd h (by omega)) (fun h => absurd h (by omega)) (fun k o hk hkn ho => by
      rcases (show k = s ∨ k = s + 1 by omega) with rfl | rfl
      · rw [hos] at ho; cases ho
        simpa using ha
      · rw [hos'] at ho; cases ho
        simpa using ha')
    (fun σ w' h1 h2 h3 ⟨k, hk⟩ => by
      subst hk
      obtain ⟨g, hg⟩ : ∃ g, σ s = some g := Option.ne_none_iff_exists'.1 (h1 s (Nat.le_refl _) (by omega))
      obtain ⟨g', hg'⟩ : ∃ g, σ (s + 1) = some g := Option.ne_none_iff_exists'.1 (h1 (s + 1) (by omega) (by omega))
      have m1 := k.x s g hg
      have m2 : Made w Z' g' k.w := by have := k.x (s + 1) g' hg'; simpa using this
      simp only [if_true] at m1
      have e1 : can (fun k => if k = s then d else e) σ s A = A := can_none A s (fun i hi => by
        cases hh : σ i with
        | none => rfl
        | some x => have := (h2 i (by rw [hh]; simp)).1; omega)
      have e2 : can (fun k => if k = s then d else e) σ (s + 2) A = (A.put (some d) (ptr g)).put (some e) (ptr g') := by
        simp only [can, hg, hg', e1, if_true]
        rw [if_neg (by omega)]
      rw [e2]
      exact hT g g' k.w m1.2 m2.2 (fun e => h3 s (s + 1) g (by omega) hg (by rw [hg', e])) k.h m1.1 m2.1)
    (s + 2) s 2 (Array.replicate s false) (Array.replicate l.length false) a { w with drawn := w.drawn + 1 } (fun _ => none) rfl (by simp) (by simp) (fun i hi b => by simp [hi, show i < l.length by omega])
    (fun j hj hj2 => ⟨fun h => absurd rfl h, fun _ => by simp [show j < l.length by omega]⟩) (fun i _ hi => by simp [hi]) (fun j h => absurd rfl h) (fun i j g _ h => by cases h)
    (by
      have z : ∀ k, k ≤ s → left s (fun _ => none) k = 0 := by
        intro k
        induction k with
        | zero => intro _; rfl
        | succ k ih => intro hk; simp only [left, ih (by omega)]; rw [if_neg (by omega)]
      simp [left, z s (Nat.le_refl _)])
    (fun j o hj h => by simp [show j < l.length by omega] at h)
    ⟨⟨_, b0, fun j g h => by cases h⟩, rfl⟩ (fun X hX hne => pts_head hp (hW X hX hne))
  rw [show s + 2 + (l.length - (s + 2)) = l.length by omega, can_none (σ := fun _ => none) a (s + 2) (fun _ _ => rfl)] at key
  simpa using key
/-- One variable that is made: at s, in slot d. -/
theorem region_lay1 {P : Program} {l : List Oper} {id : Nat} {Q : Exit → Act → World → Prop} {a : Act} {w : World} (s : Nat) (d : Tmp) (Z : Obj) (hm : P.follows .mixedOrders = true) (hB : ptsB l s (s + 1) l.length = true) (hsl : laysB l s (s + 1) (fun _ => d) = true)
    (os : Oper) (hos : l[s]? = some os) (ha : ∀ (a : Act) (w : World), (execOp a.eval os).run P w = .ok (.value (ptr w.heap.size)) (w.alloc Z))
    (h : ∃ A, (∀ X, Stable X → Nonempty (ExtX w X) → wpQuiet P (l.take s).toArray (fun w' => ∃ k : ExtX w X, w' = k.w) (fun a' => a' = A) (l.take s) a) ∧
      ∀ g w', w.heap.size ≤ g → Below w.heap.size w w' → w'.heap[g]? = some Z → wpList P l.toArray Q (l.drop (s + 1)) (A.put (some d) (ptr g)) w') :
    (Code.region id l.toArray true).wp P Q a w := by
  obtain ⟨A, hW, hT⟩ := h
  have hp := pts_of hB
  have hl := hp.nl
  have b0 : Below w.heap.size w { w with drawn := w.drawn + 1 } := ⟨rfl, rfl, rfl, Nat.le_refl _, fun _ _ => rfl⟩
  refine wp_region_any hm ?_
  have key := follow_lays (P := P) (w0 := w) (A := A) (Q := Q) (Z := fun _ => Z) hp (lays_of hsl) (fun h => absurd h (by omega)) (.inr (by omega)) (fun h => absurd h (by omega)) (fun h => absurd h (by omega)) (fun k o hk hkn ho => by
      obtain rfl : k = s := by omega
      rw [hos] at ho; cases ho
      exact ha)
    (fun σ w' h1 h2 h3 ⟨k, hk⟩ => by
      subst hk
      obtain ⟨g, hg⟩ : ∃ g, σ s = some g := Option.ne_none_iff_exists'.1 (h1 s (Nat.le_refl _) (by omega))
      have m1 := k.x s g hg
      have e1 : can (fun _ => d) σ s A = A := can_none A s (fun i hi => by
        cases hh : σ i with
        | none => rfl
        | some x => have := (h2 i (by rw [hh]; simp)).1; omega)
      have e2 : can (fun _ => d) σ (s + 1) A = A.put (some d) (ptr g) := by
        simp only [can, hg, e1]
      rw [e2]
      exact hT g k.w m1.2 k.h m1.1)
    (s + 1) s 1 (Array.replicate s false) (Array.replicate l.length false) a { w with drawn := w.drawn + 1 } (fun _ => none) rfl (by simp) (by simp) (fun i hi b => by simp [hi, show i < l.length by omega])
    (fun j hj hj2 => ⟨fun h => absurd rfl h, fun _ => by simp [show j < l.length by omega]⟩) (fun i _ hi => by simp [hi]) (fun j h => absurd rfl h) (fun i j g _ h => by cases h)
    (by
      have z : ∀ k, k ≤ s → left s (fun _ => none) k = 0 := by
        intro k
        induction k with
        | zero => intro _; rfl
        | succ k ih => intro hk; simp only [left, ih (by omega)]; rw [if_neg (by omega)]
      simp [left, z s (Nat.le_refl _)])
    (fun j o hj h => by simp [show j < l.length by omega] at h)
    ⟨⟨_, b0, fun j g h => by cases h⟩, rfl⟩ (fun X hX hne => pts_head hp (hW X hX hne))
  rw [show s + 1 + (l.length - (s + 1)) = l.length by omega, can_none (σ := fun _ => none) a (s + 1) (fun _ _ => rfl)] at key
  simpa using key
/-- What takes one out of several hangs on no world. -/
theorem extract_pure {P : Program} {o : Oper} {t : Operand} {ix : Nat} (ho : o.op = .extract t ix) (a : Act) (C : World → Prop) (w : World) (v : Value) (h : o.quietAt P a C w v) : ∀ w', (execOp a.eval o).run P w' = .ok (.value v) w' := by
  intro w'
  unfold Oper.quietAt execOp at h
  unfold execOp
  rw [ho] at h ⊢
  simp only [Instr.extract] at h ⊢
  cases hv : a.eval t with
  | tuple vs =>
    rw [hv] at h
    cases hx : vs[ix]? with
    | some x =>
      simp only [hx] at h ⊢
      have h' : w = w ∧ x = v := h
      rw [h'.2]; rfl
    | none => simp only [hx] at h; exact False.elim h
  | _ => rw [hv] at h; exact False.elim h

/-- The same, where one operation of the head, the lt-th, may come behind the tail's first one. -/
theorem region_late1 {P : Program} {l : List Oper} {id : Nat} {Q : Exit → Act → World → Prop} {a : Act} {w : World} (s : Nat) (d : Tmp) (Z : Obj) (lt : Nat) (hlt : lt < s) (hm : P.follows .mixedOrders = true) (hB : ptsB l s (s + 1) lt = true) (hsl : laysB l s (s + 1) (fun _ => d) = true)
    (hfree : Region.free .any l.toArray ((upTo (s + 1) l.length).setIfInBounds lt false) lt = true) (hready : (Region.ready .any l.toArray ((upTo (s + 1) l.length).setIfInBounds lt false)).contains lt = true)
    (ol : Oper) (t : Operand) (ix : Nat) (hol : l[lt]? = some ol) (hop : ol.op = .extract t ix) (hQ : ∀ c a d v w, Q (.panic c) (a.put (some d) v) w → Q (.panic c) a w)
    (os : Oper) (hos : l[s]? = some os) (ha : ∀ (a : Act) (w : World), (execOp a.eval os).run P w = .ok (.value (ptr w.heap.size)) (w.alloc Z))
    (h : ∃ A, (∀ X, Stable X → Nonempty (ExtX w X) → wpQuiet P (l.take s).toArray (fun w' => ∃ k : ExtX w X, w' = k.w) (fun a' => a' = A) (l.take s) a) ∧
      ∀ g w', w.heap.size ≤ g → Below w.heap.size w w' → w'.heap[g]? = some Z → wpList P l.toArray Q (l.drop (s + 1)) (A.put (some d) (ptr g)) w') :
    (Code.region id l.toArray true).wp P Q a w := by
  obtain ⟨A, hW, hT⟩ := h
  have hp := pts_of hB
  have hl := hp.nl
  have b0 : Below w.heap.size w { w with drawn := w.drawn + 1 } := ⟨rfl, rfl, rfl, Nat.le_refl _, fun _ _ => rfl⟩
  refine wp_region_any hm ?_
  have key := follow_lays (P := P) (w0 := w) (A := A) (Q := Q) (Z := fun _ => Z) hp (lays_of hsl) (fun _ => ⟨hfree, hready⟩) (.inl hlt) (fun _ o ho => by rw [hol] at ho; cases ho; exact extract_pure hop) (fun _ => hQ) (fun k o hk hkn ho => by
      obtain rfl : k = s := by omega
      rw [hos] at ho; cases ho
      exact ha)
    (fun σ w' h1 h2 h3 ⟨k, hk⟩ => by
      subst hk
      obtain ⟨g, hg⟩ : ∃ g, σ s = some g := Option.ne_none_iff_exists'.1 (h1 s (Nat.le_refl _) (by omega))
      have m1 := k.x s g hg
      have e1 : can (fun _ => d) σ s A = A := can_none A s (fun i hi => by
        cases hh : σ i with
        | none => rfl
        | some x => have := (h2 i (by rw [hh]; simp)).1; omega)
      have e2 : can (fun _ => d) σ (s + 1) A = A.put (some d) (ptr g) := by
        simp only [can, hg, e1]
      rw [e2]
      exact hT g k.w m1.2 k.h m1.1)
    (s + 1) s 1 (Array.replicate s false) (Array.replicate l.length false) a { w with drawn := w.drawn + 1 } (fun _ => none) rfl (by simp) (by simp) (fun i hi b => by simp [hi, show i < l.length by omega])
    (fun j hj hj2 => ⟨fun h => absurd rfl h, fun _ => by simp [show j < l.length by omega]⟩) (fun i _ hi => by simp [hi]) (fun j h => absurd rfl h) (fun i j g _ h => by cases h)
    (by
      have z : ∀ k, k ≤ s → left s (fun _ => none) k = 0 := by
        intro k
        induction k with
        | zero => intro _; rfl
        | succ k ih => intro hk; simp only [left, ih (by omega)]; rw [if_neg (by omega)]
      simp [left, z s (Nat.le_refl _)])
    (fun j o hj h => by simp [show j < l.length by omega] at h)
    ⟨⟨_, b0, fun j g h => by cases h⟩, rfl⟩ (fun X hX hne => pts_head hp (hW X hX hne))
  rw [show s + 1 + (l.length - (s + 1)) = l.length by omega, can_none (σ := fun _ => none) a (s + 1) (fun _ _ => rfl)] at key
  simpa using key
end Go.Proofs.YtdaapanmalcgbabDoor
