
/-
  Regions that draw their order, once more: a head of quiet operations and a tail in one order, where the tail's first operation waits for some of the head only by way of others. No Go text is walked here.
-/
import Derived.Test.YtninhcnpjadjpaaTail
namespace Go.Proofs.Ytninhcnpjadjpaa
open Go.RowKit

section
variable {P : Program} {l : List Oper} {C : World → Prop}

/-- The n first operations stand by themselves; from the n-th on all come last, in one order; the n-th waits for each of the first, or for one that does. -/
def conesB (l : List Oper) (n : Nat) : Bool :=
  Region.lexB .any (l.take n).toArray &&
  (List.range n).all (fun i => match l[i]? with | some o => o.after.all (fun e => !Region.binds .any e || decide (e.on < i)) && (match o.guard with | some (j, _) => decide (j < n) | none => true) | none => false) &&
  decide (n < l.length) &&
  (List.range n).all (fun i => waitsB l n i || (List.range n).any (fun t => decide (i < t) && waitsB l t i)) &&
  (List.range l.length).all (fun t => decide (t ≤ n) || waitsB l t (t - 1)) &&
  Region.seqB .any l.toArray (l.length - n) n (upTo n l.length)

structure Cones (l : List Oper) (n : Nat) : Prop where
  lex : Region.lexB .any (l.take n).toArray = true
  back : ∀ i o, i < n → l[i]? = some o → ∀ e ∈ o.after, Region.binds .any e = true → e.on < i
  guards : ∀ i o j b, i < n → l[i]? = some o → o.guard = some (j, b) → j < n
  nl : n < l.length
  reach : ∀ i, i < n → waitsB l n i = true ∨ ∃ t, i < t ∧ t < n ∧ waitsB l t i = true
  chain : ∀ t o, n < t → l[t]? = some o → ∃ e ∈ o.after, Region.binds .any e = true ∧ e.on = t - 1
  seq : Region.seqB .any l.toArray (l.length - n) n (upTo n l.length) = true

theorem cones_of {n : Nat} (h : conesB l n = true) : Cones l n := by
  simp only [conesB, Bool.and_eq_true, decide_eq_true_eq, List.all_eq_true, List.mem_range, Bool.or_eq_true, List.any_eq_true] at h
  obtain ⟨⟨⟨⟨⟨h1, h2⟩, h4⟩, h5⟩, h6⟩, h7⟩ := h
  refine ⟨h1, fun i o hi ho e he hb => ?_, fun i o j b hi ho hg => ?_, h4, fun i hi => ?_, fun t o ht ho => ?_, h7⟩
  · have := h2 i hi
    rw [ho] at this
    simp only [Bool.and_eq_true] at this
    have := Array.all_eq_true_iff_forall_mem.1 this.1 e he
    simpa [hb] using this
  · have := h2 i hi
    rw [ho] at this
    simp only [Bool.and_eq_true] at this
    simpa [hg] using this.2
  · rcases h5 i hi with h | ⟨t, ht, hlt, hw⟩
    · exact .inl h
    · exact .inr ⟨t, hlt, ht, hw⟩
  · have hl : t < l.length := (List.getElem?_eq_some_iff.1 ho).1
    rcases h6 t hl with h | h
    · omega
    · exact waits_of h ho

/-- The whole region's list of what has come up beside the head's: what has come up has all behind it that it waits for. -/
structure Along (l : List Oper) (n : Nat) (lh lf : Array Bool) : Prop where
  side : Beside l n n lh lf
  closed : ∀ j o, j < n → lf.getD j false = true → l[j]? = some o → ∀ e ∈ o.after, Region.binds .any e = true → lf.getD e.on false = true

theorem set_true {x : Array Bool} {i j : Nat} (h : x.getD j false = true) : (x.setIfInBounds i true).getD j false = true := by
  by_cases e : i = j
  · subst e
    by_cases hi : i < x.size
    · simp [hi]
    · simp [hi] at h
  · rw [getD_set_ne false e]; exact h

theorem ready_along {n i : Nat} {lh lf : Array Bool} (hp : Cones l n) (hsame : ∀ i, i < n → ∀ b, lf.getD i b = lh.getD i b) (hi : i < n) :
    i ∈ Region.ready .any l.toArray lf ↔ i ∈ Region.ready .any (l.take n).toArray lh := by
  rw [mem_ready, mem_ready, take_get hi, hsame i hi true]
  constructor
  · rintro ⟨h1, o, ho, h2⟩
    exact ⟨h1, o, ho, fun e he hbd => by have := hp.back i o hi (by simpa using ho) e he hbd; rw [← hsame e.on (by omega) false]; exact h2 e he hbd⟩
  · rintro ⟨h1, o, ho, h2⟩
    exact ⟨h1, o, ho, fun e he hbd => by have := hp.back i o hi (by simpa using ho) e he hbd; rw [hsame e.on (by omega) false]; exact h2 e he hbd⟩

theorem Along.set {n i : Nat} {lh lf : Array Bool} (h : Along l n lh lf) (hi : i < n) (hr : i ∈ Region.ready .any l.toArray lf) : Along l n (lh.setIfInBounds i true) (lf.setIfInBounds i true) := by
  refine ⟨h.side.set hi (Nat.le_refl _), fun j o hj hl ho e he hb => set_true ?_⟩
  by_cases hij : i = j
  · subst hij
    obtain ⟨_, o', ho', h2⟩ := mem_ready.1 hr
    have : o' = o := by have h3 : l[i]? = some o' := by simpa using ho'
                        rw [ho] at h3; exact (Option.some.inj h3).symm
    subst this
    exact h2 e he hb
  · rw [getD_set_ne false hij] at hl
    exact h.closed j o hj hl ho e he hb

theorem head_full {n : Nat} {lh : Array Bool} (hp : Cones l n) (hsz : lh.size = n) (h : Region.ready .any (l.take n).toArray lh = []) : ∀ i, i < n → lh.getD i false = true := by
  intro i
  induction i using Nat.strongRecOn with
  | _ i ih =>
    intro hi
    rcases getD_or (x := lh) (i := i) (by rw [hsz]; exact hi) with h1 | h1
    · have hl : i < l.length := by have := hp.nl; omega
      have : i ∈ Region.ready .any (l.take n).toArray lh := mem_ready.2 ⟨h1, l[i], by simp [hi, hl], fun e he hbd => by
        have := hp.back i l[i] hi (by simp [hl]) e he hbd
        exact ih e.on this (by omega)⟩
      rw [h] at this; cases this
    · exact h1

/-- While an operation below n has not come up the n-th can't. -/
theorem nth_later {n : Nat} {lh lf : Array Bool} (hp : Cones l n) (hb : Along l n lh lf) : ∀ (d j : Nat), n - j = d → j < n → lf.getD j false = false → n ∉ Region.ready .any l.toArray lf := by
  intro d
  induction d using Nat.strongRecOn with
  | _ d ih =>
    intro j hd hj hun hr
    rcases hp.reach j hj with h | ⟨t, h1, h2, h3⟩
    · obtain ⟨_, o, ho, hall⟩ := mem_ready.1 hr
      obtain ⟨e, he, hbd, hon⟩ := waits_of h (by simpa using ho)
      have := hall e he hbd
      rw [hon, hun] at this; cases this
    · have htl : t < l.length := by have := hp.nl; omega
      refine ih (n - t) (by omega) t rfl h2 ?_ hr
      rcases getD_or (x := lf) (i := t) (by rw [hb.side.sf]; exact htl) with h4 | h4
      · exact getD_tf h4
      · obtain ⟨e, he, hbd, hon⟩ := waits_of h3 (show l[t]? = some l[t] by simp [htl])
        have := hb.closed t l[t] h2 h4 (by simp [htl]) e he hbd
        rw [hon, hun] at this; cases this
theorem tail_after {n j t : Nat} {lh lf : Array Bool} (hp : Cones l n) (hb : Along l n lh lf) (hj : j < n) (hun : lf.getD j false = false) (ht : n ≤ t) : t ∉ Region.ready .any l.toArray lf := by
  intro hr
  by_cases htn : t = n
  · subst htn; exact nth_later hp hb _ j rfl hj hun hr
  · obtain ⟨_, o, ho, h2⟩ := mem_ready.1 hr
    have ho' : l[t]? = some o := by simpa using ho
    obtain ⟨e, he, hbd, hon⟩ := hp.chain t o (by omega) ho'
    have h3 := h2 e he hbd
    have htl : t < l.length := (List.getElem?_eq_some_iff.1 ho').1
    have := getD_tf (hb.side.tail (t - 1) (by omega) (by omega))
    rw [hon, this] at h3; cases h3

/-- An operation of the head, in the whole region. -/
theorem qOp_along {n i : Nat} {K : Act → Prop} {a : Act} (hp : Cones l n) (hi : i < n) (h : qOp P (l.take n).toArray C i K a) : qOp P l.toArray C i K a := by
  have hl : i < l.length := by have := hp.nl; omega
  have h1 : (l.take n).toArray[i]? = some l[i] := by simp [hi, hl]
  have h2 : l.toArray[i]? = some l[i] := by simp [hl]
  obtain ⟨v, hy, hK⟩ := yieldsIn_of_qOp h1 h
  have hw : Region.wanted l[i] (yielded l.toArray a.tmps) = Region.wanted l[i] (yielded (l.take n).toArray a.tmps) := by
    unfold Region.wanted
    cases hg : l[i].guard with
    | none => rfl
    | some jb =>
      obtain ⟨j, b⟩ := jb
      have hj := hp.guards i l[i] j b hi (by simp [hl]) hg
      simp only [yielded, take_get hj]
  have hy' : YieldsIn P l.toArray C l[i] v a := by
    unfold YieldsIn Oper.quietAt at hy ⊢
    rw [hw]
    exact hy
  exact hy'.qOp h2 hK

theorem follow_along {n : Nat} {Lq : Act → Prop} {Q : Exit → Act → World → Prop} (hp : Cones l n) (hT : ∀ a w, C w → Lq a → wpList P l.toArray Q (l.drop n) a w) :
    ∀ (f : Nat) (lh lf : Array Bool) (a : Act) (w : World), Along l n lh lf → C w → wpAnyQ P .any (l.take n).toArray C Lq f lh a → wpAny P .any l.toArray Q (f + (l.length - n)) lf a w := by
  have last : ∀ (f : Nat) (lh lf : Array Bool) (a : Act) (w : World), Along l n lh lf → C w → Region.ready .any (l.take n).toArray lh = [] → Lq a → wpAny P .any l.toArray Q (f + (l.length - n)) lf a w := by
    intro f lh lf a w hb hw hr hl
    refine any_lift ?_ f
    rw [eq_upTo hb.side (head_full hp hb.side.sh hr)]
    have := wpAny_of_seq (P := P) (ops := l.toArray) (md := .any) (Q' := Q) (l.drop n) n (upTo n l.length) a w (fun j => by simp [List.getElem?_drop]) (by rw [List.length_drop]; exact hp.seq) (hT a w hw hl)
    rwa [List.length_drop] at this
  intro f
  induction f with
  | zero => exact fun lh lf a w hb hw h => last 0 lh lf a w hb hw h.1 h.2
  | succ f ih =>
    intro lh lf a w hb hw h
    by_cases hr : Region.ready .any (l.take n).toArray lh = []
    · exact last (f + 1) lh lf a w hb hw hr (h.1 hr)
    · obtain ⟨i0, hi0⟩ : ∃ i0, i0 ∈ Region.ready .any (l.take n).toArray lh := List.exists_mem_of_ne_nil _ hr
      have hs0 : i0 < n := by
        obtain ⟨_, o, ho, _⟩ := mem_ready.1 hi0
        have := (Array.getElem?_eq_some_iff.1 ho).1
        simp at this; omega
      have hun : lf.getD i0 false = false := getD_tf (by rw [hb.side.same i0 hs0]; exact (mem_ready.1 hi0).1)
      rw [show f + 1 + (l.length - n) = (f + (l.length - n)) + 1 by omega]
      refine ⟨fun h0 => ?_, fun i hi => ?_⟩
      · have := (ready_along hp hb.side.same hs0).2 hi0
        rw [h0] at this; cases this
      · have his : i < n := by
          rcases Nat.lt_or_ge i n with h1 | h1
          · exact h1
          · exact absurd hi (tail_after hp hb hs0 hun h1)
        refine wpOp_of_qOp hw ?_ (qOp_along hp his (h.2 i ((ready_along hp hb.side.same his).1 hi)))
        intro b w' hw' hc
        exact ih _ _ b w' (hb.set his hi) hw' hc

theorem head_lex {n : Nat} {Lq : Act → Prop} {a : Act} (hp : Cones l n) (h : wpQuiet P (l.take n).toArray C Lq (l.take n) a) : wpAnyQ P .any (l.take n).toArray C Lq n (Array.replicate n false) a := by
  have hB := hp.lex
  have hs : (l.take n).length = n := by have := hp.nl; simp; omega
  simp only [Region.lexB, Bool.and_eq_true] at hB
  have := wpAnyQ_lex (P := P) (C := C) (Q := Lq) hB.1 (l.take n) 0 (Array.replicate n false) a (by simp) (by have := hB.2; simpa [hs] using this) h
  rwa [hs] at this

theorem region_cone {id : Nat} {Q : Exit → Act → World → Prop} {a : Act} {w : World} (n : Nat) (hm : P.follows .mixedOrders = true) (hB : conesB l n = true) (hC : C { w with drawn := w.drawn + 1 })
    (h : wpQuiet P (l.take n).toArray C (fun a' => ∀ w', C w' → wpList P l.toArray Q (l.drop n) a' w') (l.take n) a) : (Code.region id l.toArray true).wp P Q a w := by
  have hp := cones_of hB
  have hl := hp.nl
  refine wp_region_any hm ?_
  have := follow_along (Q := Q) hp (fun a' w' hw' hq => hq w' hw') n _ _ a { w with drawn := w.drawn + 1 } ⟨beside_new rfl hp.nl, fun j o hj hl' ho => by
    have hjl : j < l.length := by omega
    simp [hjl] at hl'⟩ hC (head_lex hp h)
  rw [show n + (l.length - n) = l.length by omega] at this
  simpa using this
end

theorem region_ext_cone {P : Program} {id : Nat} {Q : Exit → Act → World → Prop} {a : Act} {w : World} {l : List Oper} (n : Nat) (hm : P.follows .mixedOrders = true) (hB : conesB l n = true)
    (h : wpQuiet P (l.take n).toArray (fun w' => ∃ k : Ext w, w' = k.w) (fun a' => ∀ w', (∃ k : Ext w, w' = k.w) → wpList P l.toArray Q (l.drop n) a' w') (l.take n) a) : (Code.region id l.toArray true).wp P Q a w :=
  region_cone (C := fun w' => ∃ k : Ext w, w' = k.w) n hm hB ⟨⟨{ w with drawn := w.drawn + 1 }, ⟨rfl, rfl, rfl, Nat.le_refl _, fun _ _ => rfl⟩⟩, rfl⟩ h
end Go.Proofs.Ytninhcnpjadjpaa
