/-
  A region that draws its order, parted into segments: each ends with an operation that waits for all of its segment, and for which whatever follows waits; each segment is then walked by itself, in whatever order, as a small region whose numbers begin anew (its number 0 is the one that closed the segment ahead). No Go text is walked here.
-/
import Derived.Test.YtninhcnpjadjpaaCone
import Derived.Test.YtninhcnpjadjpaaHeld
namespace Go.Proofs.Ytninhcnpjadjpaa
open Go.RowKit

section
variable {P : Program} {l : List Oper} {Q : Exit → Act → World → Prop}

/-- K where the segment has ended; any other way out is the region's own. -/
def segQ (Q : Exit → Act → World → Prop) (K : Act → World → Prop) : Exit → Act → World → Prop
  | .normal, a, w => K a w
  | e, a, w => Q e a w
theorem segQ_end {K : Act → World → Prop} {a : Act} {w : World} (h : K a w) : segQ Q K .normal a w := h
theorem segQ_lets {K : Act → World → Prop} (h : LetsOut (segQ Q K)) : LetsOut Q := by
  obtain ⟨a, w, h⟩ := h
  exact ⟨a, w, h⟩
theorem segQ_wp {o : Oper} {a : Act} {w : World} {K K' : Act → World → Prop} (hh : o.wp P a w K' (segQ Q K)) : o.wp P a w K' Q := by
  unfold Oper.wp at *
  generalize (execOp a.eval o).run P w = r at *
  cases r with
  | ok n w' =>
    cases n <;> simp only [Oper.upon] at hh ⊢ <;>
      first
        | exact hh
        | exact Calls.mono hh (fun e w'' he => by cases e <;> first | exact he | exact segQ_lets he)
  | halt x w' => cases x <;> simp only [Oper.upon] at hh ⊢ <;> exact hh

/-- An operation whose numbers begin at b. -/
def sh (b : Nat) (o : Oper) : Oper :=
  { o with after := (o.after.filter (fun e => decide (b ≤ e.on))).map (fun e => { e with on := e.on - b }), guard := o.guard.map (fun g => (g.1 - b, g.2)) }
def sub (l : List Oper) (b : Nat) : List Oper := (l.drop b).map (sh b)
theorem sub_get (b i : Nat) : (sub l b)[i]? = (l[b + i]?).map (sh b) := by
  unfold sub
  rw [List.getElem?_map, List.getElem?_drop]
theorem sub_len (b : Nat) : (sub l b).length = l.length - b := by unfold sub; simp
theorem sh_wp {b : Nat} {o : Oper} {a : Act} {w : World} {K : Act → World → Prop} : (sh b o).wp P a w K Q = o.wp P a w K Q := rfl
theorem sh_asks {b : Nat} {o : Oper} {a : Act} {w : World} : (sh b o).asks P a w = o.asks P a w := rfl
theorem sh_wanted {b : Nat} {o : Oper} {tmps : Array Value} (hg : ∀ j v, o.guard = some (j, v) → b ≤ j) : Region.wanted (sh b o) (yielded (sub l b).toArray tmps) = Region.wanted o (yielded l.toArray tmps) := by
  unfold Region.wanted
  cases h : o.guard with
  | none => simp [sh, h]
  | some jv =>
    obtain ⟨j, v⟩ := jv
    have hj := hg j v h
    have : (sh b o).guard = some (j - b, v) := by simp [sh, h]
    rw [this]
    simp only [yielded, List.getElem?_toArray, sub_get, show b + (j - b) = j by omega]
    cases l[j]? with
    | none => rfl
    | some o' => rfl
theorem wpOp_sub {b i : Nat} {a : Act} {w : World} {K : Act → World → Prop} (hg : ∀ t o j v, b ≤ t → l[t]? = some o → o.guard = some (j, v) → b ≤ j) (h : wpOp P (sub l b).toArray Q i K a w) : wpOp P l.toArray Q (b + i) K a w := by
  unfold wpOp at *
  rw [List.getElem?_toArray, sub_get] at h
  rw [List.getElem?_toArray]
  cases ho : l[b + i]? with
  | none => rw [ho] at h; exact h
  | some o =>
    rw [ho] at h
    simp only [Option.map_some] at h
    rw [sh_wanted (fun j v hj => hg (b + i) o j v (by omega) ho hj), sh_wp, sh_asks] at h
    exact h

/-- What has come up in the whole list, and in the one that begins at b. -/
structure Sd (b : Nat) (lf ls : Array Bool) : Prop where
  size : lf.size = b + ls.size
  low : ∀ i, i < b → lf.getD i false = true
  up : ∀ i d, lf.getD (b + i) d = ls.getD i d
theorem Sd.set {b i : Nat} {lf ls : Array Bool} (h : Sd b lf ls) : Sd b (lf.setIfInBounds (b + i) true) (ls.setIfInBounds i true) := by
  refine ⟨by simp [h.size], fun j hj => by rw [getD_set_ne false (by omega)]; exact h.low j hj, fun j d => ?_⟩
  by_cases e : i = j
  · subst e
    by_cases hi : i < ls.size
    · have : b + i < lf.size := by rw [h.size]; omega
      simp [hi, this]
    · have : ¬ b + i < lf.size := by rw [h.size]; omega
      simp [hi, this]
  · rw [getD_set_ne d (by omega), getD_set_ne d e]; exact h.up j d
theorem ready_sub {b : Nat} {lf ls : Array Bool} (h : Sd b lf ls) (j : Nat) : j ∈ Region.ready .any l.toArray lf ↔ ∃ i, j = b + i ∧ i ∈ Region.ready .any (sub l b).toArray ls := by
  constructor
  · intro hj
    obtain ⟨h1, o, ho, h2⟩ := mem_ready.1 hj
    have hb : b ≤ j := by
      rcases Nat.lt_or_ge j b with h3 | h3
      · have h4 := h.low j h3
        have : j < lf.size := by rw [h.size]; omega
        simp [this] at h1 h4
        rw [h4] at h1; cases h1
      · exact h3
    refine ⟨j - b, by omega, mem_ready.2 ⟨by rw [← h.up, show b + (j - b) = j by omega]; exact h1, sh b o, ?_, fun e he hbd => ?_⟩⟩
    · rw [List.getElem?_toArray, sub_get, show b + (j - b) = j by omega]
      rw [List.getElem?_toArray] at ho
      rw [ho]; rfl
    · simp only [sh, Array.mem_map, Array.mem_filter, decide_eq_true_eq] at he
      obtain ⟨e0, ⟨he0, hbe⟩, rfl⟩ := he
      have := h2 e0 he0 hbd
      rw [show e0.on = b + (e0.on - b) by omega, h.up] at this
      exact this
  · rintro ⟨i, rfl, hi⟩
    obtain ⟨h1, o, ho, h2⟩ := mem_ready.1 hi
    rw [List.getElem?_toArray, sub_get] at ho
    obtain ⟨o0, ho0, rfl⟩ := Option.map_eq_some_iff.1 ho
    refine mem_ready.2 ⟨by rw [h.up]; exact h1, o0, by rw [List.getElem?_toArray]; exact ho0, fun e he hbd => ?_⟩
    rcases Nat.lt_or_ge e.on b with h3 | h3
    · exact h.low _ h3
    · have := h2 { e with on := e.on - b } (by simp only [sh, Array.mem_map, Array.mem_filter, decide_eq_true_eq]; exact ⟨e, ⟨he, h3⟩, rfl⟩) hbd
      rw [show e.on = b + (e.on - b) by omega, h.up]
      exact this
theorem shift_any {b : Nat} (hg : ∀ t o j v, b ≤ t → l[t]? = some o → o.guard = some (j, v) → b ≤ j) :
    ∀ (f : Nat) (lf ls : Array Bool) (a : Act) (w : World), Sd b lf ls → wpAny P .any (sub l b).toArray Q f ls a w → wpAny P .any l.toArray Q f lf a w := by
  have hnil : ∀ {lf ls : Array Bool}, Sd b lf ls → (Region.ready .any l.toArray lf = [] ↔ Region.ready .any (sub l b).toArray ls = []) := by
    intro lf ls h
    constructor
    · intro h0
      refine List.eq_nil_iff_forall_not_mem.2 fun i hi => ?_
      have := (ready_sub (l := l) h (b + i)).2 ⟨i, rfl, hi⟩
      rw [h0] at this; cases this
    · intro h0
      refine List.eq_nil_iff_forall_not_mem.2 fun j hj => ?_
      obtain ⟨i, _, hi⟩ := (ready_sub h j).1 hj
      rw [h0] at hi; cases hi
  intro f
  induction f with
  | zero => exact fun lf ls a w hs h => ⟨(hnil hs).2 h.1, h.2⟩
  | succ f ih =>
    intro lf ls a w hs h
    refine ⟨fun h0 => h.1 ((hnil hs).1 h0), fun j hj => ?_⟩
    obtain ⟨i, rfl, hi⟩ := (ready_sub hs j).1 hj
    exact wpOp_mono (fun a' w' h' => ih _ _ a' w' hs.set h') (wpOp_sub hg (h.2 i hi))

/-- The n first operations are a segment: they wait for one another alone, the last one of them for each of the others (or for one that does); what follows waits for that last one, or for what stands between; c of them have come up already. -/
def segB (c : Nat) (l : List Oper) (n : Nat) : Bool :=
  decide (c < n) && decide (n < l.length) && (match l[n - 1]? with | some o => o.guard.isNone | none => false) &&
  l.zipIdx.all (fun x => if x.2 < n
    then x.1.after.all (fun e => !Region.binds .any e || (decide (e.on < x.2) && decide (c ≤ x.2))) && (match x.1.guard with | some (j, _) => decide (j < n) | none => true)
    else x.1.after.any (fun e => Region.binds .any e && decide (n ≤ e.on + 1) && decide (e.on < x.2)) && (match x.1.guard with | some (j, _) => decide (n ≤ j + 1) | none => true)) &&
  (List.range n).all (fun i => decide (n ≤ i + 1) || (List.range n).any (fun t => decide (i < t) && waitsB l t i))

structure Sg (c : Nat) (l : List Oper) (n : Nat) : Prop where
  cn : c < n
  nl : n < l.length
  close : ∀ o, l[n - 1]? = some o → o.guard = none
  back : ∀ i o, i < n → l[i]? = some o → ∀ e ∈ o.after, Region.binds .any e = true → e.on < i ∧ c ≤ i
  guards : ∀ i o j b, i < n → l[i]? = some o → o.guard = some (j, b) → j < n
  late : ∀ t o j b, n ≤ t → l[t]? = some o → o.guard = some (j, b) → n ≤ j + 1
  reach : ∀ i, i + 1 < n → ∃ t, i < t ∧ t < n ∧ waitsB l t i = true
  rest : ∀ t o, n ≤ t → l[t]? = some o → ∃ e ∈ o.after, Region.binds .any e = true ∧ n ≤ e.on + 1 ∧ e.on < t

theorem sg_of {c n : Nat} (h : segB c l n = true) : Sg c l n := by
  simp only [segB, Bool.and_eq_true, decide_eq_true_eq, List.all_eq_true, List.mem_range, Bool.or_eq_true, List.any_eq_true] at h
  obtain ⟨⟨⟨⟨h1, h2⟩, h0⟩, h3⟩, h4⟩ := h
  have hz : ∀ i o, l[i]? = some o → (o, i) ∈ l.zipIdx := fun i o ho => List.mem_zipIdx_iff_getElem?.2 ho
  refine ⟨h1, h2, fun o ho => by rw [ho] at h0; simpa using h0, fun i o hi ho e he hb => ?_, fun i o j b hi ho hg => ?_, fun t o j b ht ho hg => ?_, fun i hi => ?_, fun t o ht ho => ?_⟩
  · have := h3 _ (hz i o ho)
    simp only [hi, if_true, Bool.and_eq_true] at this
    have := Array.all_eq_true_iff_forall_mem.1 this.1 e he
    simpa [hb] using this
  · have := h3 _ (hz i o ho)
    simp only [hi, if_true, Bool.and_eq_true] at this
    simpa [hg] using this.2
  · have := h3 _ (hz t o ho)
    rw [if_neg (by show ¬ t < n; omega), Bool.and_eq_true] at this
    simpa [hg] using this.2
  · rcases h4 i (by omega) with h | ⟨t, ht, hlt, hw⟩
    · omega
    · exact ⟨t, hlt, ht, hw⟩
  · have := h3 _ (hz t o ho)
    rw [if_neg (by show ¬ t < n; omega), Bool.and_eq_true] at this
    obtain ⟨e, he, hb⟩ := Array.any_eq_true'.1 this.1
    simp only [Bool.and_eq_true, decide_eq_true_eq] at hb
    exact ⟨e, he, hb.1.1, hb.1.2, hb.2⟩

theorem sg_ready {c n i : Nat} {lh lf : Array Bool} (hp : Sg c l n) (hsame : ∀ i, i < n → ∀ b, lf.getD i b = lh.getD i b) (hi : i < n) :
    i ∈ Region.ready .any l.toArray lf ↔ i ∈ Region.ready .any (l.take n).toArray lh := by
  rw [mem_ready, mem_ready, take_get hi, hsame i hi true]
  constructor
  · rintro ⟨h1, o, ho, h2⟩
    exact ⟨h1, o, ho, fun e he hbd => by have := hp.back i o hi (by simpa using ho) e he hbd; rw [← hsame e.on (by omega) false]; exact h2 e he hbd⟩
  · rintro ⟨h1, o, ho, h2⟩
    exact ⟨h1, o, ho, fun e he hbd => by have := hp.back i o hi (by simpa using ho) e he hbd; rw [hsame e.on (by omega) false]; exact h2 e he hbd⟩
theorem sg_full {c n : Nat} {lh : Array Bool} (hp : Sg c l n) (hsz : lh.size = n) (h : Region.ready .any (l.take n).toArray lh = []) : ∀ i, i < n → lh.getD i false = true := by
  intro i
  induction i using Nat.strongRecOn with
  | _ i ih =>
    intro hi
    rcases getD_or (x := lh) (i := i) (by rw [hsz]; exact hi) with h1 | h1
    · have hl : i < l.length := by have := hp.nl; omega
      have : i ∈ Region.ready .any (l.take n).toArray lh := mem_ready.2 ⟨h1, l[i], by simp [hi, hl], fun e he hbd => by
        have := hp.back i l[i] hi (by simp [hl]) e he hbd
        exact ih e.on this.1 (by omega)⟩
      rw [h] at this; cases this
    · exact h1
theorem sg_later {c n : Nat} {lh lf : Array Bool} (hp : Sg c l n) (hb : Along l n lh lf) : ∀ (d j : Nat), n - j = d → j < n → lf.getD j false = false → lf.getD (n - 1) false = false := by
  intro d
  induction d using Nat.strongRecOn with
  | _ d ih =>
    intro j hd hj hun
    by_cases hjn : j + 1 < n
    · obtain ⟨t, h1, h2, h3⟩ := hp.reach j hjn
      have htl : t < l.length := by have := hp.nl; omega
      refine ih (n - t) (by omega) t rfl h2 ?_
      rcases getD_or (x := lf) (i := t) (by rw [hb.side.sf]; exact htl) with h4 | h4
      · exact getD_tf h4
      · obtain ⟨e, he, hbd, hon⟩ := waits_of h3 (show l[t]? = some l[t] by simp [htl])
        have := hb.closed t l[t] h2 h4 (by simp [htl]) e he hbd
        rw [hon, hun] at this; cases this
    · rw [show n - 1 = j by omega]; exact hun
theorem sg_after {c n j t : Nat} {lh lf : Array Bool} (hp : Sg c l n) (hb : Along l n lh lf) (hj : j < n) (hun : lf.getD j false = false) (ht : n ≤ t) : t ∉ Region.ready .any l.toArray lf := by
  intro hr
  obtain ⟨_, o, ho, h2⟩ := mem_ready.1 hr
  have ho' : l[t]? = some o := by simpa using ho
  have htl : t < l.length := (List.getElem?_eq_some_iff.1 ho').1
  obtain ⟨e, he, hbd, hni, hit⟩ := hp.rest t o ht ho'
  have h3 := h2 e he hbd
  have : lf.getD e.on false = false := by
    by_cases h : e.on < n
    · rw [show e.on = n - 1 by omega]; exact sg_later hp hb _ j rfl hj hun
    · exact getD_tf (hb.side.tail e.on (by omega) (by omega))
  rw [this] at h3; cases h3
theorem sg_wpOp {c n i : Nat} {a : Act} {w : World} {K K' : Act → World → Prop} (hp : Sg c l n) (hi : i < n) (h : wpOp P (l.take n).toArray (segQ Q K) i K' a w) : wpOp P l.toArray Q i K' a w := by
  have hl : i < l.length := by have := hp.nl; omega
  have h1 : (l.take n).toArray[i]? = some l[i] := by simp [hi, hl]
  have h2 : l.toArray[i]? = some l[i] := by simp [hl]
  have hw : Region.wanted l[i] (yielded l.toArray a.tmps) = Region.wanted l[i] (yielded (l.take n).toArray a.tmps) := by
    unfold Region.wanted
    cases hg : l[i].guard with
    | none => rfl
    | some jb =>
      obtain ⟨j, b⟩ := jb
      have hj := hp.guards i l[i] j b hi (by simp [hl]) hg
      simp only [yielded, take_get hj]
  unfold wpOp at *
  simp only [h1] at h
  simp only [h2]
  rw [hw]
  split
  · rename_i hww
    simp only [hww, if_true] at h
    exact h.imp segQ_wp (fun hh => ⟨hh.1, segQ_lets hh.2⟩)
  · rename_i hww
    simp only [hww] at h
    exact h

theorem seg_any {c n m : Nat} {K : Act → World → Prop} (hp : Sg c l n) (hT : ∀ a w, K a w → wpAny P .any l.toArray Q m (upTo n l.length) a w) :
    ∀ (f : Nat) (lh lf : Array Bool) (a : Act) (w : World), Along l n lh lf → wpAny P .any (l.take n).toArray (segQ Q K) f lh a w → wpAny P .any l.toArray Q (f + m) lf a w := by
  have last : ∀ (f : Nat) (lh lf : Array Bool) (a : Act) (w : World), Along l n lh lf → Region.ready .any (l.take n).toArray lh = [] → K a w → wpAny P .any l.toArray Q (f + m) lf a w := by
    intro f lh lf a w hb hr hl
    refine any_lift ?_ f
    rw [eq_upTo hb.side (sg_full hp hb.side.sh hr)]
    exact hT a w hl
  intro f
  induction f with
  | zero => exact fun lh lf a w hb h => last 0 lh lf a w hb h.1 h.2
  | succ f ih =>
    intro lh lf a w hb h
    by_cases hr : Region.ready .any (l.take n).toArray lh = []
    · exact last (f + 1) lh lf a w hb hr (h.1 hr)
    · obtain ⟨i0, hi0⟩ : ∃ i0, i0 ∈ Region.ready .any (l.take n).toArray lh := List.exists_mem_of_ne_nil _ hr
      have hs0 : i0 < n := by
        obtain ⟨_, o, ho, _⟩ := mem_ready.1 hi0
        have := (Array.getElem?_eq_some_iff.1 ho).1
        simp at this; omega
      have hun : lf.getD i0 false = false := getD_tf (by rw [hb.side.same i0 hs0]; exact (mem_ready.1 hi0).1)
      rw [show f + 1 + m = (f + m) + 1 by omega]
      refine ⟨fun h0 => ?_, fun i hi => ?_⟩
      · have := (sg_ready hp hb.side.same hs0).2 hi0
        rw [h0] at this; cases this
      · have his : i < n := by
          rcases Nat.lt_or_ge i n with h1 | h1
          · exact h1
          · exact absurd hi (sg_after hp hb hs0 hun h1)
        refine sg_wpOp hp his (wpOp_mono (fun a' w' h' => ?_) (h.2 i ((sg_ready hp hb.side.same his).1 hi)))
        exact ih _ _ a' w' (hb.set his hi) h'

theorem upTo_getD (c m i : Nat) (d : Bool) : (upTo c m).getD i d = if i < m then decide (i < c) else d := by
  by_cases h : i < m
  · simp [upTo, h]
  · simp [upTo, h]
theorem upTo_size (c m : Nat) : (upTo c m).size = m := by simp [upTo]
theorem along_start {c n : Nat} (hp : Sg c l n) : Along l n (upTo c n) (upTo c l.length) := by
  have hnl := hp.nl
  have hcn := hp.cn
  refine ⟨⟨upTo_size _ _, upTo_size _ _, fun i hi b => ?_, fun i h1 h2 => by omega, fun i h1 h2 => ?_⟩, fun j o hj hl ho e he hb => ?_⟩
  · rw [upTo_getD, upTo_getD, if_pos (by omega), if_pos hi]
  · rw [upTo_getD, if_pos h2]; simp; omega
  · have h1 := hp.back j o hj ho e he hb
    rw [upTo_getD, if_pos (by omega)] at hl
    have := of_decide_eq_true hl
    omega

/-- The segments of a list, by their lengths (each but the first counts the one that closed the segment ahead). -/
def segL (l : List Oper) : List Nat → List (List Oper)
  | [] => [l]
  | n :: ns => l.take n :: segL (sub l (n - 1)) ns
def segsB (c : Nat) (l : List Oper) : List Nat → Bool
  | [] => true
  | n :: ns => segB c l n && segsB 1 (sub l (n - 1)) ns
/-- The segments one behind the other. -/
def chain (P : Program) (Q : Exit → Act → World → Prop) : Nat → List (List Oper) → Act → World → Prop
  | _, [], a, w => Q .normal a w
  | c, s :: rest, a, w => match rest with
    | [] => wpAny P .any s.toArray Q (s.length - c) (upTo c s.length) a w
    | _ :: _ => wpAny P .any s.toArray (segQ Q (chain P Q 1 rest)) (s.length - c) (upTo c s.length) a w

theorem segL_ne : ∀ (ns : List Nat) (l : List Oper), ∃ s rest, segL l ns = s :: rest
  | [], l => ⟨l, [], rfl⟩
  | _ :: _, _ => ⟨_, _, rfl⟩
theorem segs_sound : ∀ (ns : List Nat) (c : Nat) (l : List Oper) (a : Act) (w : World), segsB c l ns = true → chain P Q c (segL l ns) a w → wpAny P .any l.toArray Q (l.length - c) (upTo c l.length) a w
  | [], c, l, a, w, _, h => h
  | n :: ns, c, l, a, w, hB, h => by
    simp only [segsB, Bool.and_eq_true] at hB
    have hp := sg_of hB.1
    have hnl := hp.nl
    have hcn := hp.cn
    have hlen : (l.take n).length = n := by simp; omega
    obtain ⟨s2, r2, he⟩ := segL_ne ns (sub l (n - 1))
    have h' : wpAny P .any (l.take n).toArray (segQ Q (chain P Q 1 (segL (sub l (n - 1)) ns))) (n - c) (upTo c n) a w := by
      simp only [segL, chain] at h
      rw [he] at h ⊢
      simp only [hlen] at h
      exact h
    have := seg_any (Q := Q) (m := l.length - n) hp (fun a' w' hK => by
      have h1 := segs_sound ns 1 (sub l (n - 1)) a' w' hB.2 hK
      rw [sub_len] at h1
      have h2 := shift_any (l := l) (b := n - 1) (fun t o j v ht ho hg => by
        rcases Nat.lt_or_ge t n with h3 | h3
        · rw [show t = n - 1 by omega] at ho
          rw [hp.close o ho] at hg; cases hg
        · have := hp.late t o j v h3 ho hg; omega) (l.length - (n - 1) - 1) (upTo n l.length) (upTo 1 (l.length - (n - 1))) a' w' ⟨by rw [upTo_size, upTo_size]; omega, fun i hi => by rw [upTo_getD, if_pos (by omega)]; simp; omega, fun i d => by
          rw [upTo_getD, upTo_getD]
          by_cases h4 : i < l.length - (n - 1)
          · rw [if_pos (by omega), if_pos h4, decide_eq_decide]; omega
          · rw [if_neg (by omega), if_neg h4]⟩ h1
      rwa [show l.length - (n - 1) - 1 = l.length - n by omega] at h2) (n - c) _ _ a w (along_start hp) h'
    rwa [show n - c + (l.length - n) = l.length - c by omega] at this

/-- The walk's way in: by segments. -/
theorem region_segs {id : Nat} {a : Act} {w : World} (ns : List Nat) (ss : List (List Oper)) (hm : P.follows .mixedOrders = true) (hB : segsB 0 l ns = true) (hs : segL l ns = ss) (h : chain P Q 0 ss a w.drew) : (Code.region id l.toArray true).wp P Q a w := by
  refine wp_region_any hm ?_
  subst hs
  have h1 := segs_sound ns 0 l a w.drew hB h
  have h2 : upTo 0 l.length = Array.replicate l.toArray.size false := by
    apply Array.ext
    · simp [upTo]
    · intro i h1 h2; simp [upTo]
  rw [← h2]
  simpa using h1
/-- One segment that others follow, under a condition of its own. -/
theorem chain_held {c : Nat} {s s2 : List Oper} {rest : List (List Oper)} {a : Act} {w : World} (m : Nat) (S : World → Prop) (hl : s.length - c = m) (h : wpAnyH P .any s.toArray (segQ Q (chain P Q 1 (s2 :: rest))) S m (upTo c s.length) a w) : chain P Q c (s :: s2 :: rest) a w := by
  subst hl
  exact wpAny_of_held _ _ _ _ h
/-- The last one. -/
theorem chain_last {c : Nat} {s : List Oper} {a : Act} {w : World} (m : Nat) (S : World → Prop) (hl : s.length - c = m) (h : wpAnyH P .any s.toArray Q S m (upTo c s.length) a w) : chain P Q c [s] a w := by
  subst hl
  exact wpAny_of_held _ _ _ _ h
end
end Go.Proofs.Ytninhcnpjadjpaa
