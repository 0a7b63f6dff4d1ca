
/-
  Regions that draw their order: a head of quiet operations (calls may make new memory), perhaps one variable that is made (at whatever time), then a tail in one order (a store).
  The head by itself goes by the library's law on quiet regions (Derived/Deep/Quiet.lean); here each order of the whole region is followed, step by step, beside the head's own orders. No Go text is walked here.
-/
import Derived.StillTail
import Derived.Deep.QuietTactic
import Derived.Below
import Derived.BigQuiet
namespace Go.Proofs.Ytninhcnpjadjpaa
open Go.RowKit

section
variable {P : Program} {l : List Oper} {C : World → Prop}

/-- More rounds than there are to go do no harm. -/
theorem any_more {ops : Array Oper} {md : Region.Mode} {Q : Exit → Act → World → Prop} : ∀ (f : Nat) (listed : Array Bool) (a : Act) (w : World), wpAny P md ops Q f listed a w → wpAny P md ops Q (f + 1) listed a w
  | 0, _, _, _, h => ⟨fun _ => h.2, fun i hi => by rw [h.1] at hi; cases hi⟩
  | f + 1, _, _, _, h => ⟨h.1, fun i hi => wpOp_mono (fun a' w' h' => any_more f _ a' w' h') (h.2 i hi)⟩
theorem any_lift {ops : Array Oper} {md : Region.Mode} {Q : Exit → Act → World → Prop} {f : Nat} {listed : Array Bool} {a : Act} {w : World} (h : wpAny P md ops Q f listed a w) : ∀ k, wpAny P md ops Q (k + f) listed a w
  | 0 => by rw [Nat.zero_add]; exact h
  | k + 1 => by rw [Nat.add_right_comm]; exact any_more _ _ _ _ (any_lift h k)

/-- Operation t waits for operation i. -/
def waitsB (l : List Oper) (t i : Nat) : Bool := match l[t]? with | some o => o.after.any (fun e => Region.binds .any e && e.on == i) | none => false
/-- What has come up when the n first have, of m. -/
def upTo (n m : Nat) : Array Bool := ((List.range m).map fun i => decide (i < n)).toArray
/-- The s first operations stand by themselves; from the n-th on all come last, in one order. -/
def partsB (l : List Oper) (s n : Nat) : Bool :=
  Region.lexB .any (l.take s).toArray &&
  (List.range s).all (fun i => match l[i]? with | some o => o.after.all (fun e => !Region.binds .any e || decide (e.on < i)) && (match o.guard with | some (j, _) => decide (j < s) | none => true) | none => false) &&
  decide (s ≤ n) && decide (n < l.length) &&
  (List.range n).all (fun i => waitsB l n i) &&
  (List.range l.length).all (fun t => decide (t ≤ n) || waitsB l t (t - 1)) &&
  Region.seqB .any l.toArray (l.length - n) n (upTo n l.length)

structure Parts (l : List Oper) (s n : Nat) : Prop where
  lex : Region.lexB .any (l.take s).toArray = true
  back : ∀ i o, i < s → l[i]? = some o → ∀ e ∈ o.after, Region.binds .any e = true → e.on < i
  guards : ∀ i o j b, i < s → l[i]? = some o → o.guard = some (j, b) → j < s
  sn : s ≤ n
  nl : n < l.length
  first : ∀ i o, i < n → l[n]? = some o → ∃ e ∈ o.after, Region.binds .any e = true ∧ e.on = i
  chain : ∀ t o, n < t → l[t]? = some o → ∃ e ∈ o.after, Region.binds .any e = true ∧ e.on = t - 1
  seq : Region.seqB .any l.toArray (l.length - n) n (upTo n l.length) = true

theorem waits_of {t i : Nat} {o : Oper} (h : waitsB l t i = true) (ho : l[t]? = some o) : ∃ e ∈ o.after, Region.binds .any e = true ∧ e.on = i := by
  unfold waitsB at h
  rw [ho] at h
  obtain ⟨e, he, hb⟩ := Array.any_eq_true'.1 h
  simp only [Bool.and_eq_true, beq_iff_eq] at hb
  exact ⟨e, he, hb.1, hb.2⟩

theorem parts_of {s n : Nat} (h : partsB l s n = true) : Parts l s n := by
  simp only [partsB, Bool.and_eq_true, decide_eq_true_eq, List.all_eq_true, List.mem_range, Bool.or_eq_true] at h
  obtain ⟨⟨⟨⟨⟨⟨h1, h2⟩, h3⟩, h4⟩, h5⟩, h6⟩, h7⟩ := h
  refine ⟨h1, fun i o hi ho e he hb => ?_, fun i o j b hi ho hg => ?_, h3, h4, fun i o hi ho => waits_of (h5 i hi) ho, fun t o ht ho => ?_, h7⟩
  · have := h2 i hi
    rw [ho] at this
    simp only [Bool.and_eq_true] at this
    have := Array.all_eq_true_iff_forall_mem.1 this.1 e he
    simpa [hb] using this
  · have := h2 i hi
    rw [ho] at this
    simp only [Bool.and_eq_true] at this
    simpa [hg] using this.2
  · have hl : t < l.length := (List.getElem?_eq_some_iff.1 ho).1
    rcases h6 t hl with h | h
    · omega
    · exact waits_of h ho

/-- How the whole region's list of what has come up stands to the head's: the same below s, all from s to n, none from n on. -/
structure Beside (l : List Oper) (s n : Nat) (lh lf : Array Bool) : Prop where
  sh : lh.size = s
  sf : lf.size = l.length
  same : ∀ i, i < s → ∀ b, lf.getD i b = lh.getD i b
  mid : ∀ i, s ≤ i → i < n → lf.getD i false = true
  tail : ∀ i, n ≤ i → i < l.length → lf.getD i true = false

theorem getD_tf {x : Array Bool} {i : Nat} (h : x.getD i true = false) : x.getD i false = false := by
  by_cases hi : i < x.size
  · simp [hi] at h ⊢; exact h
  · simp [hi] at h
theorem getD_ft {x : Array Bool} {i : Nat} (hi : i < x.size) (h : x.getD i false = true) : x.getD i true = true := by
  simp [hi] at h ⊢; exact h
theorem getD_or {x : Array Bool} {i : Nat} (hi : i < x.size) : x.getD i true = false ∨ x.getD i false = true := by
  simp [hi]

theorem Beside.set {s n i : Nat} {lh lf : Array Bool} (h : Beside l s n lh lf) (hi : i < s) (hsn : s ≤ n) : Beside l s n (lh.setIfInBounds i true) (lf.setIfInBounds i true) := by
  refine ⟨by simp [h.sh], by simp [h.sf], fun j hj b => ?_, fun j hj hj2 => ?_, fun j hj hj2 => ?_⟩
  · by_cases hij : i = j
    · subst hij
      have h1 : i < lh.size := by rw [h.sh]; exact hi
      by_cases h2 : i < lf.size
      · simp [h1, h2]
      · have := h.same i hj true
        have h3 := h.same i hj false
        simp [h2, h1] at this h3
        rw [this] at h3; cases h3
    · rw [getD_set_ne b hij, getD_set_ne b hij]; exact h.same j hj b
  · rw [getD_set_ne false (by omega)]; exact h.mid j hj hj2
  · rw [getD_set_ne true (by omega)]; exact h.tail j hj hj2

theorem take_get {s i : Nat} (hi : i < s) : (l.take s).toArray[i]? = l.toArray[i]? := by simp [hi]

theorem ready_both {s n i : Nat} {lh lf : Array Bool} (hp : Parts l s n) (hsame : ∀ i, i < s → ∀ b, lf.getD i b = lh.getD i b) (hi : i < s) :
    i ∈ Region.ready .any l.toArray lf ↔ i ∈ Region.ready .any (l.take s).toArray lh := by
  rw [mem_ready, mem_ready, take_get hi, hsame i hi true]
  constructor
  · rintro ⟨h1, o, ho, h2⟩
    exact ⟨h1, o, ho, fun e he hbd => by have := hp.back i o hi (by simpa using ho) e he hbd; rw [← hsame e.on (by omega) false]; exact h2 e he hbd⟩
  · rintro ⟨h1, o, ho, h2⟩
    exact ⟨h1, o, ho, fun e he hbd => by have := hp.back i o hi (by simpa using ho) e he hbd; rw [hsame e.on (by omega) false]; exact h2 e he hbd⟩

/-- Where no operation of the head can come up all of it has. -/
theorem head_all {s n : Nat} {lh : Array Bool} (hp : Parts l s n) (hsz : lh.size = s) (h : Region.ready .any (l.take s).toArray lh = []) : ∀ i, i < s → lh.getD i false = true := by
  intro i
  induction i using Nat.strongRecOn with
  | _ i ih =>
    intro hi
    rcases getD_or (x := lh) (i := i) (by rw [hsz]; exact hi) with h1 | h1
    · have hl : i < l.length := by have := hp.sn; have := hp.nl; omega
      have : i ∈ Region.ready .any (l.take s).toArray lh := mem_ready.2 ⟨h1, l[i], by simp [hi, hl], fun e he hbd => by
        have := hp.back i l[i] hi (by simp [hl]) e he hbd
        exact ih e.on this (by omega)⟩
      rw [h] at this; cases this
    · exact h1

theorem eq_upTo {s n : Nat} {lh lf : Array Bool} (hb : Beside l s n lh lf) (h : ∀ i, i < s → lh.getD i false = true) : lf = upTo n l.length := by
  apply Array.ext
  · simp [upTo, hb.sf]
  · intro i h1 h2
    have hil : i < l.length := by rw [← hb.sf]; exact h1
    have e : (upTo n l.length)[i] = decide (i < n) := by simp [upTo]
    rw [e]
    by_cases hn : i < n
    · have : lf.getD i false = true := by
        by_cases hs : i < s
        · rw [hb.same i hs]; exact h i hs
        · exact hb.mid i (by omega) hn
      simp [h1] at this
      simp [this, hn]
    · have := hb.tail i (by omega) hil
      simp [h1] at this
      simp [this, hn]

/-- While an operation below n has not come up, none from n on can. -/
theorem tail_later {s n j t : Nat} {lh lf : Array Bool} (hp : Parts l s n) (hb : Beside l s n lh lf) (hj : j < n) (hun : lf.getD j false = false) (ht : n ≤ t) : t ∉ Region.ready .any l.toArray lf := by
  intro hr
  obtain ⟨_, o, ho, h2⟩ := mem_ready.1 hr
  have ho' : l[t]? = some o := by simpa using ho
  by_cases htn : t = n
  · subst htn
    obtain ⟨e, he, hbd, hon⟩ := hp.first j o hj ho'
    have := h2 e he hbd
    rw [hon, hun] at this; cases this
  · obtain ⟨e, he, hbd, hon⟩ := hp.chain t o (by omega) ho'
    have h3 := h2 e he hbd
    have htl : t < l.length := (List.getElem?_eq_some_iff.1 ho').1
    have := getD_tf (hb.tail (t - 1) (by omega) (by omega))
    rw [hon, this] at h3; cases h3

/-- Ahead of the s-th operation none behind it can come up. -/
theorem only_mid {s i : Nat} {lf : Array Bool} (hp : Parts l s (s + 1)) (hs : s < l.length) (h4 : ∀ i, s ≤ i → i < l.length → lf.getD i true = false) (hi : i ∈ Region.ready .any l.toArray lf) : i < s ∨ i = s := by
  obtain ⟨_, o, ho, h2⟩ := mem_ready.1 hi
  have ho' : l[i]? = some o := by simpa using ho
  rcases Nat.lt_or_ge s i with h | h
  · by_cases hn : i = s + 1
    · subst hn
      obtain ⟨e, he, hbd, hon⟩ := hp.first s o (by omega) ho'
      have h3 := h2 e he hbd
      rw [hon, getD_tf (h4 s (Nat.le_refl _) hs)] at h3; cases h3
    · obtain ⟨e, he, hbd, hon⟩ := hp.chain i o (by omega) ho'
      have h3 := h2 e he hbd
      have hil : i < l.length := (List.getElem?_eq_some_iff.1 ho').1
      rw [hon, getD_tf (h4 (i - 1) (by omega) (by omega))] at h3; cases h3
  · omega

/-- An operation of the head, in the whole region, with something in a slot that the head doesn't know. -/
theorem qOp_side {s n i : Nat} {x : Option Tmp} {p : Value} {K : Act → Prop} {a : Act} (hp : Parts l s n) (hi : i < s) (hsel : Region.noSelect (l.take s).toArray = true)
    (hx : ∀ d, x = some d → ∀ (j : Nat) o, (l.take s).toArray[j]? = some o → d ∉ o.looksAt (l.take s).toArray ∧ o.dst ≠ some d)
    (h : qOp P (l.take s).toArray C i K a) : qOp P l.toArray C i (fun b => ∃ c, b = c.put x p ∧ K c) (a.put x p) := by
  have hl : i < l.length := by have := hp.sn; have := hp.nl; omega
  have h1 : (l.take s).toArray[i]? = some l[i] := by simp [hi, hl]
  have h2 : l.toArray[i]? = some l[i] := by simp [hl]
  obtain ⟨v, hy, hK⟩ := yieldsIn_of_qOp h1 h
  have hw : Region.wanted l[i] (yielded l.toArray (a.put x p).tmps) = Region.wanted l[i] (yielded (l.take s).toArray a.tmps) := by
    rw [← wanted_put (ops := (l.take s).toArray) l[i] a x p (fun d hd => (hx d hd i _ h1).1)]
    unfold Region.wanted
    cases hg : l[i].guard with
    | none => rfl
    | some jb =>
      obtain ⟨j, b⟩ := jb
      have hj := hp.guards i l[i] j b hi (by simp [hl]) hg
      simp only [yielded, take_get hj]
  have he : execOp (a.put x p).eval l[i] = execOp a.eval l[i] := execOp_put (ops := (l.take s).toArray) l[i] (fun cs b => Region.noSelect_spec hsel i l[i] cs b h1) a x p (fun d hd => (hx d hd i _ h1).1)
  have hy' : YieldsIn P l.toArray C l[i] v (a.put x p) := by
    unfold YieldsIn Oper.quietAt at hy ⊢
    rw [hw, he]
    exact hy
  exact hy'.qOp h2 ⟨a.put l[i].dst v, Act.put_comm a p v (fun d hd => (hx d hd i _ h1).2), hK⟩

/-- Head, then tail: with what stands in the middle behind one already. -/
theorem follow {s n : Nat} {x : Option Tmp} {p : Value} {Lq : Act → Prop} {Q : Exit → Act → World → Prop} (hp : Parts l s n)
    (hx : ∀ d, x = some d → ∀ (j : Nat) o, (l.take s).toArray[j]? = some o → d ∉ o.looksAt (l.take s).toArray ∧ o.dst ≠ some d)
    (hT : ∀ a w, C w → Lq a → wpList P l.toArray Q (l.drop n) (a.put x p) w) :
    ∀ (f : Nat) (lh lf : Array Bool) (a : Act) (w : World), Beside l s n lh lf → C w → wpAnyQ P .any (l.take s).toArray C Lq f lh a → wpAny P .any l.toArray Q (f + (l.length - n)) lf (a.put x p) w := by
  have hsel : Region.noSelect (l.take s).toArray = true := by have := hp.lex; simp only [Region.lexB, Bool.and_eq_true] at this; exact this.1
  have last : ∀ (f : Nat) (lh lf : Array Bool) (a : Act) (w : World), Beside l s n lh lf → C w → Region.ready .any (l.take s).toArray lh = [] → Lq a → wpAny P .any l.toArray Q (f + (l.length - n)) lf (a.put x p) w := by
    intro f lh lf a w hb hw hr hl
    refine any_lift ?_ f
    rw [eq_upTo hb (head_all hp hb.sh hr)]
    have := wpAny_of_seq (P := P) (ops := l.toArray) (md := .any) (Q' := Q) (l.drop n) n (upTo n l.length) (a.put x p) w (fun j => by simp [List.getElem?_drop]) (by rw [List.length_drop]; exact hp.seq) (hT a w hw hl)
    rwa [List.length_drop] at this
  intro f
  induction f with
  | zero => exact fun lh lf a w hb hw h => last 0 lh lf a w hb hw h.1 h.2
  | succ f ih =>
    intro lh lf a w hb hw h
    by_cases hr : Region.ready .any (l.take s).toArray lh = []
    · exact last (f + 1) lh lf a w hb hw hr (h.1 hr)
    · obtain ⟨i0, hi0⟩ : ∃ i0, i0 ∈ Region.ready .any (l.take s).toArray lh := List.exists_mem_of_ne_nil _ hr
      have hs0 : i0 < s := by
        obtain ⟨_, o, ho, _⟩ := mem_ready.1 hi0
        have := (Array.getElem?_eq_some_iff.1 ho).1
        simp at this; omega
      have hun : lf.getD i0 false = false := getD_tf (by rw [hb.same i0 hs0]; exact (mem_ready.1 hi0).1)
      rw [show f + 1 + (l.length - n) = (f + (l.length - n)) + 1 by omega]
      refine ⟨fun h0 => ?_, fun i hi => ?_⟩
      · have := (ready_both hp hb.same hs0).2 hi0
        rw [h0] at this; cases this
      · have hsn := hp.sn
        have his : i < s := by
          rcases Nat.lt_or_ge i n with h1 | h1
          · rcases Nat.lt_or_ge i s with h2 | h2
            · exact h2
            · have h3 := hb.mid i h2 h1
              have h4 := getD_tf (mem_ready.1 hi).1
              rw [h3] at h4; cases h4
          · exact absurd hi (tail_later hp hb (by omega) hun h1)
        refine wpOp_of_qOp hw ?_ (qOp_side hp his hsel hx (h.2 i ((ready_both hp hb.same his).1 hi)))
        rintro b w' hw' ⟨c, rfl, hc⟩
        exact ih _ _ c w' (hb.set his hsn) hw' hc

theorem head_any {s n : Nat} {Lq : Act → Prop} {a : Act} (hp : Parts l s n) (h : wpQuiet P (l.take s).toArray C Lq (l.take s) a) : wpAnyQ P .any (l.take s).toArray C Lq s (Array.replicate s false) a := by
  have hB := hp.lex
  have hs : (l.take s).length = s := by have := hp.sn; have := hp.nl; simp; omega
  simp only [Region.lexB, Bool.and_eq_true] at hB
  have := wpAnyQ_lex (P := P) (C := C) (Q := Lq) hB.1 (l.take s) 0 (Array.replicate s false) a (by simp) (by have := hB.2; simpa [hs] using this) h
  rwa [hs] at this

theorem beside_new {s n : Nat} (hsn : s = n) (hl : n < l.length) : Beside l s n (Array.replicate s false) (Array.replicate l.length false) := by
  subst hsn
  refine ⟨by simp, by simp, fun i hi b => ?_, fun i h1 h2 => by omega, fun i h1 h2 => by simp [h2]⟩
  simp [hi, show i < l.length by omega]

theorem region_tail {id : Nat} {Q : Exit → Act → World → Prop} {a : Act} {w : World} (n : Nat) (hm : P.follows .mixedOrders = true) (hB : partsB l n n = true) (hC : C { w with drawn := w.drawn + 1 })
    (h : wpQuiet P (l.take n).toArray C (fun a' => ∀ w', C w' → wpList P l.toArray Q (l.drop n) a' w') (l.take n) a) : (Code.region id l.toArray true).wp P Q a w := by
  have hp := parts_of hB
  have hl := hp.nl
  refine wp_region_any hm ?_
  have := follow (x := none) (p := undef) (Q := Q) hp (fun d hd => by cases hd) (fun a' w' hw' hq => hq w' hw') n _ _ a { w with drawn := w.drawn + 1 } (beside_new rfl hp.nl) hC (head_any hp h)
  rw [show n + (l.length - n) = l.length by omega] at this
  simpa [Act.put] using this
end

/-- A world that has all that w0 has, as it was. -/
structure Ext (w0 : World) where
  w : World
  h : Below w0.heap.size w0 w

theorem Ext.inh (w0 : World) : Nonempty (Ext w0) := ⟨⟨w0, Below.refl _ _⟩⟩
theorem Ext.cell {w0 : World} {p : Addr} {v : Value} (h : w0.cell? p = some v) (k : Ext w0) : k.w.cell? p = some v := by
  rw [k.h.cell (by
    unfold World.cell? at h
    rcases Nat.lt_or_ge p.block w0.heap.size with h' | h'
    · exact h'
    · rw [Array.getElem?_eq_none h'] at h; cases h), h]
theorem Ext.blk {w0 : World} {g : Nat} {o : Obj} (h : w0.heap[g]? = some o) (k : Ext w0) : k.w.heap[g]? = some o := by
  rw [k.h.block g (by
    rcases Nat.lt_or_ge g w0.heap.size with h' | h'
    · exact h'
    · rw [Array.getElem?_eq_none h'] at h; cases h), h]
/-- A callee that leaves all as it was, but for new memory. -/
theorem Ext.call {P : Program} {f : FuncId} {args : Array Value} {w0 : World} {k : Ext w0} {v : Value}
    (h : Calls P f args k.w fun e w' => e = .returned v ∧ Below k.w.heap.size k.w w') : Calls P f args k.w fun e w'' => e = .returned v ∧ ∃ k' : Ext w0, w'' = k'.w :=
  h.mono fun _ _ ⟨he, hb⟩ => ⟨he, ⟨_, k.h.trans (hb.mono k.h.size)⟩, rfl⟩
theorem Ext.same {P : Program} {f : FuncId} {args : Array Value} {w0 : World} {k : Ext w0} {v : Value}
    (h : Calls P f args k.w fun e w' => e = .returned v ∧ w' = k.w) : Calls P f args k.w fun e w'' => e = .returned v ∧ ∃ k' : Ext w0, w'' = k'.w :=
  h.mono fun _ _ ⟨he, hb⟩ => ⟨he, k, hb⟩

theorem region_ext {P : Program} {id : Nat} {Q : Exit → Act → World → Prop} {a : Act} {w : World} {l : List Oper} (hm : P.follows .mixedOrders = true) (hB : Region.lexB .any l.toArray = true)
    (h : wpQuiet P l.toArray (fun w' => ∃ k : Ext w, w' = k.w) (fun a' => ∀ w', (∃ k : Ext w, w' = k.w) → Q .normal a' w') l a) : (Code.region id l.toArray true).wp P Q a w :=
  wp_region_quiet (C := fun w' => ∃ k : Ext w, w' = k.w) hm hB ⟨⟨{ w with drawn := w.drawn + 1 }, ⟨rfl, rfl, rfl, Nat.le_refl _, fun _ _ => rfl⟩⟩, rfl⟩ (by simpa using h)
theorem region_ext_tail {P : Program} {id : Nat} {Q : Exit → Act → World → Prop} {a : Act} {w : World} {l : List Oper} (n : Nat) (hm : P.follows .mixedOrders = true) (hB : partsB l n n = true)
    (h : wpQuiet P (l.take n).toArray (fun w' => ∃ k : Ext w, w' = k.w) (fun a' => ∀ w', (∃ k : Ext w, w' = k.w) → wpList P l.toArray Q (l.drop n) a' w') (l.take n) a) : (Code.region id l.toArray true).wp P Q a w :=
  region_tail (C := fun w' => ∃ k : Ext w, w' = k.w) n hm hB ⟨⟨{ w with drawn := w.drawn + 1 }, ⟨rfl, rfl, rfl, Nat.le_refl _, fun _ _ => rfl⟩⟩, rfl⟩ h

end Go.Proofs.Ytninhcnpjadjpaa
