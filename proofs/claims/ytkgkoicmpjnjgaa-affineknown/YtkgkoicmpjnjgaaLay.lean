/-
  Regions that draw their order: quiet operations, ONE variable that is made (it may be made ahead of any of them), then a tail in one order (the store into it): one walk of the lexical order serves every order. No Go text is walked here.
-/
import Derived.Test.YtkgkoicmpjnjgaaTail
namespace Go.Proofs.Ytkgkoicmpjnjgaa
open Go.RowKit

section
variable {P : Program} {ops : Array Oper} {md : Region.Mode} {C1 : World → Prop} {C2 : Nat → World → Prop}

/-- The address of a new variable. -/
abbrev ptr (g : Nat) : Value := .pointer (some ⟨g, 0, none⟩)

def anyLay (P : Program) (md : Region.Mode) (ops : Array Oper) (C1 : World → Prop) (C2 : Nat → World → Prop) (n s : Nat) (d : Tmp) (L : Nat → Array Bool → Act → Prop) : Nat → Array Bool → Act → Prop
  | 0, _, _ => False
  | f + 1, listed, a =>
    Region.ready md ops listed ≠ [] ∧ ∀ i ∈ Region.ready md ops listed,
      (i = s ∧ ∀ g, (∃ w, C2 g w) → anyHead P md ops (C2 g) n (L g) f (listed.setIfInBounds s true) (a.put (some d) (ptr g))) ∨
      (i ≠ s ∧ i < n ∧ qOp P ops C1 i (anyLay P md ops C1 C2 n s d L f (listed.setIfInBounds i true)) a)

theorem any_of_lay {n s g : Nat} {d : Tmp} {os : Oper} {Z : Obj} {L : Nat → Array Bool → Act → Prop} {Q' : Exit → Act → World → Prop} (hos : ops[s]? = some os) (hd : os.dst = some d) (hgd : os.guard = none)
    (ha : ∀ (a : Act) (w : World), (execOp a.eval os).run P w = .ok (.value (ptr w.heap.size)) (w.alloc Z)) (hC : ∀ w, C1 w → C2 w.heap.size (w.alloc Z))
    (hL : ∀ k listed a w, C2 k w → L k listed a → wpAny P md ops Q' g listed a w) :
    ∀ (f : Nat) (listed : Array Bool) (a : Act) (w : World), C1 w → anyLay P md ops C1 C2 n s d L f listed a → wpAny P md ops Q' (f + g) listed a w
  | 0, _, _, _, _, h => h.elim
  | f + 1, listed, a, w, hw, h => by
    rw [show f + 1 + g = (f + g) + 1 by omega]
    refine ⟨fun h0 => absurd h0 h.1, fun i hi => ?_⟩
    rcases h.2 i hi with ⟨rfl, h2⟩ | ⟨_, _, h2⟩
    · have h3 := h2 w.heap.size ⟨_, hC w hw⟩
      unfold wpOp
      simp only [hos]
      rw [if_pos (by simp [Region.wanted, hgd])]
      refine .inl ?_
      unfold Oper.wp
      rw [ha, Oper.upon_value, hd]
      exact any_of_head (fun listed' a' w' hw' hl => hL _ listed' a' w' hw' hl) f _ _ _ (hC w hw) h3
    · exact wpOp_of_qOp hw (fun a' w' hw' h' => any_of_lay hos hd hgd ha hC hL f _ a' w' hw' h') h2

theorem lay_first {n s i : Nat} {d : Tmp} {oi os : Oper} {v : Value} {L : Nat → Array Bool → Act → Prop} (hi : ops[i]? = some oi) (hos : ops[s]? = some os) (hd : os.dst = some d) (hsel : ∀ (j : Nat) (o : Oper) cs b, ops[j]? = some o → o.op ≠ .select cs b)
    (hs : Region.sinkB md ops n = true) (hc : Region.chainB md ops n = true) (hn : n < ops.size) (hin : i < n) (hsn : s < n) (his : i ≠ s)
    (hdone : ∀ g listed a, L g listed a → ∀ j ∈ Region.ready md ops listed, n ≤ j) :
    ∀ (f : Nat) (listed : Array Bool) (a : Act), HeadInv md ops n listed →
      (∀ j oj, ops[j]? = some oj → j ≠ i → listed.getD j true = false → (∀ e ∈ oj.after, Region.binds md e = true → e.on ≠ i) → oi.apart ops oj = true) →
      i ∈ Region.ready md ops listed → YieldsIn P ops C1 oi v a → (∀ g, (∃ w, C2 g w) → YieldsIn P ops (C2 g) oi v a) →
      anyLay P md ops C1 C2 n s d L f (listed.setIfInBounds i true) (a.put oi.dst v) → anyLay P md ops C1 C2 n s d L (f + 1) listed a := by
  intro f
  induction f with
  | zero => intro _ _ _ _ _ _ _ H; exact H.elim
  | succ f ih =>
    intro listed a inv hfree hr hy hy2 H
    have hun := (mem_ready.1 hr).1
    refine ⟨fun h => (by rw [h] at hr; cases hr), fun j hj => ?_⟩
    have hjn : j < n := by
      rcases Nat.lt_or_ge j n with h | h
      · exact h
      · exact absurd hj (tail_waits hs hc hn inv _ i rfl hin hun j h)
    by_cases hji : j = i
    · subst hji; exact .inr ⟨his, hin, hy.qOp hi H⟩
    · obtain ⟨hjun, oj, hoj, hall⟩ := mem_ready.1 hj
      have hnot : ∀ e ∈ oj.after, Region.binds md e = true → e.on ≠ i := fun e he hb heq => by
        have h1 := hall e he hb
        rw [heq, getD_both hun] at h1
        cases h1
      have hap := hfree j oj hoj hji hjun hnot
      obtain ⟨ha1, ha2, ha3⟩ := Oper.apart_spec hap
      have hfree' : ∀ k ok, ops[k]? = some ok → k ≠ i → (listed.setIfInBounds j true).getD k true = false →
          (∀ e ∈ ok.after, Region.binds md e = true → e.on ≠ i) → oi.apart ops ok = true := fun k ok hk hki hun hno => by
        refine hfree k ok hk hki ?_ hno
        by_cases hjk : j = k
        · subst hjk; exact hjun
        · rw [getD_set_ne true hjk] at hun; exact hun
      have keep : ∀ {C : World → Prop} (u : Value), YieldsIn P ops C oi v a → YieldsIn P ops C oi v (a.put oj.dst u) := fun u hy =>
        hy.of_same (execOp_put oi (fun cs b => hsel i oi cs b hi) a oj.dst u ha3) (wanted_put oi a oj.dst u ha3)
      rcases H.2 j (ready_mono hj hji) with ⟨rfl, h2⟩ | ⟨hjs, _, h2⟩
      · refine .inl ⟨rfl, fun g hg => ?_⟩
        have : oj = os := Option.some.inj (hoj.symm.trans hos)
        subst this
        have h3 := h2 g hg
        rw [Array.setIfInBounds_comm _ _ (Ne.symm hji)] at h3
        have e1 : (a.put oi.dst v).put (some d) (ptr g) = (a.put (some d) (ptr g)).put oi.dst v := Act.put_comm a v _ (fun d' hd' => by rw [← hd]; exact ha2 d' hd')
        rw [e1] at h3
        exact head_first hi hsel hs hc hn hin (hdone g) f _ _ (inv.set hj hjn) hfree' (ready_mono hr (Ne.symm hji)) (by have := keep (ptr g) (hy2 g hg); rwa [hd] at this) h3
      · refine .inr ⟨hjs, hjn, ?_⟩
        obtain ⟨u, hu, hK⟩ := yieldsIn_of_qOp hoj h2
        have hu' : YieldsIn P ops C1 oj u a := by
          refine hu.of_same ?_ ?_
          · exact (execOp_put oj (fun cs b => hsel j oj cs b hoj) a oi.dst v ha1).symm
          · exact (wanted_put oj a oi.dst v ha1).symm
        refine hu'.qOp hoj (ih (listed.setIfInBounds j true) _ (inv.set hj hjn) hfree' (ready_mono hr (Ne.symm hji)) (keep u hy) (fun g hg => keep u (hy2 g hg)) ?_)
        rw [Array.setIfInBounds_comm _ _ hji, ← Act.put_comm a v u ha2]
        exact hK

def Region.lexLay (md : Region.Mode) (ops : Array Oper) (g s : Nat) : Nat → Nat → Array Bool → Bool
  | 0, _, listed => decide (Region.ready md ops listed = [s]) && Region.seqB md ops g (s + 1) (listed.setIfInBounds s true)
  | f + 1, k, listed => (Region.ready md ops listed).contains k && Region.free md ops listed k && Region.lexLay md ops g s f (k + 1) (listed.setIfInBounds k true)
def Region.lexLayB (md : Region.Mode) (ops : Array Oper) (s : Nat) : Bool :=
  Region.noSelect ops && decide (s + 1 < ops.size) && Region.sinkB md ops (s + 1) && Region.chainB md ops (s + 1) && Region.lexLay md ops (ops.size - (s + 1)) s s 0 (Array.replicate ops.size false)

/-- What no operation of the rest writes is, at the end, as it is. -/
theorem quiet_keeps {C : World → Prop} {A : Act} {t : Tmp} : ∀ (l : List Oper) (a : Act), (∀ o ∈ l, o.dst ≠ some t) → wpQuiet P ops C (fun a' => a' = A) l a → A.tmps[t]? = a.tmps[t]?
  | [], _, _, h => by rw [show _ = A from h]
  | o :: l, a, hl, h => by
    have hp : ∀ u, (a.put o.dst u).tmps[t]? = a.tmps[t]? := fun u => by
      have h1 := hl o (by simp)
      cases hd : o.dst with
      | none => rfl
      | some x => rw [hd] at h1; simp only [Act.put]; exact Array.getElem?_setIfInBounds_ne (fun e => h1 (by rw [e]))
    unfold wpQuiet at h
    split at h
    · obtain ⟨u, _, h2⟩ := h
      exact (quiet_keeps l _ (fun o ho => hl o (by simp [ho])) h2).trans (hp u)
    · exact (quiet_keeps l _ (fun o ho => hl o (by simp [ho])) h).trans (hp _)

theorem put_size (a : Act) (x : Option Tmp) (v : Value) : (a.put x v).tmps.size = a.tmps.size := by
  cases x <;> simp [Act.put]
/-- Every operation has a slot of its own. -/
def slotsB (m : Nat) : List Oper → Bool
  | [] => true
  | o :: l => (match o.dst with | some t => decide (t < m) && l.all (fun o' => decide (o'.dst ≠ some t)) | none => false) && slotsB m l

theorem lay_lex {s g : Nat} {d : Tmp} {os : Oper} {A : Act} (hos : ops[s]? = some os) (hd : os.dst = some d) (hsel : Region.noSelect ops = true) (hs : Region.sinkB md ops (s + 1) = true) (hc : Region.chainB md ops (s + 1) = true) (hn : s + 1 < ops.size) (hne : ∃ w, C1 w) :
    ∀ (l : List Oper) (k : Nat) (listed : Array Bool) (a : Act), (∀ j, j < l.length → l[j]? = ops[k + j]?) → k + l.length = s → HeadInv md ops (s + 1) listed → slotsB a.tmps.size l = true →
    Region.lexLay md ops g s l.length k listed = true → wpQuiet P ops C1 (fun a' => a' = A) l a → (∀ g, (∃ w, C2 g w) → wpQuiet P ops (C2 g) (fun a' => a' = A) l a) →
    anyLay P md ops C1 C2 (s + 1) s d (fun k listed' a' => Region.seqB md ops g (s + 1) listed' = true ∧ a' = A.put (some d) (ptr k)) (l.length + 1) listed a
  | [], k, listed, a, _, hk, inv, _, hB, h, _ => by
    simp only [List.length_nil, Region.lexLay, Bool.and_eq_true, decide_eq_true_eq] at hB
    refine ⟨by rw [hB.1]; simp, fun i hi => ?_⟩
    rw [hB.1] at hi
    have : i = s := by simpa using hi
    exact .inl ⟨this, fun g' _ => ⟨hB.2, by rw [show a = A from h]⟩⟩
  | o :: l, k, listed, a, hl, hk, inv, hsl, hB, h, h2 => by
    have h0 : ops[k]? = some o := by simpa using (hl 0 (by simp)).symm
    simp only [List.length_cons, Region.lexLay, Bool.and_eq_true] at hB
    obtain ⟨⟨hr, hf⟩, hB'⟩ := hB
    have hkn : k < s := by simp only [List.length_cons] at hk; omega
    have hr' : k ∈ Region.ready md ops listed := by simpa using hr
    simp only [slotsB, Bool.and_eq_true] at hsl
    obtain ⟨hsl1, hsl2⟩ := hsl
    obtain ⟨t, ht⟩ : ∃ t, o.dst = some t := by
      cases hd : o.dst with
      | none => rw [hd] at hsl1; cases hsl1
      | some t => exact ⟨t, rfl⟩
    rw [ht] at hsl1
    simp only [Bool.and_eq_true, decide_eq_true_eq, List.all_eq_true] at hsl1
    obtain ⟨htl, hto⟩ := hsl1
    have hst : qOp P ops C1 k (wpQuiet P ops C1 (fun a' => a' = A) l) a := by unfold qOp; simp only [h0]; exact h
    obtain ⟨v, hy, hK⟩ := yieldsIn_of_qOp h0 hst
    have hAv : A.tmps[t]? = some v := by
      rw [quiet_keeps l _ hto hK, ht]
      simp [Act.put, htl]
    have hg : ∀ g, (∃ w, C2 g w) → YieldsIn P ops (C2 g) o v a ∧ wpQuiet P ops (C2 g) (fun a' => a' = A) l (a.put o.dst v) := fun g hg => by
      have hst : qOp P ops (C2 g) k (wpQuiet P ops (C2 g) (fun a' => a' = A) l) a := by unfold qOp; simp only [h0]; exact h2 g hg
      obtain ⟨v', hy', hK'⟩ := yieldsIn_of_qOp h0 hst
      have hAv' : A.tmps[t]? = some v' := by
        rw [quiet_keeps l _ hto hK', ht]
        simp [Act.put, htl]
      have : v' = v := Option.some.inj (hAv'.symm.trans hAv)
      subst this
      exact ⟨hy', hK'⟩
    exact lay_first h0 hos hd (Region.noSelect_spec hsel) hs hc hn (by omega) (by omega) (by omega) (fun g' listed' a' hL => seqB_ready hL.1) (l.length + 1) listed a inv (Region.free_spec h0 hf) hr' hy (fun g h => (hg g h).1)
      (lay_lex hos hd hsel hs hc hn hne l (k + 1) _ _ (fun j hj => by have := hl (j + 1) (by simp; omega); simpa [Nat.add_assoc, Nat.add_comm 1 j] using this) (by simp only [List.length_cons] at hk; omega) (inv.set hr' (by omega)) (by rw [put_size]; exact hsl2) hB' hK (fun g h => (hg g h).2))
end

/-- A world that has all that w0 has, as it was, and in which X holds. -/
structure ExtX (w0 : World) (X : World → Prop) where
  w : World
  h : Below w0.heap.size w0 w
  x : X w
/-- What new memory does not turn. -/
def Stable (X : World → Prop) : Prop := ∀ w w', Below w.heap.size w w' → X w → X w'

theorem ExtX.cell {w0 : World} {X : World → Prop} {p : Addr} {v : Value} (h : w0.cell? p = some v) (k : ExtX w0 X) : k.w.cell? p = some v := Ext.cell h ⟨k.w, k.h⟩
theorem ExtX.blk {w0 : World} {X : World → Prop} {g : Nat} {o : Obj} (h : w0.heap[g]? = some o) (k : ExtX w0 X) : k.w.heap[g]? = some o := Ext.blk h ⟨k.w, k.h⟩
theorem ExtX.call {P : Program} {f : FuncId} {args : Array Value} {w0 : World} {X : World → Prop} (hX : Stable X) {k : ExtX w0 X} {v : Value}
    (h : Calls P f args k.w fun e w' => e = .returned v ∧ Below k.w.heap.size k.w w') : Calls P f args k.w fun e w'' => e = .returned v ∧ ∃ k' : ExtX w0 X, w'' = k'.w :=
  h.mono fun _ _ ⟨he, hb⟩ => ⟨he, ⟨_, k.h.trans (hb.mono k.h.size), hX _ _ hb k.x⟩, rfl⟩
theorem ExtX.same {P : Program} {f : FuncId} {args : Array Value} {w0 : World} {X : World → Prop} {k : ExtX w0 X} {v : Value}
    (h : Calls P f args k.w fun e w' => e = .returned v ∧ w' = k.w) : Calls P f args k.w fun e w'' => e = .returned v ∧ ∃ k' : ExtX w0 X, w'' = k'.w :=
  h.mono fun _ _ ⟨he, hb⟩ => ⟨he, k, hb⟩

theorem region_lay {P : Program} {id : Nat} {Q : Exit → Act → World → Prop} {a : Act} {w : World} {l : List Oper} (s : Nat) (d : Tmp) (Z : Obj) (os : Oper) (m : Nat) (hm : P.follows .mixedOrders = true) (hB : Region.lexLayB .any l.toArray s = true)
    (hos : l[s]? = some os) (hd : os.dst = some d) (hgd : os.guard = none) (ha : ∀ (a : Act) (w : World), (execOp a.eval os).run P w = .ok (.value (ptr w.heap.size)) (w.alloc Z)) (hms : a.tmps.size = m) (hsl : slotsB m (l.take s) = true)
    (h : ∃ A, (∀ X, Stable X → Nonempty (ExtX w X) → wpQuiet P l.toArray (fun w' => ∃ k : ExtX w X, w' = k.w) (fun a' => a' = A) (l.take s) a) ∧
      ∀ g w', w.heap.size ≤ g → Below w.heap.size w w' → w'.heap[g]? = some Z → wpList P l.toArray Q (l.drop (s + 1)) (A.put (some d) (ptr g)) w') :
    (Code.region id l.toArray true).wp P Q a w := by
  obtain ⟨A, hW, hT⟩ := h
  simp only [Region.lexLayB, Bool.and_eq_true, decide_eq_true_eq] at hB
  obtain ⟨⟨⟨⟨hsel, hn⟩, hs⟩, hc⟩, hlex⟩ := hB
  have hn' : s + 1 < l.length := by simpa using hn
  have htl : (l.take s).length = s := by simp; omega
  have hdl : (l.drop (s + 1)).length = l.toArray.size - (s + 1) := by simp
  have inv0 : HeadInv .any l.toArray (s + 1) (Array.replicate l.toArray.size false) :=
    ⟨by simp, fun j oj _ hl => (by rw [getD_replicate_false] at hl; cases hl), fun t _ ht => getD_in (by simpa using ht) (getD_replicate_false _ _)⟩
  have b0 : Below w.heap.size w { w with drawn := w.drawn + 1 } := ⟨rfl, rfl, rfl, Nat.le_refl _, fun _ _ => rfl⟩
  let XT : World → Prop := fun _ => True
  let XG : Nat → World → Prop := fun g w' => w'.heap[g]? = some Z ∧ w.heap.size ≤ g
  have sT : Stable XT := fun _ _ _ _ => trivial
  have sG : ∀ g, Stable (XG g) := fun g w1 w2 hb hx => by
    refine ⟨?_, hx.2⟩
    rw [hb.block g ?_]
    · exact hx.1
    · rcases Nat.lt_or_ge g w1.heap.size with h' | h'
      · exact h'
      · have := hx.1
        rw [Array.getElem?_eq_none h'] at this; cases this
  have H := lay_lex (P := P) (md := .any) (ops := l.toArray) (C1 := fun w' => ∃ k : ExtX w XT, w' = k.w) (C2 := fun g w' => ∃ k : ExtX w (XG g), w' = k.w) (g := l.toArray.size - (s + 1)) (A := A) (by simpa using hos) hd hsel hs hc hn ⟨w, ⟨w, Below.refl _ _, trivial⟩, rfl⟩ (l.take s) 0 _ a (fun j hj => by
    have hj' : j < s := by rw [htl] at hj; exact hj
    simp [hj']) (by simpa using htl) inv0 (by rw [hms]; exact hsl) (by rw [htl]; exact hlex) (hW _ sT ⟨⟨w, Below.refl _ _, trivial⟩⟩) (fun g ⟨w', k, _⟩ => hW _ (sG g) ⟨k⟩)
  refine wp_region_any hm ?_
  have := any_of_lay (ops := l.toArray) (Q' := Q) (g := l.toArray.size - (s + 1)) (Z := Z) (by simpa using hos) hd hgd ha (fun w1 ⟨k, hk⟩ => by
      subst hk
      exact ⟨⟨k.w.alloc Z, k.h.alloc k.h.size Z, heap_alloc_new _ _, k.h.size⟩, rfl⟩)
    (fun g listed a' w' hw' hL => by
      obtain ⟨k, rfl⟩ := hw'
      have := wpAny_of_seq (ops := l.toArray) (md := .any) (Q' := Q) (l.drop (s + 1)) (s + 1) listed a' k.w (fun j => by simp [List.getElem?_drop]) (by rw [hdl]; exact hL.1) (by rw [hL.2]; exact hT g k.w k.x.2 k.h k.x.1)
      rwa [hdl] at this) _ _ _ { w with drawn := w.drawn + 1 } ⟨⟨_, b0, trivial⟩, rfl⟩ H
  rw [htl, show s + 1 + (l.toArray.size - (s + 1)) = l.toArray.size by omega] at this
  exact this
end Go.Proofs.Ytkgkoicmpjnjgaa
