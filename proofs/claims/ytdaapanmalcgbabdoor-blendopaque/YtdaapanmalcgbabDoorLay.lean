/-
  Regions that draw their order: quiet operations, ONE variable that is made (it may be made ahead of any of them), then a tail in one order (the store into it): one walk of the head in the text's order serves every order. No Go text is walked here.
-/
import Derived.Test.YtdaapanmalcgbabDoorTail
namespace Go.Proofs.YtdaapanmalcgbabDoor
open Go.RowKit

/-- The address of a new variable. -/
abbrev ptr (g : Nat) : Value := .pointer (some ⟨g, 0, none⟩)

section
variable {P : Program} {l : List Oper}

/-- Each slot is written by one operation of the head at most; the new variable's by none, and none looks at it; the variable is made by the s-th operation, which waits for the head alone. -/
def slotsB (l : List Oper) (s : Nat) (d : Tmp) : Bool :=
  (List.range s).all (fun i => match l[i]? with
    | some o => !(o.looksAt (l.take s).toArray).contains d && decide (o.dst ≠ some d) && (List.range s).all (fun j => i == j || (match l[j]? with | some o' => o.dst == none || decide (o.dst ≠ o'.dst) | none => true))
    | none => false) &&
  (match l[s]? with | some o => o.after.all (fun e => !Region.binds .any e || decide (e.on < s)) | none => false)

structure Slots (l : List Oper) (s : Nat) (d : Tmp) : Prop where
  free : ∀ (j : Nat) o, (l.take s).toArray[j]? = some o → d ∉ o.looksAt (l.take s).toArray ∧ o.dst ≠ some d
  own : ∀ (i j : Nat) (oi oj : Oper) (t : Tmp), (l.take s).toArray[i]? = some oi → (l.take s).toArray[j]? = some oj → i ≠ j → oi.dst = some t → oj.dst ≠ some t
  mid : ∀ o, l[s]? = some o → ∀ e ∈ o.after, Region.binds .any e = true → e.on < s

theorem in_head {s i : Nat} {o : Oper} (h : (l.take s).toArray[i]? = some o) : i < s ∧ l[i]? = some o := by
  have h1 := (Array.getElem?_eq_some_iff.1 h).1
  have hs : i < s := by rw [List.size_toArray, List.length_take] at h1; omega
  exact ⟨hs, by rw [take_get hs] at h; simpa using h⟩

theorem slots_of {s : Nat} {d : Tmp} (h : slotsB l s d = true) : Slots l s d := by
  simp only [slotsB, Bool.and_eq_true, List.all_eq_true, List.mem_range] at h
  obtain ⟨h1, h2⟩ := h
  refine ⟨fun j o ho => ?_, fun i j oi oj t hi hj hne ht he => ?_, fun o ho e he hb => ?_⟩
  · obtain ⟨hs, hl⟩ := in_head ho
    have := h1 j hs
    rw [hl] at this
    simp only [Bool.and_eq_true, decide_eq_true_eq] at this
    exact ⟨by simpa using this.1.1, this.1.2⟩
  · obtain ⟨hsi, hli⟩ := in_head hi
    obtain ⟨hsj, hlj⟩ := in_head hj
    have := h1 i hsi
    rw [hli] at this
    simp only [Bool.and_eq_true, List.all_eq_true, List.mem_range] at this
    have := this.2 j hsj
    rw [hlj] at this
    simp [hne, ht, he] at this
  · rw [ho] at h2
    have := Array.all_eq_true_iff_forall_mem.1 h2 e he
    simpa [hb] using this

/-- What no operation writes that has not come up yet is, at the end, as it is. -/
theorem any_keeps {ops : Array Oper} {md : Region.Mode} {C : World → Prop} {A : Act} {t : Tmp} : ∀ (f : Nat) (listed : Array Bool) (a : Act), (∀ (j : Nat) o, ops[j]? = some o → listed.getD j true = false → o.dst ≠ some t) →
    wpAnyQ P md ops C (fun a' => a' = A) f listed a → A.tmps[t]? = a.tmps[t]?
  | 0, _, _, _, h => by rw [show _ = A from h.2]
  | f + 1, listed, a, hd, h => by
    by_cases hr : Region.ready md ops listed = []
    · rw [show a = A from h.1 hr]
    · obtain ⟨i, hi⟩ : ∃ i, i ∈ Region.ready md ops listed := List.exists_mem_of_ne_nil _ hr
      obtain ⟨hun, o, ho, _⟩ := mem_ready.1 hi
      obtain ⟨v, _, hK⟩ := yieldsIn_of_qOp ho (h.2 i hi)
      rw [any_keeps f _ _ (fun j oj hj hu => hd j oj hj (by
        by_cases hij : i = j
        · subst hij; exact hun
        · rw [getD_set_ne true hij] at hu; exact hu)) hK]
      have h1 := hd i o ho hun
      cases hdst : o.dst with
      | none => rfl
      | some x => rw [hdst] at h1; exact Array.getElem?_setIfInBounds_ne (fun e => h1 (by rw [e]))

/-- Two values that lead to the same end are put alike. -/
theorem put_alike {a A : Act} {t : Tmp} {u v : Value} (hu : A.tmps[t]? = (a.put (some t) u).tmps[t]?) (hv : A.tmps[t]? = (a.put (some t) v).tmps[t]?) : a.put (some t) u = a.put (some t) v := by
  by_cases ht : t < a.tmps.size
  · rw [hu] at hv
    simp [Act.put, ht] at hv
    rw [hv]
  · have e : ∀ x : Value, a.tmps.setIfInBounds t x = a.tmps := fun x => Array.setIfInBounds_eq_of_size_le (Nat.le_of_not_lt ht)
    simp only [Act.put, e]
end

/-- A world that has all that w0 has, as it was, and in which X holds. -/
structure ExtX (w0 : World) (X : World → Prop) where
  w : World
  h : Below w0.heap.size w0 w
  x : X w
/-- What new memory does not turn. -/
def Stable (X : World → Prop) : Prop := ∀ w w', Below w.heap.size w w' → X w → X w'

theorem ExtX.cell {w0 : World} {X : World → Prop} {p : Addr} {v : Value} (h : w0.cell? p = some v) (k : ExtX w0 X) : k.w.cell? p = some v := Ext.cell h ⟨k.w, k.h⟩
theorem ExtX.blk {w0 : World} {X : World → Prop} {g : Nat} {o : Obj} (h : w0.heap[g]? = some o) (k : ExtX w0 X) : k.w.heap[g]? = some o := Ext.blk h ⟨k.w, k.h⟩
theorem ExtX.call {P : Program} {f : FuncId} {args : Array Value} {w0 : World} {X : World → Prop} (hX : Stable X) {k : ExtX w0 X} {v : Value}
    (h : Calls P f args k.w fun e w' => e = .returned v ∧ Below k.w.heap.size k.w w') : Calls P f args k.w fun e w'' => e = .returned v ∧ ∃ k' : ExtX w0 X, w'' = k'.w :=
  h.mono fun _ _ ⟨he, hb⟩ => ⟨he, ⟨_, k.h.trans (hb.mono k.h.size), hX _ _ hb k.x⟩, rfl⟩
theorem ExtX.same {P : Program} {f : FuncId} {args : Array Value} {w0 : World} {X : World → Prop} {k : ExtX w0 X} {v : Value}
    (h : Calls P f args k.w fun e w' => e = .returned v ∧ w' = k.w) : Calls P f args k.w fun e w'' => e = .returned v ∧ ∃ k' : ExtX w0 X, w'' = k'.w :=
  h.mono fun _ _ ⟨he, hb⟩ => ⟨he, k, hb⟩

section
variable {P : Program} {l : List Oper} {w0 : World}

/-- The worlds in which X holds. -/
abbrev Cls (w0 : World) (X : World → Prop) : World → Prop := fun w' => ∃ k : ExtX w0 X, w' = k.w
/-- The new variable lies there as it was made. -/
def Made (w0 : World) (Z : Obj) (g : Nat) : World → Prop := fun w' => w'.heap[g]? = some Z ∧ w0.heap.size ≤ g
theorem made_stable (Z : Obj) (g : Nat) : Stable (Made w0 Z g) := fun w1 w2 hb hx => by
  refine ⟨?_, hx.2⟩
  rw [hb.block g ?_]
  · exact hx.1
  · rcases Nat.lt_or_ge g w1.heap.size with h' | h'
    · exact h'
    · have := hx.1
      rw [Array.getElem?_eq_none h'] at this; cases this

/-- Ahead of the variable's making: every order of the whole, beside the head's own. -/
theorem follow_lay {s : Nat} {d : Tmp} {os : Oper} {Z : Obj} {A : Act} {Q : Exit → Act → World → Prop} (hp : Parts l s (s + 1)) (hsl : Slots l s d)
    (hos : l[s]? = some os) (hd : os.dst = some d) (hgd : os.guard = none) (ha : ∀ (a : Act) (w : World), (execOp a.eval os).run P w = .ok (.value (ptr w.heap.size)) (w.alloc Z))
    (hT : ∀ g w', Cls w0 (Made w0 Z g) w' → wpList P l.toArray Q (l.drop (s + 1)) (A.put (some d) (ptr g)) w') :
    ∀ (f : Nat) (lh lf : Array Bool) (a : Act) (w : World), lf.size = l.length → lh.size = s → (∀ i, i < s → ∀ b, lf.getD i b = lh.getD i b) → (∀ i, s ≤ i → i < l.length → lf.getD i true = false) → Cls w0 (fun _ => True) w →
      (∀ X, Stable X → Nonempty (ExtX w0 X) → wpAnyQ P .any (l.take s).toArray (Cls w0 X) (fun a' => a' = A) f lh a) → wpAny P .any l.toArray Q (f + 1 + (l.length - (s + 1))) lf a w := by
  have hsel : Region.noSelect (l.take s).toArray = true := by have := hp.lex; simp only [Region.lexB, Bool.and_eq_true] at this; exact this.1
  have hsl' : s < l.length := (List.getElem?_eq_some_iff.1 hos).1
  -- the variable is made
  have make : ∀ (f : Nat) (lh lf : Array Bool) (a : Act) (w : World), lf.size = l.length → lh.size = s → (∀ i, i < s → ∀ b, lf.getD i b = lh.getD i b) → (∀ i, s ≤ i → i < l.length → lf.getD i true = false) → Cls w0 (fun _ => True) w →
      (∀ X, Stable X → Nonempty (ExtX w0 X) → wpAnyQ P .any (l.take s).toArray (Cls w0 X) (fun a' => a' = A) f lh a) →
      wpOp P l.toArray Q s (wpAny P .any l.toArray Q (f + (l.length - (s + 1))) (lf.setIfInBounds s true)) a w := by
    intro f lh lf a w h1 h2 h3 h4 hw h
    obtain ⟨k, rfl⟩ := hw
    have hm : Cls w0 (Made w0 Z k.w.heap.size) (k.w.alloc Z) := ⟨⟨k.w.alloc Z, k.h.alloc k.h.size Z, heap_alloc_new _ _, k.h.size⟩, rfl⟩
    have hb : Beside l s (s + 1) lh (lf.setIfInBounds s true) := by
      refine ⟨h2, by simp [h1], fun i hi b => ?_, fun i hi hi2 => ?_, fun i hi hi2 => ?_⟩
      · rw [getD_set_ne b (by omega)]; exact h3 i hi b
      · have : i = s := by omega
        subst this
        simp [h1, hsl']
      · rw [getD_set_ne true (by omega)]; exact h4 i (by omega) hi2
    have h5 := h _ (made_stable (w0 := w0) Z k.w.heap.size) ⟨hm.choose⟩
    have h6 := follow (x := some d) (p := ptr k.w.heap.size) (Q := Q) hp (fun d' hd' j o ho => by cases hd'; exact hsl.free j o ho)
      (fun a' w' hw' hq => by rw [show a' = A from hq]; exact hT _ w' hw') f lh _ a (k.w.alloc Z) hb hm h5
    unfold wpOp
    rw [show l.toArray[s]? = some os by simpa using hos]
    show if Region.wanted os (yielded l.toArray a.tmps) = true then _ else _
    rw [if_pos (by simp [Region.wanted, hgd])]
    refine .inl ?_
    unfold Oper.wp
    rw [ha, Oper.upon_value, hd]
    exact h6
  intro f
  induction f with
  | zero =>
    intro lh lf a w h1 h2 h3 h4 hw h
    have hq := h _ (fun _ _ _ _ => trivial) ⟨hw.choose⟩
    have hun : lf.getD s false = false := getD_tf (h4 s (Nat.le_refl _) hsl')
    have hall : ∀ i, i < s → lh.getD i false = true := head_all hp h2 hq.1
    rw [show 0 + 1 + (l.length - (s + 1)) = (0 + (l.length - (s + 1))) + 1 by omega]
    refine ⟨fun h0 => ?_, fun i hi => ?_⟩
    · have : s ∈ Region.ready .any l.toArray lf := mem_ready.2 ⟨h4 s (Nat.le_refl _) hsl', os, by simpa using hos, fun e he hb => by
        have := hsl.mid os hos e he hb
        rw [h3 _ this]; exact hall _ this⟩
      rw [h0] at this; cases this
    · have his := only_mid hp hsl' h4 hi
      rcases his with his | his
      · have := hall i his
        rw [← h3 i his false] at this
        have h7 := getD_tf (mem_ready.1 hi).1
        rw [this] at h7; cases h7
      · subst his
        exact make 0 lh lf a w h1 h2 h3 h4 hw h
  | succ f ih =>
    intro lh lf a w h1 h2 h3 h4 hw h
    have hq := h _ (fun _ _ _ _ => trivial) ⟨hw.choose⟩
    rw [show f + 1 + 1 + (l.length - (s + 1)) = (f + 1 + (l.length - (s + 1))) + 1 by omega]
    refine ⟨fun h0 => ?_, fun i hi => ?_⟩
    · by_cases hr : Region.ready .any (l.take s).toArray lh = []
      · have hall := head_all hp h2 hr
        have : s ∈ Region.ready .any l.toArray lf := mem_ready.2 ⟨h4 s (Nat.le_refl _) hsl', os, by simpa using hos, fun e he hb => by
          have := hsl.mid os hos e he hb
          rw [h3 _ this]; exact hall _ this⟩
        rw [h0] at this; cases this
      · obtain ⟨i0, hi0⟩ : ∃ i0, i0 ∈ Region.ready .any (l.take s).toArray lh := List.exists_mem_of_ne_nil _ hr
        have := (ready_both hp h3 (in_head (mem_ready.1 hi0).2.choose_spec.1).1).2 hi0
        rw [h0] at this; cases this
    · rcases only_mid hp hsl' h4 hi with his | his
      · have hi' : i ∈ Region.ready .any (l.take s).toArray lh := (ready_both hp h3 his).1 hi
        have hl : i < l.length := by omega
        have ho : (l.take s).toArray[i]? = some l[i] := by simp [his, hl]
        obtain ⟨v, hy, hK⟩ := yieldsIn_of_qOp ho (hq.2 i hi')
        -- every X: the same act behind the operation
        have hX : ∀ X, Stable X → Nonempty (ExtX w0 X) → wpAnyQ P .any (l.take s).toArray (Cls w0 X) (fun a' => a' = A) f (lh.setIfInBounds i true) (a.put l[i].dst v) := by
          intro X hX hne
          obtain ⟨u, _, hKu⟩ := yieldsIn_of_qOp ho ((h X hX hne).2 i hi')
          have e : a.put l[i].dst u = a.put l[i].dst v := by
            cases hdst : l[i].dst with
            | none => rfl
            | some t =>
              rw [hdst] at hK hKu
              have hkeep : ∀ (j : Nat) o, (l.take s).toArray[j]? = some o → (lh.setIfInBounds i true).getD j true = false → o.dst ≠ some t := fun j o hj hu => by
                by_cases hij : i = j
                · subst hij
                  simp [h2, his] at hu
                · exact hsl.own i j l[i] o t ho hj hij hdst
              exact put_alike (any_keeps f _ _ hkeep hKu) (any_keeps f _ _ hkeep hK)
          rw [← e]
          exact hKu
        have hq2 := qOp_side (x := none) (p := undef) hp his hsel (fun d' hd' => by cases hd') (hy.qOp (K := fun b => b = a.put l[i].dst v) ho rfl)
        refine wpOp_of_qOp hw ?_ hq2
        rintro b w' hw' ⟨c, rfl, rfl⟩
        exact ih (lh.setIfInBounds i true) (lf.setIfInBounds i true) _ w' (by simp [h1]) (by simp [h2])
          (fun j hj b => by
            by_cases hij : i = j
            · subst hij; simp [h1, h2, hl, his]
            · rw [getD_set_ne b hij, getD_set_ne b hij]; exact h3 j hj b)
          (fun j hj hj2 => by rw [getD_set_ne true (by omega)]; exact h4 j hj hj2) hw' hX
      · subst his
        exact make (f + 1) lh lf a w h1 h2 h3 h4 hw h

theorem region_lay {id : Nat} {Q : Exit → Act → World → Prop} {a : Act} {w : World} (s : Nat) (d : Tmp) (Z : Obj) (os : Oper) (hm : P.follows .mixedOrders = true) (hB : partsB l s (s + 1) = true) (hsl : slotsB l s d = true)
    (hos : l[s]? = some os) (hd : os.dst = some d) (hgd : os.guard = none) (ha : ∀ (a : Act) (w : World), (execOp a.eval os).run P w = .ok (.value (ptr w.heap.size)) (w.alloc Z))
    (h : ∃ A, (∀ X, Stable X → Nonempty (ExtX w X) → wpQuiet P (l.take s).toArray (fun w' => ∃ k : ExtX w X, w' = k.w) (fun a' => a' = A) (l.take s) a) ∧
      ∀ g w', w.heap.size ≤ g → Below w.heap.size w w' → w'.heap[g]? = some Z → wpList P l.toArray Q (l.drop (s + 1)) (A.put (some d) (ptr g)) w') :
    (Code.region id l.toArray true).wp P Q a w := by
  obtain ⟨A, hW, hT⟩ := h
  have hp := parts_of hB
  have hl := hp.nl
  have b0 : Below w.heap.size w { w with drawn := w.drawn + 1 } := ⟨rfl, rfl, rfl, Nat.le_refl _, fun _ _ => rfl⟩
  refine wp_region_any hm ?_
  have := follow_lay (w0 := w) (A := A) (Q := Q) hp (slots_of hsl) hos hd hgd ha (fun g w' ⟨k, hk⟩ => by subst hk; exact hT g k.w k.x.2 k.h k.x.1)
    s (Array.replicate s false) (Array.replicate l.length false) a { w with drawn := w.drawn + 1 } (by simp) (by simp) (fun i hi b => by simp [hi, show i < l.length by omega]) (fun i _ hi => by simp [hi]) ⟨⟨_, b0, trivial⟩, rfl⟩
    (fun X hX hne => head_any hp (hW X hX hne))
  rw [show s + 1 + (l.length - (s + 1)) = l.length by omega] at this
  simpa using this
end
end Go.Proofs.YtdaapanmalcgbabDoor
