/-
  What LazyOnce's memory holds between two of its asks, and what one ask turns in it.
-/
import Derived.Test.YtbaolijhjijlmaaOnceK
namespace Go.Proofs.Ytbaolijhjijlmaa
open Go.RowKit

/-- Where the blocks lie: never turns. -/
structure Lie (n CA AS g : Nat) (cb iv : Nat → Nat) : Prop where
  cell : ∀ t, t < n → CA + 1 + 1 ≤ cb t ∧ cb t < AS
  var : ∀ t, t < n → CA + 1 + 1 ≤ iv t ∧ iv t < AS
  row : CA + 1 + 1 ≤ g ∧ g < AS
  apart : ∀ s t, s < n → t < n → cb s = cb t → s = t
  other : ∀ s t, s < n → t < n → cb s ≠ iv t
  far : ∀ s, s < n → cb s ≠ g

/-- c t: cell t has been asked; a t: the law's own mark of it. -/
structure Held (n B0 CA AS g l0 k0 l2 k2 : Nat) (cb iv : Nat → Nat) (a0 a2 : Option Addr) (av : Nat → Int) (fl : Nat → Bool) (cur : Array Value) (w : World) (c a : Nat → Bool) (wq : World) : Prop where
  below : Below B0 w wq
  answers : wq.heap[B0]? = some (.cells #[.slice a0 l0 k0] 37)
  panics : wq.heap[B0 + 1]? = some (.cells #[.slice a2 l2 k2] 38)
  calls : wq.heap[CA]? = some (.cells (arr n fun t => .int .i64 (if c t then 1 else 0)) 3)
  head : wq.heap[CA + 1]? = some (.cells #[.slice (some ⟨CA, 0, none⟩) n n] 37)
  row : wq.heap[g]? = some (.cells cur 22)
  asked : wq.heap[AS]? = some (.cells (arr n fun t => .bool (a t)) 4)
  var : ∀ t, t < n → wq.heap[iv t]? = some (.cells #[.int .i64 t] 3)
  cell : ∀ t, t < n → wq.heap[cb t]? = some (if c t then cobj 1 0 0 1 .nilFunc (if fl t then 0 else av t) else
    cobj 0 0 0 0 (.func (.func 16) #[] #[.pointer (some ⟨CA + 1, 0, none⟩), .pointer (some ⟨iv t, 0, none⟩), .pointer (some ⟨B0 + 1, 0, none⟩), .pointer (some ⟨B0, 0, none⟩)]) 0)

def mark (c : Nat → Bool) (k : Nat) : Nat → Bool := fun t => if t = k then true else c t

section
variable {n B0 CA AS g l0 k0 l2 k2 : Nat} {cb iv : Nat → Nat} {a0 a2 : Option Addr} {av : Nat → Int} {fl : Nat → Bool} {cur : Array Value} {w : World} {c a : Nat → Bool} {wq : World}

theorem Held.drew (h : Held n B0 CA AS g l0 k0 l2 k2 cb iv a0 a2 av fl cur w c a wq) : Held n B0 CA AS g l0 k0 l2 k2 cb iv a0 a2 av fl cur w c a wq.drew :=
  ⟨h.below.drew, h.answers, h.panics, h.calls, h.head, h.row, h.asked, h.var, h.cell⟩

/-- 'asked[k] = true'. -/
theorem Held.store (h : Held n B0 CA AS g l0 k0 l2 k2 cb iv a0 a2 av fl cur w c a wq) (L : Lie n CA AS g cb iv) (hB : B0 + 1 < CA) (k : Nat) :
    Held n B0 CA AS g l0 k0 l2 k2 cb iv a0 a2 av fl cur w c (mark a k) (wq.setCell ⟨AS, k, none⟩ (.bool true)) := by
  have hA : CA + 1 + 1 < AS := by have := L.row; omega
  refine ⟨h.below.setCell (by simp; omega) _, ?_, ?_, ?_, ?_, ?_, ?_, ?_, ?_⟩
  · rw [blk_other _ (by simp; omega)]; exact h.answers
  · rw [blk_other _ (by simp; omega)]; exact h.panics
  · rw [blk_other _ (by simp; omega)]; exact h.calls
  · rw [blk_other _ (by simp; omega)]; exact h.head
  · rw [blk_other _ (by have := L.row; simp; omega)]; exact h.row
  · rw [arr_blk_set h.asked, arr_congr n _ (fun t => .bool (mark a k t))]
    intro t _; unfold mark; split <;> rfl
  · intro t ht
    rw [blk_other _ (by have := L.var t ht; simp; omega)]; exact h.var t ht
  · intro t ht
    rw [blk_other _ (by have := L.cell t ht; simp; omega)]; exact h.cell t ht

/-- Blocks that an ask turns: the calls' array and the cell's own. -/
theorem Held.ask (h : Held n B0 CA AS g l0 k0 l2 k2 cb iv a0 a2 av fl cur w c a wq) (L : Lie n CA AS g cb iv) (hB : B0 + 1 < CA) {k : Nat} (hk : k < n) {w' : World}
    (hkept : Kept (fun t => t = CA ∨ t = cb k) wq w') (hcalls : w'.heap[CA]? = some (.cells (arr n fun t => .int .i64 (if mark c k t then 1 else 0)) 3))
    (hcell : w'.heap[cb k]? = some (cobj 1 0 0 1 .nilFunc (if fl k then 0 else av k))) : Held n B0 CA AS g l0 k0 l2 k2 cb iv a0 a2 av fl cur w (mark c k) a w' := by
  have hA : CA + 1 + 1 < AS := by have := L.row; omega
  have lk := L.cell k hk
  have same : ∀ (b : Nat) (o : Obj), wq.heap[b]? = some o → b ≠ CA → b ≠ cb k → w'.heap[b]? = some o := fun b o hb h1 h2 => by
    rw [hkept.block b (blk_lt hb) (by rintro (e | e); exact h1 e; exact h2 e)]; exact hb
  refine ⟨h.below.trans (hkept.below (by have := blk_lt h.answers; omega) (by rintro t (e | e) <;> omega)), ?_, ?_, hcalls, ?_, ?_, ?_, ?_, ?_⟩
  · exact same _ _ h.answers (by omega) (by omega)
  · exact same _ _ h.panics (by omega) (by omega)
  · exact same _ _ h.head (by omega) (by omega)
  · exact same _ _ h.row (by have := L.row; omega) (fun e => L.far k hk e.symm)
  · exact same _ _ h.asked (by omega) (by omega)
  · intro t ht
    exact same _ _ (h.var t ht) (by have := L.var t ht; omega) (fun e => L.other k t hk ht e.symm)
  · intro t ht
    by_cases e : t = k
    · subst e; simp only [mark, if_true]; exact hcell
    · rw [same _ _ (h.cell t ht) (by have := L.cell t ht; omega) (fun e' => e (L.apart t k ht hk e'))]
      simp [mark, e]

/-- ONE ASK: what 'get' answers, and what is held behind it. -/
theorem Held.get (h : Held n B0 CA AS g l0 k0 l2 k2 cb iv a0 a2 av fl cur w c a wq) (L : Lie n CA AS g cb iv) (hB : B0 + 1 < CA) (hw : w.heap.size = B0) {k : Nat} (hk : k < n) (hn : n ≤ 8) (hl0 : n ≤ l0)
    (ab ao : Nat) (hab : ab < B0) (ha0 : a0 = some ⟨ab, ao, none⟩) (hav : w.cell? ⟨ab, ao + k, none⟩ = some (.int .i64 (av k)))
    (hfl : (l2 ≤ k ∧ fl k = false) ∨ ∃ pb po, pb < B0 ∧ a2 = some ⟨pb, po, none⟩ ∧ k < l2 ∧ w.cell? ⟨pb, po + k, none⟩ = some (.bool (fl k)))
    (X : Int) (F : Bool) (hX : X = if fl k then 0 else av k) (hF : F = (fl k && !c k)) :
    Calls Try.prog 10 #[.pointer (some ⟨cb k, 0, none⟩)] wq fun e w' => e = .returned (.tuple #[.int .i64 X, .bool F]) ∧ Held n B0 CA AS g l0 k0 l2 k2 cb iv a0 a2 av fl cur w (mark c k) a w' := by
  have hA : CA + 1 + 1 < AS := by have := L.row; omega
  have lk := L.cell k hk
  have vk := L.var k hk
  have hcl := h.cell k hk
  cases hc : c k with
  | true =>
    rw [hc, if_pos rfl] at hcl
    refine (caught_again _ _ _ _ _ _ _ hcl).mono ?_
    rintro e w' ⟨rfl, hkept⟩
    have hm : mark c k = c := by
      funext t; unfold mark; split
      · subst_vars; exact hc.symm
      · rfl
    refine ⟨by rw [hX, hF, hc]; simp, ?_⟩
    refine h.ask L hB hk (hkept.mono fun _ _ f => f.elim) ?_ ?_
    · rw [hkept.block _ (blk_lt h.calls) (fun f => f), hm]; exact h.calls
    · rw [hkept.block _ (blk_lt hcl) (fun f => f)]; exact hcl
  | false =>
    rw [hc, if_neg (by simp)] at hcl
    have d : CA ≠ CA + 1 ∧ CA ≠ iv k ∧ CA ≠ B0 + 1 ∧ CA ≠ B0 ∧ CA ≠ ab := by omega
    have sCA : k < n → (fun t => Value.int .i64 (if c t then 1 else 0)) k = .int .i64 0 := fun _ => by simp [hc]
    have after : ∀ W : World, W.heap[CA]? = some (.cells (arr n fun t => .int .i64 (if c t then 1 else 0)) 3) → (W.setCell ⟨CA, k, none⟩ (.int .i64 1)).heap[CA]? = some (.cells (arr n fun t => .int .i64 (if mark c k t then 1 else 0)) 3) := fun W hW => by
      rw [arr_blk_set hW, arr_congr n _ (fun t => .int .i64 (if mark c k t then 1 else 0))]
      intro t _; unfold mark; split <;> simp
    have reads : ∀ W : World, Kept (fun t => t = cb k) wq W → W.heap[CA + 1]? = some (.cells #[.slice (some ⟨CA, 0, none⟩) n n] 37) ∧ W.heap[CA]? = some (.cells (arr n fun t => .int .i64 (if c t then 1 else 0)) 3) ∧ W.heap[iv k]? = some (.cells #[.int .i64 k] 3) ∧ W.heap[B0 + 1]? = some (.cells #[.slice a2 l2 k2] 38) ∧ W.heap[B0]? = some (.cells #[.slice a0 l0 k0] 37) ∧ (∀ (b o : Nat), b < B0 → W.cell? ⟨b, o, none⟩ = w.cell? ⟨b, o, none⟩) := fun W hW => by
      refine ⟨?_, ?_, ?_, ?_, ?_, ?_⟩
      · rw [hW.block _ (blk_lt h.head) (by omega)]; exact h.head
      · rw [hW.block _ (blk_lt h.calls) (by omega)]; exact h.calls
      · rw [hW.block _ (blk_lt (h.var k hk)) (fun e => L.other k k hk hk e.symm)]; exact h.var k hk
      · rw [hW.block _ (blk_lt h.panics) (by omega)]; exact h.panics
      · rw [hW.block _ (blk_lt h.answers) (by omega)]; exact h.answers
      · intro b o hb
        rw [World.cell?_of_block (w := wq) (hW.block b (by have := blk_lt h.answers; omega) (by omega))]
        exact h.below.cell (p := ⟨b, o, none⟩) hb
    subst ha0
    cases hfk : fl k with
    | false =>
      have key : ∀ W : World, Kept (fun t => t = cb k) wq W → Calls Try.prog 16 #[.pointer (some ⟨CA + 1, 0, none⟩), .pointer (some ⟨iv k, 0, none⟩), .pointer (some ⟨B0 + 1, 0, none⟩), .pointer (some ⟨B0, 0, none⟩)] W fun e w' => e = .returned (.int .i64 (av k)) ∧ w' = W.setCell ⟨CA, k, none⟩ (.int .i64 1) := fun W hW => by
        obtain ⟨r1, r2, r3, r4, r5, r6⟩ := reads W hW
        rcases hfl with ⟨h1, _⟩ | ⟨pb, po, hpb, h1, h2, h3⟩
        · exact k16_past _ _ _ _ _ n k ab ao l0 k0 l2 k2 a2 _ (av k) W hk hn (by omega) r1 r2 (sCA hk) r3 r4 r5 d (by rw [r6 _ _ hab]; exact hav) h1
        · exact k16_calm _ _ _ _ _ n k ab ao l0 k0 l2 k2 a2 _ (av k) W hk hn (by omega) r1 r2 (sCA hk) r3 r4 r5 d (by rw [r6 _ _ hab]; exact hav) pb po (by omega) h1 h2 (by rw [r6 _ _ hpb, h3, hfk])
      refine (caught_once (cb k) 0 16 _ wq (fun t => t = CA) (fun v w2 => v = av k ∧ w2.heap[CA]? = some (.cells (arr n fun t => .int .i64 (if mark c k t then 1 else 0)) 3)) hcl (enters16 _) ?_ ?_ ?_).mono ?_
      · intro t e; have := blk_lt h.calls; omega
      · intro v w2 w' hs hq; exact ⟨hq.1, by rw [hs CA (blk_lt h.calls) (by omega)]; exact hq.2⟩
      · intro W hW _
        refine (key W hW).mono ?_
        rintro e w2 ⟨rfl, rfl⟩
        exact ⟨av k, rfl, ⟨rfl, after W (reads W hW).2.1⟩, (Kept.refl _ W).set _ _⟩
      · rintro e w' ⟨v, rfl, ⟨rfl, hq⟩, hb2, hkept⟩
        refine ⟨by rw [hX, hF, hfk]; simp, ?_⟩
        exact h.ask L hB hk hkept hq (by rw [hb2, hfk]; simp)
    | true =>
      have key : ∀ W : World, Kept (fun t => t = cb k) wq W → Calls Try.prog 16 #[.pointer (some ⟨CA + 1, 0, none⟩), .pointer (some ⟨iv k, 0, none⟩), .pointer (some ⟨B0 + 1, 0, none⟩), .pointer (some ⟨B0, 0, none⟩)] W fun e w' => (∃ u v, e = .panicked [{ v := .iface u v, recovered := false }]) ∧ w' = W.setCell ⟨CA, k, none⟩ (.int .i64 1) := fun W hW => by
        obtain ⟨r1, r2, r3, r4, r5, r6⟩ := reads W hW
        rcases hfl with ⟨_, h1⟩ | ⟨pb, po, hpb, h1, h2, h3⟩
        · rw [hfk] at h1; cases h1
        · exact k16_falls _ _ _ _ _ n k ab ao l0 k0 l2 k2 a2 _ (av k) W hk hn (by omega) r1 r2 (sCA hk) r3 r4 r5 d (by rw [r6 _ _ hab]; exact hav) pb po (by omega) h1 h2 (by rw [r6 _ _ hpb, h3, hfk])
      refine (caught_falls (cb k) 0 16 _ wq (fun t => t = CA) (fun w2 => w2.heap[CA]? = some (.cells (arr n fun t => .int .i64 (if mark c k t then 1 else 0)) 3)) hcl (enters16 _) ?_ ?_ ?_).mono ?_
      · intro t e; have := blk_lt h.calls; omega
      · intro w2 w' hs hq; rw [hs CA (blk_lt h.calls) (by omega)]; exact hq
      · intro W hW _
        refine (key W hW).mono ?_
        rintro e w2 ⟨⟨u, v, rfl⟩, rfl⟩
        exact ⟨u, v, rfl, after W (reads W hW).2.1, (Kept.refl _ W).set _ _⟩
      · rintro e w' ⟨rfl, hq, hb2, hkept⟩
        refine ⟨by rw [hX, hF, hfk, hc]; simp, ?_⟩
        exact h.ask L hB hk hkept hq (by rw [hb2, hfk]; simp)
end
end Go.Proofs.Ytbaolijhjijlmaa
