/-
  flate's newPair and fixedPair as contracts.
-/
import Derived.Test.YtahibacjaoohiaaDoorAlp
import Derived.Test.YtahibacjaoohiaaDoorFixl
namespace Go.Proofs.YtahibacjaoohiaaDoor
open Go.RowKit

theorem AlphN.keep {S : Nat → Prop} {w w' : World} {B0 : Nat} {q : Option Addr} {m n : Int} {N : Nat} {L : Nat → Nat} (h : AlphN w B0 q m n N L) (k : Kept S w w') (hS : ∀ i, B0 ≤ i → ¬ S i) : AlphN w' B0 q m n N L := by
  obtain ⟨o, gw, gs, h1, h2, h3, hC, l1, l2, l3⟩ := h
  exact ⟨o, gw, gs, h1, h2, h3, hC.kept k (hS o l1) (hS gw l2) (hS gs l3), l1, l2, l3⟩
theorem AlphN.mono {w : World} {B0 B1 : Nat} {q : Option Addr} {m n : Int} {N : Nat} {L : Nat → Nat} (h : AlphN w B0 q m n N L) (hb : B1 ≤ B0) : AlphN w B1 q m n N L := by
  obtain ⟨o, gw, gs, h1, h2, h3, hC, l1, l2, l3⟩ := h
  exact ⟨o, gw, gs, h1, h2, h3, hC, by omega, by omega, by omega⟩
theorem AlphN.below {w w' : World} {B0 : Nat} {q : Option Addr} {m n : Int} {N : Nat} {L : Nat → Nat} (h : AlphN w B0 q m n N L) (k : Below w.heap.size w w') : AlphN w' B0 q m n N L :=
  h.keep (Kept.of_below k (Nat.le_refl _) (fun _ => False)) (fun _ _ => id)
/-- New codes are apart from what a stream's calls write. -/
theorem AlphN.alph {w : World} {B0 : Nat} {q : Option Addr} {m n : Int} {N : Nat} {L : Nat → Nat} {s b : Nat} {v : Value} (h : AlphN w B0 q m n N L) (hm : ∀ k, Mine s b v k → k < B0) : Alph w s b v (.pointer q) (.int .i64 m) (.int .i64 n) N L := by
  obtain ⟨o, gw, gs, rfl, rfl, rfl, hC, l1, l2, l3⟩ := h
  exact ⟨o, gw, gs, rfl, rfl, rfl, hC, fun e => by have := hm _ e; omega, fun e => by have := hm _ e; omega, fun e => by have := hm _ e; omega⟩

/-- What newPair answers of these lengths, the second code's from hl on. -/
def NewPairR (f : Nat → Int) (n hl : Nat) (w : World) (e : Ending) (w' : World) : Prop :=
  Below w.heap.size w w' ∧ ((Hid (¬ (GoodL f hl ∧ GoodL (fun i => f (hl + i)) (n - hl))) ∧ e = .returned (.tuple #[.agg #[.pointer none, .int .i64 0, .int .i64 0, .pointer none, .int .i64 0, .int .i64 0], .int .i64 2])) ∨
    (Hid (GoodL f hl ∧ GoodL (fun i => f (hl + i)) (n - hl)) ∧ ∃ q m k q' m' k', e = .returned (.tuple #[.agg #[.pointer q, .int .i64 m, .int .i64 k, .pointer q', .int .i64 m', .int .i64 k'], .int .i64 0]) ∧
      AlphN w' w.heap.size q m k hl (fun i => (f i).toNat) ∧ AlphN w' w.heap.size q' m' k' (n - hl) (fun i => (f (hl + i)).toNat)))

theorem Ints.front {w : World} {b off n cap hl : Nat} {f : Nat → Int} (h : Ints w (some ⟨b, off, none⟩) n cap f) (hl' : hl ≤ n) : Ints w (some ⟨b, off, none⟩) hl cap f := by
  refine ⟨by have := h.lc; omega, by have := h.reach; omega, h.fit, fun h0 => ?_⟩
  obtain ⟨b', off', e, h1, h2⟩ := h.spot (by omega)
  exact ⟨b', off', e, h1, fun i hi => h2 i (by omega)⟩
theorem Ints.back {w : World} {b off n cap hl : Nat} {f : Nat → Int} (h : Ints w (some ⟨b, off, none⟩) n cap f) (hl' : hl ≤ n) : Ints w (some ⟨b, off + hl, none⟩) (n - hl) (cap - hl) (fun i => f (hl + i)) := by
  refine ⟨by have := h.lc; omega, by have := h.reach; omega, fun i => h.fit _, fun h0 => ?_⟩
  obtain ⟨b', off', e, h1, h2⟩ := h.spot (by omega)
  simp at e
  obtain ⟨rfl, rfl⟩ := e
  exact ⟨b, off + hl, rfl, h1, fun i hi => by have := h2 (hl + i) (by omega); rwa [← Nat.add_assoc] at this⟩

set_option maxRecDepth 100000 in
set_option maxHeartbeats 1600000 in
theorem newpair_any (a : Option Addr) (n cap : Nat) (f : Nat → Int) (hl : Nat) (w : World) (h : Ints w a n cap f) (hln : hl < n) (hn : n ≤ 320) :
    Calls Tryd.prog 62 #[.slice a n cap, .int .i64 (hl : Nat)] w (NewPairR f n hl w) := by
  obtain ⟨b, off, rfl, hblt, _⟩ := h.spot (by omega)
  have hlc := h.lc
  have bw : Below w.heap.size w (w.alloc (.cells #[.pointer none, .int .i64 0, .int .i64 0, .pointer none, .int .i64 0, .int .i64 0] 57)) := (Below.refl _ _).alloc (Nat.le_refl _) _
  have gb := blk_new w (.cells #[.pointer none, .int .i64 0, .int .i64 0, .pointer none, .int .i64 0, .int .i64 0] 57)
  have I1 := (h.below bw (Nat.le_refl _)).front (hl := hl) (by omega)
  go_enter Tryd.func62, Tryd.ntmps62
  go_wp2_with fail
  refine (newalph_any _ hl _ f _ I1).mono ?_
  rintro e w1 ⟨b1, ⟨hbad, rfl⟩ | ⟨hgood, q, m, k, rfl, hA⟩⟩
  · have g1 := Below.blk b1 gb (blk_lt gb)
    have bb : Below w.heap.size w w1 := bw.trans (b1.mono bw.size)
    go_wp2_with (first | (refine store_at (new := #[.pointer none, .int .i64 0, .int .i64 0, .pointer none, .int .i64 0, .int .i64 0]) g1 (by rfl) (by rfl) (by rfl) (by rfl) (by exact size53) (by rfl) (by simp [Value.oneCell']) (by rfl) ?_; intro W2 g2 k2 z2) | (refine store_at (new := #[.pointer none, .int .i64 0, .int .i64 0, .pointer none, .int .i64 0, .int .i64 0]) g2 (by rfl) (by rfl) (by rfl) (by rfl) (by exact size55) (by rfl) (by simp [Value.oneCell']) (by rfl) ?_; intro W3 g3 k3 z3))
    refine bodyPost_ret (res_cell2 rfl _ _ _ _ _ rfl (load55 g3 rfl) rfl) rfl ?_
    refine ⟨Below.kept bb (k2.trans k3) (Nat.le_refl _) (fun i hi => by omega), .inl ⟨fun hg => hbad.out hg.1, rfl⟩⟩
  · have g1 := Below.blk b1 gb (blk_lt gb)
    have bb : Below w.heap.size w w1 := bw.trans (b1.mono bw.size)
    go_wp2_with (refine store_at (new := #[.pointer q, .int .i64 m, .int .i64 k, .pointer none, .int .i64 0, .int .i64 0]) g1 (by rfl) (by rfl) (by rfl) (by rfl) (by exact size53) (by rfl) (by simp [Value.oneCell']) (by rfl) ?_; intro W2 g2 k2 z2)
    have b2 : Below w.heap.size w W2 := Below.kept bb k2 (Nat.le_refl _) (fun i hi => by omega)
    have A2 := hA.keep k2 (fun i hi => by simp at hi; omega)
    have I2 := (h.below b2 (Nat.le_refl _)).back (hl := hl) (by omega)
    refine (newalph_any _ (n - hl) _ (fun i => f (hl + i)) _ I2).mono ?_
    rintro e w3 ⟨b3, ⟨hbad, rfl⟩ | ⟨hgood2, q', m', k', rfl, hA2⟩⟩
    · have g3 := Below.blk b3 g2 (blk_lt g2)
      have bb3 : Below w.heap.size w w3 := b2.trans (b3.mono b2.size)
      clear g1 g2
      go_wp2_with (first | (refine store_at (new := #[.pointer q, .int .i64 m, .int .i64 k, .pointer none, .int .i64 0, .int .i64 0]) g3 (by rfl) (by rfl) (by rfl) (by rfl) (by exact size53) (by rfl) (by simp [Value.oneCell']) (by rfl) ?_; intro W4 g4 k4 z4) | (refine store_at (new := #[.pointer none, .int .i64 0, .int .i64 0, .pointer none, .int .i64 0, .int .i64 0]) g4 (by rfl) (by rfl) (by rfl) (by rfl) (by exact size55) (by rfl) (by simp [Value.oneCell']) (by rfl) ?_; intro W5 g5 k5 z5))
      refine bodyPost_ret (res_cell2 rfl _ _ _ _ _ rfl (load55 g5 rfl) rfl) rfl ?_
      refine ⟨Below.kept bb3 (k4.trans k5) (Nat.le_refl _) (fun i hi => by omega), .inl ⟨fun hg => hbad.out hg.2, rfl⟩⟩
    · have g3 := Below.blk b3 g2 (blk_lt g2)
      have bb3 : Below w.heap.size w w3 := b2.trans (b3.mono b2.size)
      have A3 := A2.below b3
      have hlt2 := blk_lt g2
      clear g1 g2
      go_wp2_with (first | (refine wpList_load_row (by rfl) 57 _ (by rfl) w.heap.size (by rfl) 57 _ (0, 0) _ (by exact g4) Tryd.underlying57 (by rfl) (by exact size55) ?_) | (refine store_at (new := #[.pointer q, .int .i64 m, .int .i64 k, .pointer q', .int .i64 m', .int .i64 k']) g3 (by rfl) (by rfl) (by rfl) (by rfl) (by exact size53) (by rfl) (by simp [Value.oneCell']) (by rfl) ?_; intro W4 g4 k4 z4) | (refine store_at (new := #[.pointer q, .int .i64 m, .int .i64 k, .pointer q', .int .i64 m', .int .i64 k']) g4 (by rfl) (by rfl) (by rfl) (by rfl) (by exact size55) (by rfl) (by simp [Value.oneCell']) (by rfl) ?_; intro W5 g5 k5 z5))
      refine bodyPost_ret (res_cell2 rfl _ _ _ _ _ rfl (load55 g5 rfl) rfl) rfl ?_
      refine ⟨Below.kept bb3 (k4.trans k5) (Nat.le_refl _) (fun i hi => by omega), .inr ⟨⟨hgood.out, hgood2.out⟩, q, m, k, q', m', k', rfl, ?_, ?_⟩⟩
      · exact (A3.keep (k4.trans k5) (fun i hi => by simp at hi; omega)).mono (by simp)
      · exact (hA2.keep (k4.trans k5) (fun i hi => by omega)).mono b2.size

theorem OwnV.ints {w : World} {base : Nat} {v : Value} {xs : List Int} (h : OwnV w base 3 .i64 v xs) (f : Nat → Int) (hf : ∀ i, i < xs.length → xs.getD i 0 = f i) (fit : ∀ i, -9223372036854775808 ≤ f i ∧ f i ≤ 9223372036854775807) (hl : xs.length ≤ 100000) : ∃ a cap, v = .slice a xs.length cap ∧ Ints w a xs.length cap f := by
  by_cases h0 : 0 < xs.length
  · obtain ⟨g, cap, rfl, ho⟩ := h.own h0
    refine ⟨_, cap, rfl, ho.lc.1, by omega, fit, fun _ => ⟨g, 0, rfl, ho.lt.2, fun i hi => ?_⟩⟩
    rw [Nat.zero_add, ho.cell hi, hf i hi]
  · obtain ⟨a, cap, rfl⟩ := h.form
    exact ⟨a, cap, rfl, by omega, by omega, fit, fun h => by omega⟩

def fixF (i : Nat) : Int := (fixL i : Nat)
theorem fixF_toNat : (fun i => (fixF i).toNat) = fixL := by funext i; simp [fixF]
theorem fixF_toNat2 : (fun i => (fixF (288 + i)).toNat) = fixD := by
  funext i; simp [fixF, fixL, fixD]
  split
  · omega
  · split
    · omega
    · split
      · omega
      · rw [if_neg (by omega)]
theorem fixRun_get : ∀ i, i < (fixRun 5).length → (fixRun 5).getD i 0 = fixF i := by
  have h1 : (fixRun 5).length = 320 := by decide +kernel
  have h2 : ∀ i : Fin 320, (fixRun 5).getD i.val 0 = fixF i.val := by decide +kernel
  intro i hi
  exact h2 ⟨i, by omega⟩
theorem fixF_fit (i : Nat) : -9223372036854775808 ≤ fixF i ∧ fixF i ≤ 9223372036854775807 := by
  have : fixL i ≤ 9 := by unfold fixL; split; omega; split; omega; split; omega; split <;> omega
  unfold fixF; omega
theorem fixL_le (i : Nat) : fixL i ≤ 9 := by unfold fixL; split; omega; split; omega; split; omega; split <;> omega
theorem fix_good : GoodL fixF 288 ∧ GoodL (fun i => fixF (288 + i)) (320 - 288) := by
  refine ⟨⟨by omega, fun i _ => ?_, ?_⟩, ⟨by omega, fun i _ => ?_, ?_⟩⟩
  · have := fixL_le i; unfold fixF; omega
  · rw [fixF_toNat]; decide +kernel
  · have := fixL_le (288 + i); show 0 ≤ fixF (288 + i) ∧ fixF (288 + i) ≤ 15; unfold fixF; omega
  · rw [fixF_toNat2]; decide +kernel
theorem fix_some : some' fixL 288 = 288 := by decide +kernel

theorem range_six {w : World} {s : Nat} {y0 y1 y2 x0 x1 x2 x3 x4 x5 : Value} {t : TypeId} (h : w.heap[s]? = some (.cells #[y0, y1, y2, x0, x1, x2, x3, x4, x5] t)) : w.rangeAt s 3 [x0, x1, x2, x3, x4, x5] := by
  intro j u hu
  rw [blk_cell h]
  rcases j with _ | _ | _ | _ | _ | _ | j <;> simp_all
/-- The stream's fixed codes are laid. -/
theorem Strm.fixed {w w' : World} {B s b g len : Nat} {z : Nat → Nat} {most : Nat} {v : Value} {x : Six} {p : Nat} {out : List Int} (h : Strm w B s b g len z most v x p out) (x' : Six) (hk : Kept (fun k => k = s) w w') (ho : w'.heap[s]? = some (.cells #[.pointer (some ⟨b, 0, none⟩), v, .int .i64 (most : Nat), x'.x0, x'.x1, x'.x2, x'.x3, x'.x4, x'.x5] 59)) (hf : Fx w' s b v x') : Strm w' B s b g len z most v x' p out :=
  ⟨ho, h.bits.kept hk h.sb.symm h.sg.symm, h.own.kept' hk (fun _ hi e => h.ns (e ▸ hi)), h.byte, h.fit, h.small, hf, h.ng, h.bs, h.bb, Nat.le_trans h.sz hk.size⟩
theorem res_cell1 {fn : Func} {p : Tmp} (h : fn.results = #[.cell p 57]) (tmps : Array Value) (w : World) (g : Nat) (t : TypeId) (cs : Array Value) (fr : Nat × Nat)
    (hp : tmps.getD p undef = .pointer (some ⟨g, 0, none⟩)) (hg : w.heap[g]? = some (.cells cs t fr)) (hs : cs.size = 6) : (results fn tmps).run Tryd.prog w = .ok (.agg cs) w :=
  results_cell_row h tmps w g t cs fr _ hp hg Tryd.underlying57 rfl (by rw [hs]; exact size55)

set_option maxRecDepth 100000 in
set_option maxHeartbeats 1600000 in
theorem fixedpair_any (B s b g len : Nat) (z : Nat → Nat) (most : Nat) (v : Value) (x : Six) (p : Nat) (out : List Int) (w : World) (h : Strm w B s b g len z most v x p out) :
    Calls Tryd.prog 46 #[.pointer (some ⟨s, 0, none⟩)] w fun e w' => ∃ x', e = .returned (.agg #[x'.x0, x'.x1, x'.x2, x'.x3, x'.x4, x'.x5]) ∧ Strm w' B s b g len z most v x' p out ∧ Alph w' s b v x'.x0 x'.x1 x'.x2 288 fixL ∧ Alph w' s b v x'.x3 x'.x4 x'.x5 32 fixD ∧ Moves s b v v w w' := by
  have bw : Below w.heap.size w (w.alloc (.cells #[.pointer none, .int .i64 0, .int .i64 0, .pointer none, .int .i64 0, .int .i64 0] 57)) := (Below.refl _ _).alloc (Nat.le_refl _) _
  have gb := blk_new w (.cells #[.pointer none, .int .i64 0, .int .i64 0, .pointer none, .int .i64 0, .int .i64 0] 57)
  have h' := h.below bw
  have mW : Moves s b v v w _ := Moves.of_below bw
  have nm : ¬ Mine s b v w.heap.size := fun e => by have := h.mine e; omega
  have hmine : ∀ k, Mine s b v k → k < w.heap.size := fun k e => (h.mine e).2
  have hslt := blk_lt h.obj
  obtain ⟨W, hW⟩ : ∃ W, Hid (W = w.alloc (.cells #[.pointer none, .int .i64 0, .int .i64 0, .pointer none, .int .i64 0, .int .i64 0] 57)) := ⟨_, rfl⟩
  rw [← hW.out] at h' mW gb bw
  rcases h.fx with hx | ⟨hA, hD⟩
  · subst hx
    have c4 : W.cell? ⟨s, 4, none⟩ = some (.int .i64 0) := blk_cell h'.obj 4
    rw [hW.out] at c4
    go_enter Tryd.func46, Tryd.ntmps46
    go_wp2_with fail
    rw [← hW.out]
    clear c4
    refine (fixedlen_any _).mono ?_
    rintro e w1 ⟨r, rfl, hO, b1⟩
    have hz0 : W.heap.size = w.heap.size + 1 := by rw [hW.out]; simp
    obtain ⟨a, cap, rfl, hI⟩ := hO.ints fixF fixRun_get fixF_fit (by decide +kernel)
    have h320 : (fixRun 5).length = 320 := by decide +kernel
    rw [h320] at hI ⊢
    go_wp2_with fail
    refine (newpair_any a 320 cap fixF 288 _ hI (by omega) (by omega)).mono ?_
    rintro e w2 ⟨b2, ⟨hbad, rfl⟩ | ⟨hgood, q, m, k, q', m', k', rfl, hA, hD⟩⟩
    · exact absurd fix_good hbad.out
    · rw [fixF_toNat] at hA
      rw [fixF_toNat2] at hD
      have bb : Below W.heap.size W w2 := b1.trans (b2.mono b1.size)
      have S2 := h'.below bb
      have M2 := mW.trans (Moves.of_below bb)
      have g2 := Below.blk bb gb (blk_lt gb)
      have o2 := S2.obj
      have hsz : w.heap.size ≠ s := by omega
      unfold six0 at o2
      go_wp2_with (first
        | (refine store_at (new := #[.pointer (some ⟨b, 0, none⟩), v, .int .i64 (most : Nat), .pointer q, .int .i64 m, .int .i64 k, .pointer q', .int .i64 m', .int .i64 k']) o2 (by rfl) (by rfl) (by rfl) (by rfl) (by exact size55) (by rfl) (by simp [Value.oneCell']) (by rfl) ?_; intro W3 o3 k3 z3)
        | (refine wpList_load_mid (by rfl) 57 _ (by rfl) s 3 (by rfl) _ _ (by exact range_six o3) Tryd.underlying57 (by rfl) (by exact size55) ?_)
        | (refine store_at (new := #[.pointer q, .int .i64 m, .int .i64 k, .pointer q', .int .i64 m', .int .i64 k']) (k3.blk g2 hsz) (by rfl) (by rfl) (by rfl) (by rfl) (by exact size55) (by rfl) (by simp [Value.oneCell']) (by rfl) ?_; intro W4 g4 k4 z4))
      refine bodyPost_ret (res_cell1 rfl _ _ _ _ _ _ rfl g4 rfl) rfl ?_
      have K5 : Kept (fun i => i = s ∨ i = w.heap.size) w2 W4 := (k3.mono (fun _ _ e => .inl e)).trans (k4.mono (fun _ _ e => .inr e))
      have hlow : ∀ i, w1.heap.size ≤ i → ¬ (i = s ∨ i = w.heap.size) := fun i hi => by have := b1.size; omega
      have A5 := (hA.keep K5 hlow).alph (s := s) (b := b) (v := v) (fun i e => by have := hmine i e; have := b1.size; omega)
      have D5 := (hD.keep K5 hlow).alph (s := s) (b := b) (v := v) (fun i e => by have := hmine i e; have := b1.size; omega)
      have M5 : Moves s b v v w W4 := ⟨⟨(k4.os.trans k3.os).trans M2.kept.os, (k4.tape.trans k3.tape).trans M2.kept.tape, (k4.output.trans k3.output).trans M2.kept.output, Nat.le_trans M2.kept.size K5.size, fun i hi ha => by
        rw [K5.block i (Nat.lt_of_lt_of_le hi M2.kept.size) (fun e => by rcases e with e | e; exact ha (.inl e); omega)]; exact M2.kept.block i hi ha⟩, .inl rfl⟩
      refine ⟨⟨.pointer q, .int .i64 m, .int .i64 k, .pointer q', .int .i64 m', .int .i64 k'⟩, rfl, ?_, A5, D5, M5⟩
      have S3 := S2.fixed ⟨.pointer q, .int .i64 m, .int .i64 k, .pointer q', .int .i64 m', .int .i64 k'⟩ k3 o3 (.inr ⟨(hA.keep k3 (fun i hi e => hlow i hi (.inl e))).alph (fun i e => by have := hmine i e; have := b1.size; omega), (hD.keep k3 (fun i hi e => hlow i hi (.inl e))).alph (fun i e => by have := hmine i e; have := b1.size; omega)⟩)
      have nsz : w.heap.size ≠ b := fun e => nm (.inr (.inl e))
      exact ⟨k4.blk S3.obj (fun e => hsz e.symm), S3.bits.kept k4 (fun e => nsz e.symm) (fun e => by have := blk_lt h.bits.row; omega), S3.own.kept' k4 (fun i hi e => nm (.inr (.inr (e ▸ hi)))), S3.byte, S3.fit, S3.small, .inr ⟨A5, D5⟩, S3.ng, S3.bs, S3.bb, Nat.le_trans S3.sz k4.size⟩
  · have hx1 : x.x1 = .int .i64 288 := by
      obtain ⟨_, _, _, _, e, _⟩ := hA
      rw [e, fix_some]; rfl
    have c4 : W.cell? ⟨s, 4, none⟩ = some (.int .i64 288) := by rw [← hx1]; exact blk_cell h'.obj 4
    rw [hW.out] at c4
    have o3 := h'.obj
    have A' := hA.moves mW
    have D' := hD.moves mW
    obtain ⟨ao, _, _, e0, e1, e2, _⟩ := A'
    obtain ⟨dO, _, _, e3, e4, e5, _⟩ := D'
    rw [e0, e1, e2, e3, e4, e5] at o3
    rw [hW.out] at o3 gb
    go_enter Tryd.func46, Tryd.ntmps46
    go_wp2_with (first
        | (refine wpList_load_mid (by rfl) 57 _ (by rfl) s 3 (by rfl) _ _ (by exact range_six o3) Tryd.underlying57 (by rfl) (by exact size55) ?_)
        | (refine store_at (new := #[.pointer (some ⟨ao, 0, none⟩), .int .i64 (some' fixL 288 : Nat), .int .i64 (lastsym fixL 288 : Nat), .pointer (some ⟨dO, 0, none⟩), .int .i64 (some' fixD 32 : Nat), .int .i64 (lastsym fixD 32 : Nat)]) gb (by rfl) (by rfl) (by rfl) (by rfl) (by exact size55) (by rfl) (by simp [Value.oneCell']) (by rfl) ?_; intro W4 g4 k4 z4))
    refine bodyPost_ret (res_cell1 rfl _ _ _ _ _ _ rfl g4 rfl) rfl ?_
    rw [← hW.out] at k4
    have b4 : Below w.heap.size w W4 := Below.kept bw k4 (Nat.le_refl _) (fun i e => by omega)
    exact ⟨x, by rw [e0, e1, e2, e3, e4, e5], h.below b4, hA.moves (Moves.of_below b4), hD.moves (Moves.of_below b4), Moves.of_below b4⟩
end Go.Proofs.YtahibacjaoohiaaDoor
