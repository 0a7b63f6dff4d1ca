/-
  The rows of FlateOwn: lengths, the symbols in use, their lengths.
-/
import Derived.Test.YtkhfdjgnomkfgaaDoorOwnQ
import Derived.Test.YtkhfdjgnomkfgaaDoorStr
import Derived.Test.YtkhfdjgnomkfgaaDoorStW
import Derived.Test.YtkhfdjgnomkfgaaDoorKnW
import Derived.Test.YtkhfdjgnomkfgaaDoorRep
import Derived.Test.YtkhfdjgnomkfgaaDoorRNew
namespace Go.Proofs.YtkhfdjgnomkfgaaDoor
open Go.RowKit

theorem pick_any' (n : Int) (m : Nat) (hm : 0 < m) (hm2 : m ≤ 1000000) {v : Int} (hv : v = (m : Nat)) (w : World) :
    Calls Tryd.prog 13 #[.int .i64 n, .int .i64 v] w fun e w' => e = .returned (.int .i64 (pickv n m : Nat)) ∧ w' = w := by
  subst hv; exact pick_any n m hm hm2 w
theorem Own.intsO {w : World} {base g cap : Nat} {xs : List Int} (h : Own w base 3 .i64 g cap xs) (hl : xs.length ≤ 1000) (hx : ∀ x ∈ xs, 0 ≤ x ∧ x ≤ 15) : Ints w (some ⟨g, 0, none⟩) xs.length cap (fun i => xs.getD i 0) := by
  refine ⟨h.lc.1, by omega, fun i => ?_, fun _ => ⟨g, 0, rfl, h.lt.2, fun i hi => by rw [Nat.zero_add]; exact h.cell hi⟩⟩
  rw [List.getD_eq_getElem?_getD]
  cases e : xs[i]? with
  | none => simp
  | some y => simp; have := hx y (List.mem_of_getElem? e); omega
/-- Three rows of ints that the call owns. -/
structure Ows (w0 w : World) (gz cz gu cu gl cl : Nat) (zs us ls : List Int) : Prop where
  z : Own w w0.heap.size 3 .i64 gz cz zs
  u : Own w w0.heap.size 3 .i64 gu cu us
  l : Own w w0.heap.size 3 .i64 gl cl ls
  zu : gz ≠ gu
  zl : gz ≠ gl
  ul : gu ≠ gl
  below : Below w0.heap.size w0 w
theorem Ows.to {w0 w w' : World} {gz cz gu cu gl cl : Nat} {zs us ls : List Int} (h : Ows w0 w gz cz gu cu gl cl zs us ls) (hb : Below w.heap.size w w') : Ows w0 w' gz cz gu cu gl cl zs us ls :=
  ⟨h.z.below hb, h.u.below hb, h.l.below hb, h.zu, h.zl, h.ul, h.below.trans (hb.mono h.below.size)⟩
theorem Ows.setl {w0 w : World} {gz cz gu cu gl cl : Nat} {zs us ls : List Int} (h : Ows w0 w gz cz gu cu gl cl zs us ls) (k : Nat) (v : Int) : Ows w0 (w.setCell ⟨gl, k, none⟩ (.int .i64 v)) gz cz gu cu gl cl zs us (ls.set k v) :=
  ⟨h.z.blk (blk_other _ h.zl), h.u.blk (blk_other _ h.ul), h.l.set k v, h.zu, h.zl, h.ul, h.below.setCell h.l.lt.1 _⟩
theorem Ows.setz {w0 w : World} {gz cz gu cu gl cl : Nat} {zs us ls : List Int} (h : Ows w0 w gz cz gu cu gl cl zs us ls) (k : Nat) (v : Int) : Ows w0 (w.setCell ⟨gz, k, none⟩ (.int .i64 v)) gz cz gu cu gl cl (zs.set k v) us ls :=
  ⟨h.z.set k v, h.u.blk (blk_other _ h.zu.symm), h.l.blk (blk_other _ h.zl.symm), h.zu, h.zl, h.ul, h.below.setCell h.z.lt.1 _⟩
theorem Ows.addu {w0 w : World} {gz cz gu cu gl cl : Nat} {zs us ls : List Int} (h : Ows w0 w gz cz gu cu gl cl zs us ls) (x : Int) (hl : us.length ≤ 10000) :
    ∃ g' cap' w', (Builtin.append_ #[29, 29] 29 #[.slice (some ⟨gu, 0, none⟩) us.length cu, .slice (some ⟨w.heap.size, 0, none⟩) 1 1]).run Tryd.prog (w.alloc (.cells #[.int .i64 x] 3)) = .ok (.slice (some ⟨g', 0, none⟩) (us.length + 1) cap') w' ∧ Ows w0 w' gz cz g' cap' gl cl zs (us ++ [x]) ls := by
  have h2 := h.to ((Below.refl _ w).alloc (Nat.le_refl _) (.cells #[.int .i64 x] 3))
  obtain ⟨g', cap', w', h1, ho, hg, hat⟩ := (own_v h2.u rfl).oneI h2.below.size (blk_new w _) (by omega)
  have e1 := h.z.lt.2
  have e2 := h.l.lt.2
  have hg' : g' = gu ∨ g' = w.heap.size + 1 := by
    rcases hat with h | h
    · left; simpa [Value.ownBlock, eq_comm] using h
    · right; simpa using h
  have n1 := h.zu
  have n2 := h.ul
  have hg2 : (w.alloc (.cells #[.int .i64 x] 3)).grownBy w' (some gu) := hg
  refine ⟨g', cap', w', h1, h2.z.far hg2 (fun e => n1 (Option.some.inj e)), ho, h2.l.far hg2 (fun e => n2 (Option.some.inj e).symm), by omega, h.zl, by omega, h2.below.grown hg2 h2.below.size (fun k hk => ?_)⟩
  obtain rfl : gu = k := by simpa using hk
  exact h.u.lt.1
theorem Ows.addl {w0 w : World} {gz cz gu cu gl cl : Nat} {zs us ls : List Int} (h : Ows w0 w gz cz gu cu gl cl zs us ls) (x : Int) (hl : ls.length ≤ 10000) :
    ∃ g' cap' w', (Builtin.append_ #[29, 29] 29 #[.slice (some ⟨gl, 0, none⟩) ls.length cl, .slice (some ⟨w.heap.size, 0, none⟩) 1 1]).run Tryd.prog (w.alloc (.cells #[.int .i64 x] 3)) = .ok (.slice (some ⟨g', 0, none⟩) (ls.length + 1) cap') w' ∧ Ows w0 w' gz cz gu cu g' cap' zs us (ls ++ [x]) := by
  have h2 := h.to ((Below.refl _ w).alloc (Nat.le_refl _) (.cells #[.int .i64 x] 3))
  obtain ⟨g', cap', w', h1, ho, hg, hat⟩ := (own_v h2.l rfl).oneI h2.below.size (blk_new w _) (by omega)
  have e1 := h.z.lt.2
  have e2 := h.u.lt.2
  have hg' : g' = gl ∨ g' = w.heap.size + 1 := by
    rcases hat with h | h
    · left; simpa [Value.ownBlock, eq_comm] using h
    · right; simpa using h
  have n1 := h.zl
  have n2 := h.ul
  have hg2 : (w.alloc (.cells #[.int .i64 x] 3)).grownBy w' (some gl) := hg
  refine ⟨g', cap', w', h1, h2.z.far hg2 (fun e => n1 (Option.some.inj e)), h2.u.far hg2 (fun e => n2 (Option.some.inj e)), ho, h.zu, by omega, by omega, h2.below.grown hg2 h2.below.size (fun k hk => ?_)⟩
  obtain rfl : gl = k := by simpa using hk
  exact h.l.lt.1
/-- A new row in the lengths' stead. -/
theorem Ows.newl {w0 w : World} {gz cz gu cu gl cl : Nat} {zs us ls : List Int} (h : Ows w0 w gz cz gu cu gl cl zs us ls) (ls' : List Int) (hl : ls'.length ≤ 100000) : Ows w0 (w.alloc (.cells (ls'.map fun x => Value.int .i64 x).toArray 3)) gz cz gu cu w.heap.size ls'.length zs us ls' := by
  have h2 := h.to ((Below.refl _ w).alloc (Nat.le_refl _) (.cells (ls'.map fun x => Value.int .i64 x).toArray 3))
  have e1 := h.z.lt.2
  have e2 := h.u.lt.2
  exact ⟨h2.z, h2.u, own_lit w _ 3 .i64 ls' h.below.size hl, h.zu, by omega, by omega, h2.below⟩
theorem arr_rep (n : Nat) : arr n (fun _ => Value.int .i64 0) = ((List.replicate n (0 : Int)).map fun x => Value.int .i64 x).toArray := by
  unfold arr
  congr 1
  rw [List.map_replicate]
  induction n with
  | zero => rfl
  | succ n ih => rw [List.range_succ, List.map_append, ih, List.replicate_succ']; rfl
theorem ows_new (w : World) : Ows w (((w.alloc (.cells (arr 257 fun _ => .int .i64 0) 3)).alloc (.cells #[.int .i64 256] 3)).alloc (.cells #[.int .i64 0] 3)) w.heap.size 257 (w.heap.size + 1) 1 (w.heap.size + 2) 1 (scat [256] [0] 0) [256] [0] := by
  have e := arr_rep 257
  have o1 : Own (w.alloc (.cells (arr 257 fun _ => .int .i64 0) 3)) w.heap.size 3 .i64 w.heap.size 257 (List.replicate 257 0) := by
    rw [e]
    have := own_lit w w.heap.size 3 .i64 (List.replicate 257 0) (Nat.le_refl _) (by rw [List.length_replicate]; omega)
    rwa [List.length_replicate] at this
  have o2 := own_lit (w.alloc (.cells (arr 257 fun _ => .int .i64 0) 3)) w.heap.size 3 .i64 [256] (by simp) (by simp)
  have o3 := own_lit ((w.alloc (.cells (arr 257 fun _ => .int .i64 0) 3)).alloc (.cells #[.int .i64 256] 3)) w.heap.size 3 .i64 [0] (by simp; omega) (by simp)
  have b1 : Below w.heap.size w (w.alloc (.cells (arr 257 fun _ => .int .i64 0) 3)) := (Below.refl _ w).alloc (Nat.le_refl _) _
  have b2 := b1.alloc b1.size (.cells #[.int .i64 256] 3)
  have b3 := b2.alloc b2.size (.cells #[.int .i64 0] 3)
  rw [World.size_alloc] at o2
  rw [World.size_alloc, World.size_alloc] at o3
  exact ⟨(o1.alloc _).alloc _, o2.alloc _, o3, by omega, by omega, by omega, b3⟩
theorem uses_one : Uses [256] := ⟨fun j hj => by obtain rfl : j = 0 := by simpa using hj
                                                 decide, fun j k h hk => by simp at hk; omega⟩
theorem getD_last (us : List Int) (s : Int) : (us ++ [s]).getD us.length 0 = s := by
  rw [List.getD_eq_getElem?_getD, List.getElem?_append_right (Nat.le_refl _)]; simp
theorem getD_front {us : List Int} (s : Int) {j : Nat} (h : j < us.length) : (us ++ [s]).getD j 0 = us.getD j 0 := by
  rw [List.getD_eq_getElem?_getD, List.getD_eq_getElem?_getD, List.getElem?_append_left h]
theorem Uses.more {us : List Int} (h : Uses us) {s : Int} (hs : 0 ≤ s ∧ s ≤ 256) (hn : ∀ j, j < us.length → us.getD j 0 ≠ s) : Uses (us ++ [s]) := by
  refine ⟨fun j hj => ?_, fun j k hjk hk => ?_⟩
  · rw [List.length_append] at hj
    by_cases e : j < us.length
    · rw [getD_front s e]; exact h.bd j e
    · obtain rfl : j = us.length := by simp at hj; omega
      rw [getD_last]; exact hs
  · rw [List.length_append] at hk
    by_cases e : k < us.length
    · rw [getD_front s e, getD_front s (by omega)]; exact h.ne j k hjk e
    · obtain rfl : k = us.length := by simp at hk; omega
      rw [getD_last, getD_front s hjk]; exact hn j hjk
end Go.Proofs.YtkhfdjgnomkfgaaDoor
