
/-
  FlateStored, walked.
-/
import Derived.Test.YtahibacjaoohiaaDoorKn
import Derived.Test.YtahibacjaoohiaaDoorPick
namespace Go.Proofs.YtahibacjaoohiaaDoor
open Go.RowKit

theorem Own.srcB {w : World} {a : Option Addr} {n c : Nat} {z : Nat → Nat} (h : Lies w a n c z) : SrcI w .u8 a n (byt z 0 n) :=
  ⟨byt_len _ _ _, fun h0 => by
    obtain ⟨b, o, e, _, hc⟩ := h.spot h0
    exact ⟨b, o, e, fun j hj => by rw [hc j hj]; simp [byt, hj]⟩⟩
theorem byt_zb {S : List Int} (h : Byt S) : byt (zb S) 0 S.length = S := by
  unfold byt
  refine List.ext_getElem? fun i => ?_
  by_cases hi : i < S.length
  · have := h i
    rw [List.getD_eq_getElem?_getD, List.getElem?_eq_getElem hi] at this
    simp [hi, zb]
    simp at this
    omega
  · rw [List.getElem?_eq_none (by simp; omega), List.getElem?_eq_none (by omega)]
theorem zb_byt {z : Nat → Nat} {n i : Nat} (hi : i < n) : zb (byt z 0 n) i = z i := by
  unfold zb byt
  simp [hi]
theorem byt_rep (M : Nat) : Byt (List.replicate M (0 : Int)) := fun i => by
  rw [List.getD_eq_getElem?_getD]
  by_cases h : i < M
  · simp [h]
  · rw [List.getElem?_eq_none (by simp; omega)]; simp
theorem own_full (w : World) (base M : Nat) (hb : base ≤ w.heap.size) (hM : M ≤ 100000) : Own (w.alloc (.cells (arr M fun _ => .int .u8 0) 5)) base 5 .u8 w.heap.size M (List.replicate M 0) := by
  have := World.ownsRow_lit (base := base) (e := 5) (size := 1) w (arr M fun _ => .int .u8 0) M hb (by unfold maxLen; omega) (by rw [arr_size, Nat.mul_one])
  unfold Own
  rw [List.length_replicate, List.map_replicate]
  have e : (arr M fun _ => Value.int .u8 0).toList = List.replicate M (.int .u8 0) := by
    unfold arr
    refine List.ext_getElem? fun i => ?_
    by_cases hi : i < M
    · simp [hi]
    · simp [hi]
  rw [e] at this
  exact this
/-- append(make([]byte, M), b...). -/
theorem app0 (w : World) {a : Option Addr} {l c : Nat} {z : Nat → Nat} (hL : Lies w a l c z) (M : Nat) (hM : M ≤ 65550) (hl : l ≤ 140737488351232) :
    ∃ g' cap' w', (Builtin.append_ #[23, 23] 23 #[.slice (some ⟨w.heap.size, 0, none⟩) M M, .slice a l c]).run Tryd.prog (w.alloc (.cells (arr M fun _ => .int .u8 0) 5)) = .ok (.slice (some ⟨g', 0, none⟩) (M + l) cap') w' ∧ (Own w' w.heap.size 5 .u8 g' cap' (List.replicate M (0 : Int) ++ byt z 0 l) ∧ Below w.heap.size w w') := by
  have be : Below w.heap.size w (w.alloc (.cells (arr M fun _ => .int .u8 0) 5)) := (Below.refl _ _).alloc (Nat.le_refl _) _
  obtain ⟨g', cap', w', h1, h2, h3⟩ := (own_full w w.heap.size M (Nat.le_refl _) (by omega)).appendB be.size (c := c) (Own.srcB (hL.below be (Nat.le_refl _))) (by rw [byt_len]; simp; omega)
  rw [List.length_append, byt_len, List.length_replicate] at h1
  exact ⟨g', cap', w', h1, h2, be.grown h3 be.size (fun k hk => by simp at hk; omega)⟩
/-- append([]byte{}, z...). -/
theorem app1 {w3 : World} {base : Nat} (hb : base ≤ w3.heap.size) (S : List Int) {g c N : Nat} (hL : Lies w3 (some ⟨g, 0, none⟩) N c (zb S)) (hS : Byt S) (hN : S.length = N) (hs : N ≤ 149000000000000) :
    ∃ g' cap' w', (Builtin.append_ #[23, 23] 23 #[.slice (some ⟨w3.heap.size, 0, none⟩) 0 0, .slice (some ⟨g, 0, none⟩) N c]).run Tryd.prog (w3.alloc (.cells #[] 5)) = .ok (.slice (some ⟨g', 0, none⟩) N cap') w' ∧ (Own w' base 5 .u8 g' cap' S ∧ Below w3.heap.size w3 w' ∧ w3.heap.size ≤ g') := by
  subst hN
  have EB := blk_new w3 (.cells #[] 5)
  have be : Below w3.heap.size w3 (w3.alloc (.cells #[] 5)) := (Below.refl _ _).alloc (Nat.le_refl _) _
  have OE : Own (w3.alloc (.cells #[] 5)) w3.heap.size 5 .u8 w3.heap.size 0 [] := ⟨rfl, .inr ⟨w3.heap.size, 0, #[], rfl, Nat.le_refl _, EB, Nat.le_refl _, by unfold maxLen; omega, rfl, rfl⟩⟩
  obtain ⟨g', cap', w', h1, h2, h3⟩ := OE.appendB (by simp) (c := c) (Own.srcB (hL.below be (Nat.le_refl _))) (by rw [byt_len]; simp; omega)
  rw [byt_zb hS] at h1 h2
  exact ⟨g', cap', w', h1, h2.mono hb, be.grown h3 be.size (fun k hk => by simp at hk; omega), h2.lt.1⟩
/-- append(.., behind...). -/
theorem app2 {w w3 : World} (hB : Below w.heap.size w w3) {a2 : Option Addr} {l2 c2 : Nat} {z2 : Nat → Nat} (h2 : Lies w a2 l2 c2 z2) (S : List Int) {N : Nat} (hN : S.length = N) (hs : N ≤ 4000000) (hl2 : l2 ≤ 140737488351232) (g1 c1 : Nat) (w1 : World)
    (hR : Own w1 w.heap.size 5 .u8 g1 c1 S ∧ Below w3.heap.size w3 w1 ∧ w3.heap.size ≤ g1) :
    Hid (∃ g' cap' w', (Builtin.append_ #[23, 23] 23 #[.slice (some ⟨g1, 0, none⟩) N c1, .slice a2 l2 c2]).run Tryd.prog w1 = .ok (.slice (some ⟨g', 0, none⟩) (N + l2) cap') w' ∧ (Own w' w.heap.size 5 .u8 g' cap' (S ++ byt z2 0 l2) ∧ Below w3.heap.size w3 w')) := by
  subst hN
  obtain ⟨hO, b1, hg⟩ := hR
  have B1 : Below w.heap.size w w1 := hB.trans (b1.mono hB.size)
  obtain ⟨g', cap', w', h1, h3, h4⟩ := hO.appendB B1.size (c := c2) (Own.srcB (h2.below B1 (Nat.le_refl _))) (by rw [byt_len]; omega)
  rw [List.length_append, byt_len] at h1
  exact ⟨g', cap', w', h1, h3, b1.grown h4 b1.size (fun k hk => by simp at hk; omega)⟩

end Go.Proofs.YtahibacjaoohiaaDoor
