/-
  versalhand.Few, at most so many; what both Opens answer, told by one function; a row cut.
-/
import Derived.Test.YtahibacjaoohiaaDoorZC
import Derived.Test.YtahibacjaoohiaaDoorZbW
namespace Go.Proofs.YtahibacjaoohiaaDoor
open Go.RowKit

theorem Own.take {w : World} {base g c k : Nat} {xs : List Int} (h : Own w base 5 .u8 g c xs) (hk : k ≤ xs.length) : Own w base 5 .u8 g c (xs.take k) := by
  refine ⟨by simp, .inr ?_⟩
  rcases h.2 with ⟨h', _⟩ | ⟨g', cap', cur, h', h1, h2, h3, h4, h5, h6⟩
  · simp at h'
  · simp only [Value.slice.injEq, Option.some.injEq, Addr.mk.injEq, and_true, true_and] at h'
    obtain ⟨rfl, rfl⟩ := h'
    refine ⟨g, c, cur, rfl, h1, h2, by simp; omega, h4, h5, ?_⟩
    rw [Nat.mul_one] at h6 ⊢
    rw [List.length_take, Nat.min_eq_left hk, List.map_take, ← h6, List.take_take, Nat.min_eq_left hk]
theorem byt_take {xs : List Int} (h : Byt xs) (k : Nat) : Byt (xs.take k) := fun i => by
  rw [List.getD_eq_getElem?_getD, List.getElem?_take]
  split
  · rw [← List.getD_eq_getElem?_getD]; exact h i
  · simp
theorem few_src {w : World} {a : Option Addr} {len cap k : Nat} {z : Nat → Nat} (h : Lies w a len cap z) (hk : k ≤ len) (hl : k ≤ 150000000000000) :
    ∃ g' cap' w', (Builtin.append_ #[23, 23] 23 #[.slice (some ⟨w.heap.size, 0, none⟩) 0 0, .slice a k cap]).run Tryd.prog (w.alloc (.cells #[] 5)) = .ok (.slice (some ⟨g', 0, none⟩) k cap') w' ∧ (Own w' w.heap.size 5 .u8 g' cap' (byt z 0 k) ∧ Below w.heap.size w w') := by
  have be : Below w.heap.size w (w.alloc (.cells #[] 5)) := (Below.refl _ _).alloc (Nat.le_refl _) _
  have hb := h.below be (Nat.le_refl _)
  have hk' : Lies (w.alloc (.cells #[] 5)) a k cap z := ⟨by have := hb.lc; omega, by have := hb.reach; omega, hb.byte, fun h0 => by
    obtain ⟨b, o, e, h1, h2⟩ := hb.spot (by omega)
    exact ⟨b, o, e, h1, fun i hi => h2 i (by omega)⟩⟩
  have EB := blk_new w (.cells #[] 5)
  have OE : Own (w.alloc (.cells #[] 5)) w.heap.size 5 .u8 w.heap.size 0 [] := ⟨rfl, .inr ⟨w.heap.size, 0, #[], rfl, Nat.le_refl _, EB, Nat.le_refl _, by unfold maxLen; omega, rfl, rfl⟩⟩
  obtain ⟨g', c', w', h1, h2, h3, h4⟩ := app_on (N := 0) (cm := cap) be OE (Own.srcB hk') rfl (by simp; omega)
  rw [Nat.zero_add] at h1
  exact ⟨g', c', w', h1, h2, h3⟩
set_option maxRecDepth 100000 in
set_option maxHeartbeats 800000 in
theorem few_up (a : Option Addr) (len cap m k : Nat) (z : Nat → Nat) (w : World) (h : Lies w a len cap z) (hl : len ≤ 150000000000000) (hm : m ≤ 150000000000000) (hk : k = min len m) :
    Calls Tryd.prog 8 #[.slice a len cap, .int .i64 (m : Nat)] w fun e w' => ∃ g c, e = .returned (.slice (some ⟨g, 0, none⟩) k c) ∧ Own w' w.heap.size 5 .u8 g c (byt z 0 k) ∧ Below w.heap.size w w' := by
  have hlc := h.lc
  have hkl : k ≤ len := by omega
  have HA : Hid (_) := few_src h hkl (by omega)
  by_cases hml : m < len
  · obtain rfl : k = m := by omega
    have hml' : (k : Int) < len := by omega
    have hkc : (k : Int) ≤ cap := by omega
    obtain ⟨b, o, rfl, _⟩ := h.spot (by omega)
    clear hk h
    go_enter Tryd.func8, Tryd.ntmps8
    go_wp2_with (at_builtin; refine wpList_append_ex rfl (.tmp 5) (.tmp 11) 23 rfl rfl rfl HA.out ?_; rintro g1 c1 w1 hR1; have HR : Hid (_) := hR1; clear hR1)
    go_ret
    exact ⟨g1, c1, rfl, HR.out.1, HR.out.2⟩
  · obtain rfl : k = len := by omega
    have hml' : ¬ (m : Int) < k := by omega
    clear hk
    rcases a with _ | ad
    · have hl0 : k = 0 := by
        rcases Nat.eq_zero_or_pos k with h0 | h0
        · exact h0
        · obtain ⟨b, o, e, _⟩ := h.spot h0; cases e
      subst hl0
      clear h
      go_enter Tryd.func8, Tryd.ntmps8
      go_wp2_with (at_builtin; refine wpList_append_ex rfl (.tmp 5) (.tmp 11) 23 rfl rfl rfl HA.out ?_; rintro g1 c1 w1 hR1; have HR : Hid (_) := hR1; clear hR1)
      go_ret
      exact ⟨g1, c1, rfl, HR.out.1, HR.out.2⟩
    · clear h
      go_enter Tryd.func8, Tryd.ntmps8
      go_wp2_with (at_builtin; refine wpList_append_ex rfl (.tmp 5) (.tmp 11) 23 rfl rfl rfl HA.out ?_; rintro g1 c1 w1 hR1; have HR : Hid (_) := hR1; clear hR1)
      go_ret
      exact ⟨g1, c1, rfl, HR.out.1, HR.out.2⟩
def outZ (E : Except Nat (List Int)) : List Int := match E with | .ok o => o | .error _ => []
def errZ (E : Except Nat (List Int)) : Nat := match E with | .ok _ => 0 | .error k => k
/-- What an Open tells, by one function. -/
theorem TellsZ.told {most : Nat} {E : Except Nat (List Int)} {w w' : World} {e : Ending} (h : TellsZ most E w e w') (hm : most ≤ 150000000000000) : Below w.heap.size w w' ∧ ∃ a c, e = .returned (.tuple #[.slice a (outZ E).length c, .int .i64 (errZ E : Nat)]) ∧ Lies w' a (outZ E).length c (zb (outZ E)) := by
  refine ⟨h.1, ?_⟩
  rcases h.2 with ⟨k', h1, _, rfl⟩ | ⟨o', r, h1, rfl, hO, hb, hf⟩
  · rw [h1.out]
    exact ⟨none, 0, rfl, Lies.none _ _ (fun i => by unfold zb outZ; simp)⟩
  · obtain ⟨a, c, rfl, hL⟩ := hO.liesB hb.out (by omega)
    rw [h1.out]
    exact ⟨a, c, rfl, hL⟩
end Go.Proofs.YtahibacjaoohiaaDoor
