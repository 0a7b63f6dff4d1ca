
/-
  FlateKnown, walked.
-/
import Derived.Test.YtahibacjaoohiaaDoorStW
namespace Go.Proofs.YtahibacjaoohiaaDoor
open Go.RowKit

def cps : List Nat := [75, 76, 132, 1, 0]
theorem first_fixed {z : Nat → Nat} {len most : Nat} {E : Except Nat St} (h3 : 3 ≤ 8 * len) (hk : takev z 1 2 = 1) (hb : bit z 0 = 1) (hc : codedE fixL 288 fixD 32 z (8 * len) most (3, []) = E) : inflE z len most = E := by
  unfold inflE
  cases E with
  | error e =>
    refine blocksE_err ?_
    unfold blockE
    simp only [Nat.zero_add]
    rw [if_pos h3, hk]
    unfold kindE
    rw [if_neg (by decide), if_pos rfl, hc]
  | ok st =>
    refine blocksE_last ?_
    unfold blockE
    simp only [Nat.zero_add]
    rw [if_pos h3, hk, hb]
    unfold kindE
    rw [if_neg (by decide), if_pos rfl, hc]
    rfl
theorem ka : inflE (zl cps) 5 100 = .ok (38, [97, 97, 97, 97, 97, 97, 97, 97, 97, 97]) := by
  refine first_fixed (by decide) (by kernel_rfl) (by kernel_rfl) ?_
  rw [codedE_more (show codedS fixL 288 fixD 32 (zl cps) (8 * 5) 100 (3, []) = .inl (11, [97]) by kernel_rfl),
    codedE_more (show codedS fixL 288 fixD 32 (zl cps) (8 * 5) 100 (11, [97]) = .inl (19, [97, 97]) by kernel_rfl),
    codedE_more (show codedS fixL 288 fixD 32 (zl cps) (8 * 5) 100 (19, [97, 97]) = .inl (31, [97, 97, 97, 97, 97, 97, 97, 97, 97, 97]) by kernel_rfl)]
  exact codedE_done (by kernel_rfl)
theorem kb : inflE (zl cps) 5 9 = .error 4 := by
  refine first_fixed (by decide) (by kernel_rfl) (by kernel_rfl) ?_
  rw [codedE_more (show codedS fixL 288 fixD 32 (zl cps) (8 * 5) 9 (3, []) = .inl (11, [97]) by kernel_rfl),
    codedE_more (show codedS fixL 288 fixD 32 (zl cps) (8 * 5) 9 (11, [97]) = .inl (19, [97, 97]) by kernel_rfl)]
  exact codedE_done (by kernel_rfl)
theorem kc : inflE (zl cps) 2 100 = .error 3 := by
  refine first_fixed (by decide) (by kernel_rfl) (by kernel_rfl) ?_
  rw [codedE_more (show codedS fixL 288 fixD 32 (zl cps) (8 * 2) 100 (3, []) = .inl (11, [97]) by kernel_rfl)]
  exact codedE_done (by kernel_rfl)
theorem kd : inflE (zl []) 0 100 = .error 3 := blocksE_err (by unfold blockE; rw [if_neg (by decide)])
theorem ke : inflE (zl [7]) 1 100 = .error 2 := by
  refine blocksE_err ?_
  unfold blockE
  rw [if_pos (by decide), show takev (zl [7]) ((0, ([] : List Int)).1 + 1) 2 = 3 by kernel_rfl]
  rfl
theorem kf : inflE (zl [1, 1, 0, 0, 0]) 5 100 = .error 2 := by
  refine blocksE_err ?_
  unfold blockE
  rw [if_pos (by decide), show takev (zl [1, 1, 0, 0, 0]) ((0, ([] : List Int)).1 + 1) 2 = 0 by kernel_rfl]
  unfold kindE
  rw [if_pos rfl]
  unfold storedE
  rw [if_pos (by decide), if_neg (by decide +kernel)]
theorem kh : inflE (zl [3, 2, 0]) 3 100 = .error 2 := by
  refine first_fixed (by decide) (by kernel_rfl) (by kernel_rfl) ?_
  exact codedE_done (by kernel_rfl)
theorem kg : inflE (zb (stL (zl [97]) 1 0)) 6 0 = .error 4 := by
  have hz : ∀ i, zl [97] i < 256 := fun i => by unfold zl; rcases i with _ | i <;> simp
  have hb : Byt (stL (zl [97]) 1 0) := stL_byt hz 1 1 0 (by omega)
  have hl : (stL (zl [97]) 1 0).length = 6 := by rw [stL_last _ (by omega), blkL_len]
  have := stL_full (y := zb (stL (zl [97]) 1 0)) (z := zl [97]) hb.zb_lt 1 6 0 1 0 0 [] (by omega) hb.at0 (by omega) (by simp) (by simp)
  simpa [inflE] using this
theorem ks : bstr (zb [97, 97, 97, 97, 97, 97, 97, 97, 97, 97]) 10 = ⟨#[97, 97, 97, 97, 97, 97, 97, 97, 97, 97]⟩ := by rfl
/-- What Inflate answers where it is known why not. -/
theorem TellsI.no {most k : Nat} {E : Except Nat St} {w w' : World} {e : Ending} (h : TellsI most E w e w') (hE : E = .error k) : Below w.heap.size w w' ∧ e = .returned (.tuple #[.slice none 0 0, .int .i64 0, .int .i64 (k : Nat)]) := by
  refine ⟨h.1, ?_⟩
  rcases h.2 with ⟨k', h1, _, rfl⟩ | ⟨q, o, r, h1, _⟩
  · rw [err_eq h1.out hE]
  · exact (ok_ne h1.out hE).elim
theorem TellsI.yes {most q : Nat} {o : List Int} {E : Except Nat St} {w w' : World} {e : Ending} (h : TellsI most E w e w') (hE : E = .ok (q, o)) (hl : o.length ≤ 150000000000000) : Below w.heap.size w w' ∧ ∃ a c, e = .returned (.tuple #[.slice a o.length c, .int .i64 ((q + 7) / 8 : Nat), .int .i64 0]) ∧ Lies w' a o.length c (zb o) := by
  refine ⟨h.1, ?_⟩
  rcases h.2 with ⟨k', h1, _⟩ | ⟨q', o', r, h1, rfl, hO, hb, _⟩
  · exact (ok_ne hE h1.out).elim
  · obtain ⟨rfl, rfl⟩ := ok_eq hE h1.out
    obtain ⟨a, c, rfl, hL⟩ := hO.liesB hb.out hl
    exact ⟨a, c, rfl, hL⟩
theorem lies_nil (w : World) : Lies w none 0 0 (zl []) := ⟨by omega, by omega, fun i => by simp [zl], fun h => by omega⟩
def zero0 (_ : Nat) : Nat := 0
theorem lies_zero {w : World} {g n : Nat} (hn : n ≤ 1000000) (h : w.heap[g]? = some (.cells (arr n fun _ => .int .u8 0) 5)) : Lies w (some ⟨g, 0, none⟩) n n zero0 := lies_new (by omega) (fun _ => by unfold zero0; omega) h

end Go.Proofs.YtahibacjaoohiaaDoor
