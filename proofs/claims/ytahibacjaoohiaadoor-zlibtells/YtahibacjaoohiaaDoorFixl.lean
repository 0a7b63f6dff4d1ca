/-
  flate's fixedLengths as a contract.
-/
import Derived.Test.YtahibacjaoohiaaDoorRep
namespace Go.Proofs.YtahibacjaoohiaaDoor
open Go.RowKit

theorem make29c (n : Nat) (hn : n ≤ 100000) (W : World) : (Instr.makeSlice 24 (.int .i64 0) (.int .i64 n)).run Tryd.prog W = .ok (.slice (some ⟨W.heap.size, 0, none⟩) 0 n) (W.alloc (.cells (arr n fun _ => .int .i64 0) 3)) := by
  obtain ⟨i, hi, h1, h2, h3⟩ := info_of info3
  have h := run_make (P := Tryd.prog) W 24 3 i (.int .i64 0) Tryd.underlying24 hi h1 .i64 .i64 0 n (by omega) (by omega) (by rw [h2]; omega) (by omega)
  rw [h, h3, Int.toNat_natCast, Nat.mul_one]
  show Result.ok _ (W.alloc (.cells (madeCells #[.int .i64 0] n) 3)) = _
  rw [made_arr]; rfl
theorem own_made (w : World) (base n : Nat) (hb : base ≤ w.heap.size) (hn : n ≤ 100000) : OwnV (w.alloc (.cells (arr n fun _ => .int .i64 0) 3)) base 3 .i64 (.slice (some ⟨w.heap.size, 0, none⟩) 0 n) [] :=
  World.ownsRow_made w _ n hb (by unfold maxLen; omega) (by rw [arr_size, Nat.mul_one])
def runN (k : Nat) : Nat := [144, 112, 24, 8, 32].getD k 0
def runL (k : Nat) : Int := [8, 9, 7, 8, 5].getD k 0
/-- The lengths of the fixed codes, run by run. -/
def fixRun : Nat → List Int
  | 0 => []
  | k + 1 => fixRun k ++ List.replicate (runN k) (runL k)
theorem fixRun_len (i : Nat) (h : i ≤ 5) : (fixRun i).length ≤ 320 := by
  have : ∀ i : Fin 6, (fixRun i.val).length ≤ 320 := by decide +kernel
  exact this ⟨i, by omega⟩

theorem row_lit {w w' : World} {base : Nat} {v v' : Value} {xs : List Int} {k : Nat} {cs : Array Value} (h : OwnV w base 3 .i64 v xs) (m : RowM v v' w w') (hk : w.heap[k]? = some (.cells cs 109)) : w'.heap[k]? = some (.cells cs 109) :=
  m.kept.blk hk (fun e => by
    rcases h.2 with ⟨hv, _⟩ | ⟨g, cap, cur, hv, _, hg, _⟩
    · rw [hv] at e; simp [Value.ownBlock] at e
    · rw [hv] at e; simp [Value.ownBlock] at e; subst e; rw [hg] at hk; simp at hk)
theorem row_below {w0 w w' : World} {v v' : Value} {xs : List Int} (h : OwnV w w0.heap.size 3 .i64 v xs) (m : RowM v v' w w') (hb : Below w0.heap.size w0 w) : Below w0.heap.size w0 w' :=
  hb.trans (m.below hb.size (fun k hk => (World.ownsRow.lt h k hk).1))
def lit10 : Array Value := #[.int .i64 144, .int .i64 8, .int .i64 112, .int .i64 9, .int .i64 24, .int .i64 7, .int .i64 8, .int .i64 8, .int .i64 32, .int .i64 5]
set_option maxRecDepth 100000 in
set_option maxHeartbeats 1600000 in
theorem fixedlen_any (w : World) :
    Calls Tryd.prog 63 #[] w fun e w' => ∃ v, e = .returned v ∧ OwnV w' w.heap.size 3 .i64 v (fixRun 5) ∧ Below w.heap.size w w' := by
  have hmk : ∀ W : World, (Instr.makeSlice 24 (.int .i64 0) (.int .i64 320)).run Tryd.prog W = .ok (.slice (some ⟨W.heap.size, 0, none⟩) 0 320) (W.alloc (.cells (arr 320 fun _ => .int .i64 0) 3)) := make29c 320 (by omega)
  go_enter Tryd.func63, Tryd.ntmps63
  go_wp2_with fail
  obtain ⟨W, hW⟩ : ∃ W, W = (w.alloc (.cells (arr 320 fun _ => .int .i64 0) 3)).alloc (.cells lit10 109) := ⟨_, rfl⟩
  have hlit : W.heap[w.heap.size + 1]? = some (.cells lit10 109) := by
    rw [hW]; have := blk_new (w.alloc (.cells (arr 320 fun _ => .int .i64 0) 3)) (.cells lit10 109); rwa [World.size_alloc] at this
  have hO : OwnV W w.heap.size 3 .i64 (.slice (some ⟨w.heap.size, 0, none⟩) 0 320) (fixRun 0) := by rw [hW]; exact (own_made w w.heap.size 320 (Nat.le_refl _) (by omega)).alloc _
  have hB : Below w.heap.size w W := by rw [hW]; exact ((Below.refl _ w).alloc (Nat.le_refl _) _).alloc (by simp) _
  unfold lit10 at hW
  rw [← hW]
  clear hW
  go_loopw [1, 12] (fun u j wq => ∃ i : Nat, i ≤ 5 ∧ j = .int .i64 i ∧ wq.heap[w.heap.size + 1]? = some (.cells lit10 109) ∧ OwnV wq w.heap.size 3 .i64 u (fixRun i) ∧ Below w.heap.size w wq) (fun _ j _ => 5 - (intOf j).toNat)
  case atStart => exact ⟨0, by omega, rfl, hlit, hO, hB⟩
  case round =>
    clear hlit hO hB hmk W
    obtain ⟨i, hi, rfl, hlit, hO, hB⟩ := hrel
    have hsz := hB.size
    by_cases h0 : i = 0
    · subst h0
      have c0 : wr.cell? ⟨w.heap.size + 1, 0, none⟩ = some (.int .i64 144) := blk_cell hlit 0
      have c1 : wr.cell? ⟨w.heap.size + 1, 1, none⟩ = some (.int .i64 8) := blk_cell hlit 1
      have hb2 : Below w.heap.size w (wr.alloc (.cells #[.int .i64 144, .int .i64 8] 109)) := hB.alloc hsz _
      have hl2 := blk_alloc hlit (.cells #[.int .i64 144, .int .i64 8] 109)
      have hO2 := hO.alloc (.cells #[.int .i64 144, .int .i64 8] 109)
      have HO2 : Hid (_) := hO2
      clear hO2 hO hlit
      go_wp2_with fail
      refine (repeat_any w.heap.size _ (fixRun 0) 8 144 _ HO2.out hb2.size (by decide +kernel)).mono ?_
      rintro e w1 ⟨v1, rfl, hO3, hM3⟩
      have hl3 := row_lit HO2.out hM3 hl2
      have hb3 := row_below HO2.out hM3 hb2
      have HO3 : Hid (OwnV w1 w.heap.size 3 .i64 v1 (fixRun 1)) := hO3
      clear hO3
      go_wp2
      exact ⟨⟨1, by omega, rfl, hl3, HO3.out, hb3⟩, by simp [intOf]⟩
    by_cases h1 : i = 1
    · subst h1
      have c0 : wr.cell? ⟨w.heap.size + 1, 2, none⟩ = some (.int .i64 112) := blk_cell hlit 2
      have c1 : wr.cell? ⟨w.heap.size + 1, 3, none⟩ = some (.int .i64 9) := blk_cell hlit 3
      have hb2 : Below w.heap.size w (wr.alloc (.cells #[.int .i64 112, .int .i64 9] 109)) := hB.alloc hsz _
      have hl2 := blk_alloc hlit (.cells #[.int .i64 112, .int .i64 9] 109)
      have hO2 := hO.alloc (.cells #[.int .i64 112, .int .i64 9] 109)
      have HO2 : Hid (_) := hO2
      clear hO2 hO hlit
      go_wp2_with fail
      refine (repeat_any w.heap.size _ (fixRun 1) 9 112 _ HO2.out hb2.size (by decide +kernel)).mono ?_
      rintro e w1 ⟨v1, rfl, hO3, hM3⟩
      have hl3 := row_lit HO2.out hM3 hl2
      have hb3 := row_below HO2.out hM3 hb2
      have HO3 : Hid (OwnV w1 w.heap.size 3 .i64 v1 (fixRun 2)) := hO3
      clear hO3
      go_wp2
      exact ⟨⟨2, by omega, rfl, hl3, HO3.out, hb3⟩, by simp [intOf]⟩
    by_cases h2 : i = 2
    · subst h2
      have c0 : wr.cell? ⟨w.heap.size + 1, 4, none⟩ = some (.int .i64 24) := blk_cell hlit 4
      have c1 : wr.cell? ⟨w.heap.size + 1, 5, none⟩ = some (.int .i64 7) := blk_cell hlit 5
      have hb2 : Below w.heap.size w (wr.alloc (.cells #[.int .i64 24, .int .i64 7] 109)) := hB.alloc hsz _
      have hl2 := blk_alloc hlit (.cells #[.int .i64 24, .int .i64 7] 109)
      have hO2 := hO.alloc (.cells #[.int .i64 24, .int .i64 7] 109)
      have HO2 : Hid (_) := hO2
      clear hO2 hO hlit
      go_wp2_with fail
      refine (repeat_any w.heap.size _ (fixRun 2) 7 24 _ HO2.out hb2.size (by decide +kernel)).mono ?_
      rintro e w1 ⟨v1, rfl, hO3, hM3⟩
      have hl3 := row_lit HO2.out hM3 hl2
      have hb3 := row_below HO2.out hM3 hb2
      have HO3 : Hid (OwnV w1 w.heap.size 3 .i64 v1 (fixRun 3)) := hO3
      clear hO3
      go_wp2
      exact ⟨⟨3, by omega, rfl, hl3, HO3.out, hb3⟩, by simp [intOf]⟩
    by_cases h3 : i = 3
    · subst h3
      have c0 : wr.cell? ⟨w.heap.size + 1, 6, none⟩ = some (.int .i64 8) := blk_cell hlit 6
      have c1 : wr.cell? ⟨w.heap.size + 1, 7, none⟩ = some (.int .i64 8) := blk_cell hlit 7
      have hb2 : Below w.heap.size w (wr.alloc (.cells #[.int .i64 8, .int .i64 8] 109)) := hB.alloc hsz _
      have hl2 := blk_alloc hlit (.cells #[.int .i64 8, .int .i64 8] 109)
      have hO2 := hO.alloc (.cells #[.int .i64 8, .int .i64 8] 109)
      have HO2 : Hid (_) := hO2
      clear hO2 hO hlit
      go_wp2_with fail
      refine (repeat_any w.heap.size _ (fixRun 3) 8 8 _ HO2.out hb2.size (by decide +kernel)).mono ?_
      rintro e w1 ⟨v1, rfl, hO3, hM3⟩
      have hl3 := row_lit HO2.out hM3 hl2
      have hb3 := row_below HO2.out hM3 hb2
      have HO3 : Hid (OwnV w1 w.heap.size 3 .i64 v1 (fixRun 4)) := hO3
      clear hO3
      go_wp2
      exact ⟨⟨4, by omega, rfl, hl3, HO3.out, hb3⟩, by simp [intOf]⟩
    by_cases h4 : i = 4
    · subst h4
      have c0 : wr.cell? ⟨w.heap.size + 1, 8, none⟩ = some (.int .i64 32) := blk_cell hlit 8
      have c1 : wr.cell? ⟨w.heap.size + 1, 9, none⟩ = some (.int .i64 5) := blk_cell hlit 9
      have hb2 : Below w.heap.size w (wr.alloc (.cells #[.int .i64 32, .int .i64 5] 109)) := hB.alloc hsz _
      have hl2 := blk_alloc hlit (.cells #[.int .i64 32, .int .i64 5] 109)
      have hO2 := hO.alloc (.cells #[.int .i64 32, .int .i64 5] 109)
      have HO2 : Hid (_) := hO2
      clear hO2 hO hlit
      go_wp2_with fail
      refine (repeat_any w.heap.size _ (fixRun 4) 5 32 _ HO2.out hb2.size (by decide +kernel)).mono ?_
      rintro e w1 ⟨v1, rfl, hO3, hM3⟩
      have hl3 := row_lit HO2.out hM3 hl2
      have hb3 := row_below HO2.out hM3 hb2
      have HO3 : Hid (OwnV w1 w.heap.size 3 .i64 v1 (fixRun 5)) := hO3
      clear hO3
      go_wp2
      exact ⟨⟨5, by omega, rfl, hl3, HO3.out, hb3⟩, by simp [intOf]⟩
    obtain rfl : i = 5 := by omega
    go_wp2
    go_ret
    exact ⟨_, rfl, hO, hB⟩
end Go.Proofs.YtahibacjaoohiaaDoor
