/-
  LazyOnce's closure, as a contract: it counts its call, panics where it is told to, else answers its number.
-/
import Derived.Test.YtbaolijhjijlmaaArr
namespace Go.Proofs.Ytbaolijhjijlmaa
open Go.RowKit

theorem enters16 (args : Array Value) (w : World) : (callFunc 16 args).run Try.prog w = .ok (.enter 16 args) w := enters Try.func16 (by kernel_rfl) rfl args w

set_option maxHeartbeats 800000 in
/-- No word of a panic for this one. -/
theorem k16_past
    (CV CA PV AV iv n t ab ao l0 k0 l2 k2 : Nat) (a2 : Option Addr) (f : Nat → Value) (x : Int) (W : World) (ht : t < n) (_hn : n ≤ 8) (_hl0 : t < l0)
    (hCV : W.heap[CV]? = some (.cells #[.slice (some ⟨CA, 0, none⟩) n n] 37)) (hCA : W.heap[CA]? = some (.cells (arr n f) 3)) (hf : f t = .int .i64 0)
    (hi : W.heap[iv]? = some (.cells #[.int .i64 t] 3)) (hPV : W.heap[PV]? = some (.cells #[.slice a2 l2 k2] 38)) (hAV : W.heap[AV]? = some (.cells #[.slice (some ⟨ab, ao, none⟩) l0 k0] 37))
    (d : CA ≠ CV ∧ CA ≠ iv ∧ CA ≠ PV ∧ CA ≠ AV ∧ CA ≠ ab)
    (hans : W.cell? ⟨ab, ao + t, none⟩ = some (.int .i64 x)) (hp : l2 ≤ t) :
    Calls Try.prog 16 #[.pointer (some ⟨CV, 0, none⟩), .pointer (some ⟨iv, 0, none⟩), .pointer (some ⟨PV, 0, none⟩), .pointer (some ⟨AV, 0, none⟩)] W fun e w' => e = .returned (.int .i64 x) ∧ w' = W.setCell ⟨CA, t, none⟩ (.int .i64 1) := by
  obtain ⟨d1, d2, d3, d4, d5⟩ := d
  have c2 : W.cell? ⟨CA, t, none⟩ = some (.int .i64 0) := by rw [arr_cell hCA ht, hf]
  have z2 := blk_free hCA
  have c1 : W.cell? ⟨CV, 0, none⟩ = some (.slice (some ⟨CA, 0, none⟩) n n) := by rw [blk_cell hCV]; rfl
  have c3 : W.cell? ⟨iv, 0, none⟩ = some (.int .i64 t) := by rw [blk_cell hi]; rfl
  have c4 : W.cell? ⟨PV, 0, none⟩ = some (.slice a2 l2 k2) := by rw [blk_cell hPV]; rfl
  have c5 : W.cell? ⟨AV, 0, none⟩ = some (.slice (some ⟨ab, ao, none⟩) l0 k0) := by rw [blk_cell hAV]; rfl
  have e3 : (W.setCell ⟨CA, t, none⟩ (.int .i64 1)).cell? ⟨iv, 0, none⟩ = some (.int .i64 t) := (World.cell?_setCell_other _ _ _ _ (fun h => d2 (congrArg Addr.block h))).trans c3
  have e4 : (W.setCell ⟨CA, t, none⟩ (.int .i64 1)).cell? ⟨PV, 0, none⟩ = some (.slice a2 l2 k2) := (World.cell?_setCell_other _ _ _ _ (fun h => d3 (congrArg Addr.block h))).trans c4
  have e5 : (W.setCell ⟨CA, t, none⟩ (.int .i64 1)).cell? ⟨AV, 0, none⟩ = some (.slice (some ⟨ab, ao, none⟩) l0 k0) := (World.cell?_setCell_other _ _ _ _ (fun h => d4 (congrArg Addr.block h))).trans c5
  have e6 : (W.setCell ⟨CA, t, none⟩ (.int .i64 1)).cell? ⟨ab, ao + t, none⟩ = some (.int .i64 x) := (World.cell?_setCell_other _ _ _ _ (fun h => d5 (congrArg Addr.block h))).trans hans
  clear hCV hCA hf hi hPV hAV d1 d2 d3 d4 d5 hans c4 c5
  go_enter Try.func16, Try.ntmps16
  go_wp2
  go_ret
  exact ⟨rfl, rfl⟩

set_option maxHeartbeats 800000 in
/-- It is told not to panic. -/
theorem k16_calm
    (CV CA PV AV iv n t ab ao l0 k0 l2 k2 : Nat) (a2 : Option Addr) (f : Nat → Value) (x : Int) (W : World) (ht : t < n) (_hn : n ≤ 8) (_hl0 : t < l0)
    (hCV : W.heap[CV]? = some (.cells #[.slice (some ⟨CA, 0, none⟩) n n] 37)) (hCA : W.heap[CA]? = some (.cells (arr n f) 3)) (hf : f t = .int .i64 0)
    (hi : W.heap[iv]? = some (.cells #[.int .i64 t] 3)) (hPV : W.heap[PV]? = some (.cells #[.slice a2 l2 k2] 38)) (hAV : W.heap[AV]? = some (.cells #[.slice (some ⟨ab, ao, none⟩) l0 k0] 37))
    (d : CA ≠ CV ∧ CA ≠ iv ∧ CA ≠ PV ∧ CA ≠ AV ∧ CA ≠ ab)
    (hans : W.cell? ⟨ab, ao + t, none⟩ = some (.int .i64 x)) (pb po : Nat) (hpc : CA ≠ pb) (ha2 : a2 = some ⟨pb, po, none⟩) (hp : t < l2) (hpan : W.cell? ⟨pb, po + t, none⟩ = some (.bool false)) :
    Calls Try.prog 16 #[.pointer (some ⟨CV, 0, none⟩), .pointer (some ⟨iv, 0, none⟩), .pointer (some ⟨PV, 0, none⟩), .pointer (some ⟨AV, 0, none⟩)] W fun e w' => e = .returned (.int .i64 x) ∧ w' = W.setCell ⟨CA, t, none⟩ (.int .i64 1) := by
  obtain ⟨d1, d2, d3, d4, d5⟩ := d
  have c2 : W.cell? ⟨CA, t, none⟩ = some (.int .i64 0) := by rw [arr_cell hCA ht, hf]
  have z2 := blk_free hCA
  have c1 : W.cell? ⟨CV, 0, none⟩ = some (.slice (some ⟨CA, 0, none⟩) n n) := by rw [blk_cell hCV]; rfl
  have c3 : W.cell? ⟨iv, 0, none⟩ = some (.int .i64 t) := by rw [blk_cell hi]; rfl
  have c4 : W.cell? ⟨PV, 0, none⟩ = some (.slice a2 l2 k2) := by rw [blk_cell hPV]; rfl
  have c5 : W.cell? ⟨AV, 0, none⟩ = some (.slice (some ⟨ab, ao, none⟩) l0 k0) := by rw [blk_cell hAV]; rfl
  have e3 : (W.setCell ⟨CA, t, none⟩ (.int .i64 1)).cell? ⟨iv, 0, none⟩ = some (.int .i64 t) := (World.cell?_setCell_other _ _ _ _ (fun h => d2 (congrArg Addr.block h))).trans c3
  have e4 : (W.setCell ⟨CA, t, none⟩ (.int .i64 1)).cell? ⟨PV, 0, none⟩ = some (.slice a2 l2 k2) := (World.cell?_setCell_other _ _ _ _ (fun h => d3 (congrArg Addr.block h))).trans c4
  have e5 : (W.setCell ⟨CA, t, none⟩ (.int .i64 1)).cell? ⟨AV, 0, none⟩ = some (.slice (some ⟨ab, ao, none⟩) l0 k0) := (World.cell?_setCell_other _ _ _ _ (fun h => d4 (congrArg Addr.block h))).trans c5
  have e6 : (W.setCell ⟨CA, t, none⟩ (.int .i64 1)).cell? ⟨ab, ao + t, none⟩ = some (.int .i64 x) := (World.cell?_setCell_other _ _ _ _ (fun h => d5 (congrArg Addr.block h))).trans hans
  subst ha2
  have e7 : (W.setCell ⟨CA, t, none⟩ (.int .i64 1)).cell? ⟨pb, po + t, none⟩ = some (.bool false) := (World.cell?_setCell_other _ _ _ _ (fun h => hpc (congrArg Addr.block h))).trans hpan
  clear hCV hCA hf hi hPV hAV d1 d2 d3 d4 d5 hans c4 c5
  go_enter Try.func16, Try.ntmps16
  go_wp2
  go_ret
  exact ⟨rfl, rfl⟩

set_option maxHeartbeats 800000 in
/-- It is told to panic. -/
theorem k16_falls
    (CV CA PV AV iv n t ab ao l0 k0 l2 k2 : Nat) (a2 : Option Addr) (f : Nat → Value) (x : Int) (W : World) (ht : t < n) (_hn : n ≤ 8) (_hl0 : t < l0)
    (hCV : W.heap[CV]? = some (.cells #[.slice (some ⟨CA, 0, none⟩) n n] 37)) (hCA : W.heap[CA]? = some (.cells (arr n f) 3)) (hf : f t = .int .i64 0)
    (hi : W.heap[iv]? = some (.cells #[.int .i64 t] 3)) (hPV : W.heap[PV]? = some (.cells #[.slice a2 l2 k2] 38)) (hAV : W.heap[AV]? = some (.cells #[.slice (some ⟨ab, ao, none⟩) l0 k0] 37))
    (d : CA ≠ CV ∧ CA ≠ iv ∧ CA ≠ PV ∧ CA ≠ AV ∧ CA ≠ ab)
    (hans : W.cell? ⟨ab, ao + t, none⟩ = some (.int .i64 x)) (pb po : Nat) (hpc : CA ≠ pb) (ha2 : a2 = some ⟨pb, po, none⟩) (hp : t < l2) (hpan : W.cell? ⟨pb, po + t, none⟩ = some (.bool true)) :
    Calls Try.prog 16 #[.pointer (some ⟨CV, 0, none⟩), .pointer (some ⟨iv, 0, none⟩), .pointer (some ⟨PV, 0, none⟩), .pointer (some ⟨AV, 0, none⟩)] W fun e w' => (∃ u v, e = .panicked [{ v := .iface u v, recovered := false }]) ∧ w' = W.setCell ⟨CA, t, none⟩ (.int .i64 1) := by
  obtain ⟨d1, d2, d3, d4, d5⟩ := d
  have c2 : W.cell? ⟨CA, t, none⟩ = some (.int .i64 0) := by rw [arr_cell hCA ht, hf]
  have z2 := blk_free hCA
  have c1 : W.cell? ⟨CV, 0, none⟩ = some (.slice (some ⟨CA, 0, none⟩) n n) := by rw [blk_cell hCV]; rfl
  have c3 : W.cell? ⟨iv, 0, none⟩ = some (.int .i64 t) := by rw [blk_cell hi]; rfl
  have c4 : W.cell? ⟨PV, 0, none⟩ = some (.slice a2 l2 k2) := by rw [blk_cell hPV]; rfl
  have c5 : W.cell? ⟨AV, 0, none⟩ = some (.slice (some ⟨ab, ao, none⟩) l0 k0) := by rw [blk_cell hAV]; rfl
  have e3 : (W.setCell ⟨CA, t, none⟩ (.int .i64 1)).cell? ⟨iv, 0, none⟩ = some (.int .i64 t) := (World.cell?_setCell_other _ _ _ _ (fun h => d2 (congrArg Addr.block h))).trans c3
  have e4 : (W.setCell ⟨CA, t, none⟩ (.int .i64 1)).cell? ⟨PV, 0, none⟩ = some (.slice a2 l2 k2) := (World.cell?_setCell_other _ _ _ _ (fun h => d3 (congrArg Addr.block h))).trans c4
  have e5 : (W.setCell ⟨CA, t, none⟩ (.int .i64 1)).cell? ⟨AV, 0, none⟩ = some (.slice (some ⟨ab, ao, none⟩) l0 k0) := (World.cell?_setCell_other _ _ _ _ (fun h => d4 (congrArg Addr.block h))).trans c5
  have e6 : (W.setCell ⟨CA, t, none⟩ (.int .i64 1)).cell? ⟨ab, ao + t, none⟩ = some (.int .i64 x) := (World.cell?_setCell_other _ _ _ _ (fun h => d5 (congrArg Addr.block h))).trans hans
  subst ha2
  have e7 : (W.setCell ⟨CA, t, none⟩ (.int .i64 1)).cell? ⟨pb, po + t, none⟩ = some (.bool true) := (World.cell?_setCell_other _ _ _ _ (fun h => hpc (congrArg Addr.block h))).trans hpan
  clear hCV hCA hf hi hPV hAV d1 d2 d3 d4 d5 hans c4 c5
  go_enter Try.func16, Try.ntmps16
  go_wp2
  exact ⟨rfl, ⟨_, _, rfl⟩, rfl⟩
end Go.Proofs.Ytbaolijhjijlmaa
