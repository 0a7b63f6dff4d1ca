
/-
  Slices of bytes and of ints that came in, opened: what lies there, and no more than the reach.
-/
import Derived.Test.YtahibacjaoohiaaDoorBase
import Derived.ShutString
import Derived.ChangeOld
import Derived.ProofKit
import Derived.OpenShut
import Derived.SizedLaws
namespace Go.Proofs.YtahibacjaoohiaaDoor
open Go.ChangeShapes Go.WideShapes Go.ChangeAt Go.RowKit

theorem own : ownKnob Tryd.prog.godebug = none := by kernel_rfl
theorem laidOut : laidOutB Tryd.prog = true := by kernel_rfl
theorem bytes5 : Tryd.prog.bytesOf 5 = 1 := by kernel_rfl
theorem bytes3 : Tryd.prog.bytesOf 3 = 8 := by kernel_rfl
theorem wf_u8 {n : Int} (h : (Lit.int .u8 n).wf = true) : 0 ≤ n ∧ n < 256 := by
  simp [Lit.wf, IntKind.min, IntKind.max, IntKind.signed, IntKind.bits] at h
  omega
theorem wf_i64 {n : Int} (h : (Lit.int .i64 n).wf = true) : -9223372036854775808 ≤ n ∧ n ≤ 9223372036854775807 := by
  simp [Lit.wf, IntKind.min, IntKind.max, IntKind.signed, IntKind.bits] at h
  omega

theorem plain_addr {W : World} {x : Addr} {v : Value} (h : W.cell? (x.add 0) = some v) : ∃ b off, x = ⟨b, off, none⟩ := by
  obtain ⟨b, off, sp⟩ := x
  cases sp with
  | none => exact ⟨b, off, rfl⟩
  | some s => simp [Addr.add, World.cell?] at h; split at h <;> simp_all

theorem open_bytes {H : Type} {enc : TypeId × Value → H} {W : World} {a0 : Option Addr} {len cap : Nat} {d : DataW H} {pl : List MemPlace} {ts : List TypeId} {ds : List (DataW H)} (j : Nat) (ht : ts[j]? = some 23) (hd : ds[j]? = some d)
    (h : DataW.Trod enc Tryd.prog W 0 (fun _ => true) true 23 (.slice a0 len cap) d pl) (hsz : (DataW.weightsEach Tryd.prog ts ds).all (· ≤ reachBytes) = true) : ∃ z, Lies W a0 len cap z := by
  obtain ⟨fuel, hf⟩ := h
  rcases open_ints Tryd.underlying23 Tryd.underlying5 (by kernel_rfl) hf with ⟨hcs, _⟩ | ⟨x, l, c, zs, hcs, _, hl, hm, hz, hx, hcell, hwz⟩
  · simp [Value.cells] at hcs
    obtain ⟨rfl, rfl, rfl⟩ := hcs
    exact ⟨fun _ => 0, Lies.none _ _ (fun _ => by omega)⟩
  · simp [Value.cells] at hcs
    obtain ⟨rfl, rfl, rfl⟩ := hcs
    simp only [Prod.mk.injEq] at hx
    obtain ⟨rfl, rfl⟩ := hx
    have hs := sized_slice hsz (j := j) (t := 23) (e := 5) ht hd Tryd.underlying23
    rw [bytes5] at hs
    simp only [lits, List.length_map, List.length_take, List.length_drop, reachBytes] at hs
    simp only [if_true] at hz
    have hbz : ∀ i, 0 ≤ zs.getD i 0 ∧ zs.getD i 0 < 256 := by
      intro i
      rw [List.getD_eq_getElem?_getD]
      cases e : zs[i]? with
      | none => simp
      | some y => simp; exact wf_u8 (hwz y (List.mem_of_getElem? e))
    refine ⟨fun i => (zs.getD i 0).toNat, hl, by omega, fun i => by have := hbz i; omega, fun hpos => ?_⟩
    have h0 := hcell 0 (by omega)
    obtain ⟨b, off, rfl⟩ := plain_addr h0
    exact ⟨b, off, rfl, blk_lt_of_cell h0, fun i hi => by
      have := hcell i (by omega)
      rw [add_none] at this
      rw [this]
      have := hbz i
      congr 2
      omega⟩

theorem open_ints29 {H : Type} {enc : TypeId × Value → H} {W : World} {a0 : Option Addr} {len cap : Nat} {d : DataW H} {pl : List MemPlace} {ts : List TypeId} {ds : List (DataW H)} (j : Nat) (ht : ts[j]? = some 24) (hd : ds[j]? = some d)
    (h : DataW.Trod enc Tryd.prog W 0 (fun _ => true) true 24 (.slice a0 len cap) d pl) (hsz : (DataW.weightsEach Tryd.prog ts ds).all (· ≤ reachBytes) = true) : ∃ f, Ints W a0 len cap f := by
  obtain ⟨fuel, hf⟩ := h
  rcases open_ints Tryd.underlying24 Tryd.underlying3 (by kernel_rfl) hf with ⟨hcs, _⟩ | ⟨x, l, c, zs, hcs, _, hl, hm, hz, hx, hcell, hwz⟩
  · simp [Value.cells] at hcs
    obtain ⟨rfl, rfl, rfl⟩ := hcs
    exact ⟨fun _ => 0, ⟨by omega, by omega, fun _ => by omega, fun h => by omega⟩⟩
  · simp [Value.cells] at hcs
    obtain ⟨rfl, rfl, rfl⟩ := hcs
    simp only [Prod.mk.injEq] at hx
    obtain ⟨rfl, rfl⟩ := hx
    have hs := sized_slice hsz (j := j) (t := 24) (e := 3) ht hd Tryd.underlying24
    rw [bytes3] at hs
    simp only [lits, List.length_map, List.length_take, List.length_drop, reachBytes] at hs
    simp only [if_true] at hz
    have hbz : ∀ i, -9223372036854775808 ≤ zs.getD i 0 ∧ zs.getD i 0 ≤ 9223372036854775807 := by
      intro i
      rw [List.getD_eq_getElem?_getD]
      cases e : zs[i]? with
      | none => simp
      | some y => simp; exact wf_i64 (hwz y (List.mem_of_getElem? e))
    refine ⟨fun i => zs.getD i 0, hl, by omega, hbz, fun hpos => ?_⟩
    have h0 := hcell 0 (by omega)
    obtain ⟨b, off, rfl⟩ := plain_addr h0
    exact ⟨b, off, rfl, blk_lt_of_cell h0, fun i hi => by
      have := hcell i (by omega)
      rwa [add_none] at this⟩
theorem reach_bytes {H : Type} {enc : TypeId × Value → H} {W : World} {a0 : Option Addr} {len cap : Nat} {d : DataW H} {pl : List MemPlace} {ts : List TypeId} {ds : List (DataW H)} (j : Nat) (ht : ts[j]? = some 23) (hd : ds[j]? = some d)
    (h : DataW.Trod enc Tryd.prog W 0 (fun _ => true) true 23 (.slice a0 len cap) d pl) (hsz : (DataW.weightsEach Tryd.prog ts ds).all (· ≤ reachBytes) = true) : len ≤ 140737488351232 := by
  obtain ⟨fuel, hf⟩ := h
  rcases open_ints Tryd.underlying23 Tryd.underlying5 (by kernel_rfl) hf with ⟨hcs, _⟩ | ⟨x, l, c, zs, hcs, _, hl, hm, hz, hx, hcell, hwz⟩
  · simp [Value.cells] at hcs
    omega
  · simp [Value.cells] at hcs
    obtain ⟨rfl, rfl, rfl⟩ := hcs
    simp only [Prod.mk.injEq] at hx
    obtain ⟨rfl, rfl⟩ := hx
    have hs := sized_slice hsz (j := j) (t := 23) (e := 5) ht hd Tryd.underlying23
    rw [bytes5] at hs
    simp only [lits, List.length_map, List.length_take, List.length_drop, reachBytes] at hs
    simp only [if_true] at hz
    omega
end Go.Proofs.YtahibacjaoohiaaDoor
