/-
  Slices of bytes, of ints, of slices of bytes that came in, opened: what lies there, and no more than the reach.
-/
import Derived.Test.YtninhcnpjadjpaaSfn
import Derived.ShutString
import Derived.ChangeOld
import Derived.ProofKit
import Derived.OpenShut
import Derived.SizedLaws
import Derived.Deep.Matrix
namespace Go.Proofs.Ytninhcnpjadjpaa
open Go.ChangeShapes Go.WideShapes Go.ChangeAt Go.RowKit

theorem own : ownKnob Try.prog.godebug = none := by kernel_rfl
theorem laidOut : laidOutB Try.prog = true := by kernel_rfl
theorem bytes5 : Try.prog.bytesOf 5 = 1 := by kernel_rfl
theorem bytes3 : Try.prog.bytesOf 3 = 8 := by kernel_rfl
theorem wf_u8 {n : Int} (h : (Lit.int .u8 n).wf = true) : 0 ≤ n ∧ n < 256 := by
  simp [Lit.wf, IntKind.min, IntKind.max, IntKind.signed, IntKind.bits] at h
  omega
theorem wf_i64 {n : Int} (h : (Lit.int .i64 n).wf = true) : -9223372036854775808 ≤ n ∧ n ≤ 9223372036854775807 := by
  simp [Lit.wf, IntKind.min, IntKind.max, IntKind.signed, IntKind.bits] at h
  omega
theorem plain_addr {W : World} {x : Addr} {v : Value} (h : W.cell? (x.add 0) = some v) : ∃ b off, x = ⟨b, off, none⟩ := by
  obtain ⟨b, off, sp⟩ := x
  cases sp with
  | none => exact ⟨b, off, rfl⟩
  | some s => simp [Addr.add, World.cell?] at h; split at h <;> simp_all
theorem open_bytes {H : Type} {enc : TypeId × Value → H} {W : World} {a0 : Option Addr} {len cap : Nat} {d : DataW H} {pl : List MemPlace} {ts : List TypeId} {ds : List (DataW H)} (j : Nat) (ht : ts[j]? = some 29) (hd : ds[j]? = some d)
    (h : DataW.Trod enc Try.prog W 0 (fun _ => true) true 29 (.slice a0 len cap) d pl) (hsz : (DataW.weightsEach Try.prog ts ds).all (· ≤ reachBytes) = true) : ∃ z, Lies W a0 len cap z := by
  obtain ⟨fuel, hf⟩ := h
  rcases open_ints Try.underlying29 Try.underlying5 (by kernel_rfl) hf with ⟨hcs, _⟩ | ⟨x, l, c, zs, hcs, _, hl, hm, hz, hx, hcell, hwz⟩
  · simp [Value.cells] at hcs
    obtain ⟨rfl, rfl, rfl⟩ := hcs
    exact ⟨fun _ => 0, Lies.none _ _ (fun _ => by omega)⟩
  · simp [Value.cells] at hcs
    obtain ⟨rfl, rfl, rfl⟩ := hcs
    simp only [Prod.mk.injEq] at hx
    obtain ⟨rfl, rfl⟩ := hx
    have hs := sized_slice hsz (j := j) (t := 29) (e := 5) ht hd Try.underlying29
    rw [bytes5] at hs
    simp only [lits, List.length_map, List.length_take, List.length_drop, reachBytes] at hs
    simp only [if_true] at hz
    have hbz : ∀ i, 0 ≤ zs.getD i 0 ∧ zs.getD i 0 < 256 := by
      intro i
      rw [List.getD_eq_getElem?_getD]
      cases e : zs[i]? with
      | none => simp
      | some y => simp; exact wf_u8 (hwz y (List.mem_of_getElem? e))
    refine ⟨fun i => (zs.getD i 0).toNat, hl, by omega, fun i => by have := hbz i; omega, fun hpos => ?_⟩
    have h0 := hcell 0 (by omega)
    obtain ⟨b, off, rfl⟩ := plain_addr h0
    exact ⟨b, off, rfl, blk_lt_of_cell h0, fun i hi => by
      have := hcell i (by omega)
      rw [add_none] at this
      rw [this]
      have := hbz i
      congr 2
      omega⟩
theorem open_ints29 {H : Type} {enc : TypeId × Value → H} {W : World} {a0 : Option Addr} {len cap : Nat} {d : DataW H} {pl : List MemPlace} {ts : List TypeId} {ds : List (DataW H)} (j : Nat) (ht : ts[j]? = some 42) (hd : ds[j]? = some d)
    (h : DataW.Trod enc Try.prog W 0 (fun _ => true) true 42 (.slice a0 len cap) d pl) (hsz : (DataW.weightsEach Try.prog ts ds).all (· ≤ reachBytes) = true) : ∃ f, Ints W a0 len cap f := by
  obtain ⟨fuel, hf⟩ := h
  rcases open_ints Try.underlying42 Try.underlying3 (by kernel_rfl) hf with ⟨hcs, _⟩ | ⟨x, l, c, zs, hcs, _, hl, hm, hz, hx, hcell, hwz⟩
  · simp [Value.cells] at hcs
    obtain ⟨rfl, rfl, rfl⟩ := hcs
    exact ⟨fun _ => 0, ⟨by omega, by omega, fun _ => by omega, fun h => by omega⟩⟩
  · simp [Value.cells] at hcs
    obtain ⟨rfl, rfl, rfl⟩ := hcs
    simp only [Prod.mk.injEq] at hx
    obtain ⟨rfl, rfl⟩ := hx
    have hs := sized_slice hsz (j := j) (t := 42) (e := 3) ht hd Try.underlying42
    rw [bytes3] at hs
    simp only [lits, List.length_map, List.length_take, List.length_drop, reachBytes] at hs
    simp only [if_true] at hz
    have hbz : ∀ i, -9223372036854775808 ≤ zs.getD i 0 ∧ zs.getD i 0 ≤ 9223372036854775807 := by
      intro i
      rw [List.getD_eq_getElem?_getD]
      cases e : zs[i]? with
      | none => simp
      | some y => simp; exact wf_i64 (hwz y (List.mem_of_getElem? e))
    refine ⟨fun i => zs.getD i 0, hl, by omega, hbz, fun hpos => ?_⟩
    have h0 := hcell 0 (by omega)
    obtain ⟨b, off, rfl⟩ := plain_addr h0
    exact ⟨b, off, rfl, blk_lt_of_cell h0, fun i hi => by
      have := hcell i (by omega)
      rwa [add_none] at this⟩
theorem reach_bytes {H : Type} {enc : TypeId × Value → H} {W : World} {a0 : Option Addr} {len cap : Nat} {d : DataW H} {pl : List MemPlace} {ts : List TypeId} {ds : List (DataW H)} (j : Nat) (ht : ts[j]? = some 29) (hd : ds[j]? = some d)
    (h : DataW.Trod enc Try.prog W 0 (fun _ => true) true 29 (.slice a0 len cap) d pl) (hsz : (DataW.weightsEach Try.prog ts ds).all (· ≤ reachBytes) = true) : len ≤ 140737488351232 := by
  obtain ⟨fuel, hf⟩ := h
  rcases open_ints Try.underlying29 Try.underlying5 (by kernel_rfl) hf with ⟨hcs, _⟩ | ⟨x, l, c, zs, hcs, _, hl, hm, hz, hx, hcell, hwz⟩
  · simp [Value.cells] at hcs
    omega
  · simp [Value.cells] at hcs
    obtain ⟨rfl, rfl, rfl⟩ := hcs
    simp only [Prod.mk.injEq] at hx
    obtain ⟨rfl, rfl⟩ := hx
    have hs := sized_slice hsz (j := j) (t := 29) (e := 5) ht hd Try.underlying29
    rw [bytes5] at hs
    simp only [lits, List.length_map, List.length_take, List.length_drop, reachBytes] at hs
    simp only [if_true] at hz
    omega
theorem mem_weightsAll {H : Type} {P : Program} {e : TypeId} {d : DataW H} {x : Nat} (hx : x ∈ d.weights P e) : ∀ {ds : List (DataW H)}, d ∈ ds → x ∈ DataW.weightsAll P e ds
  | [], h => by cases h
  | d' :: ds, h => by
    rw [DataW.weightsAll]
    rcases List.mem_cons.1 h with rfl | h
    · exact List.mem_append_left _ hx
    · exact List.mem_append_right _ (mem_weightsAll hx h)

theorem open_tabs {H : Type} {enc : TypeId × Value → H} {W : World} {a0 : Option Addr} {len cap : Nat} {d : DataW H} {pl : List MemPlace} {ts : List TypeId} {ds : List (DataW H)} (j : Nat) (ht : ts[j]? = some 31) (hd : ds[j]? = some d)
    (h : DataW.Trod enc Try.prog W 0 (fun _ => true) true 31 (.slice a0 len cap) d pl) (hsz : (DataW.weightsEach Try.prog ts ds).all (· ≤ reachBytes) = true) : ∃ t, Tabs W a0 len cap t ∧ ∀ i, i < len → (t i).l ≤ 140737488351232 := by
  obtain ⟨fuel, hf⟩ := h
  rcases Go.Deep.open_int_rows Try.underlying31 Try.underlying29 Try.underlying5 (by kernel_rfl) (by kernel_rfl) hf with ⟨hcs, _⟩ | ⟨x, l, c, A, L, C, Z, hcs, _, hl, hm, hx, hcell⟩
  · simp [Value.cells] at hcs
    obtain ⟨rfl, rfl, rfl⟩ := hcs
    exact ⟨fun _ => ⟨none, 0, 0, fun _ => 0⟩, Tabs.none _ _, fun i hi => by omega⟩
  · simp [Value.cells] at hcs
    obtain ⟨rfl, rfl, rfl⟩ := hcs
    simp only [Prod.mk.injEq] at hx
    obtain ⟨rfl, rfl⟩ := hx
    have hs := sized_slice hsz (j := j) (t := 31) (e := 29) ht hd Try.underlying31
    rw [show Try.prog.bytesOf 29 = 24 by kernel_rfl] at hs
    simp only [List.length_map, List.length_range, reachBytes] at hs
    have hbz : ∀ r, r < len → ∀ i, 0 ≤ (Z r).getD i 0 ∧ (Z r).getD i 0 < 256 := by
      intro r hr i
      rw [List.getD_eq_getElem?_getD]
      cases e : (Z r)[i]? with
      | none => simp
      | some y => simp; exact wf_u8 ((hcell r (by omega)).2.2.2.2.1 y (List.mem_of_getElem? e))
    have hlr : ∀ r, r < len → L r ≤ 140737488351232 := by
      intro r hr
      obtain ⟨_, h1, _, h3, _, h5, _⟩ := hcell r (by omega)
      cases hA : A r with
      | none => have := h5 hA; omega
      | some a' =>
        have hw : (L r) + (C r - L r) ≤ reachBytes := by
          have hin : (L r + (C r - L r)) * 1 ∈ DataW.weights Try.prog 29 (Go.Deep.intRow (H := H) .u8 (A r) (L r) (Z r)) := by
            rw [hA]
            simp [Go.Deep.intRow, DataW.weights, Try.underlying29, bytes5, lits, h3, Nat.min_eq_left h1]
          have hmem : (L r + (C r - L r)) * 1 ∈ DataW.weights Try.prog 31 (.slice ((List.range len).map fun r => Go.Deep.intRow (H := H) .u8 (A r) (L r) (Z r)) ((List.range (cap - len)).map fun j => Go.Deep.intRow (H := H) .u8 (A (len + j)) (L (len + j)) (Z (len + j)))) := by
            rw [DataW.weights, Try.underlying31]
            exact List.mem_cons_of_mem _ (List.mem_append_left _ (mem_weightsAll hin (List.mem_map.2 ⟨r, List.mem_range.2 hr, rfl⟩)))
          have := List.all_eq_true.1 hsz _ (DataW.weights_mem_each ht hd _ hmem)
          simpa using this
        simp only [reachBytes] at hw
        omega
    refine ⟨fun r => ⟨A r, L r, C r, fun i => ((Z r).getD i 0).toNat % 256⟩, ⟨hl, by omega, fun hpos => ?_, fun r hr => ?_⟩, hlr⟩
    · have h0 := (hcell 0 (by omega)).1
      obtain ⟨b, off, rfl⟩ := plain_addr h0
      exact ⟨b, off, rfl, blk_lt_of_cell h0, fun i hi => by
        have := (hcell i (by omega)).1
        rwa [add_none] at this⟩
    · obtain ⟨h0, h1, h2, h3, h4, h5, h6⟩ := hcell r (by omega)
      refine ⟨h1, by have := hlr r hr; show L r ≤ _; omega, fun i => Nat.mod_lt _ (by omega), fun hpos => ?_⟩
      replace hpos : 0 < L r := hpos
      cases hA : A r with
      | none => have := h5 hA; omega
      | some a' =>
        obtain ⟨_, hc⟩ := h6 a' hA
        have hc0 := hc 0 (by omega)
        obtain ⟨b, off, rfl⟩ := plain_addr hc0
        exact ⟨b, off, rfl, blk_lt_of_cell hc0, fun i hi => by
          have hi' : i < L r := hi
          have := hc i (by omega)
          rw [add_none] at this
          rw [this]
          have := hbz r hr i
          congr 2
          show (Z r).getD i 0 = ((((Z r).getD i 0).toNat % 256 : Nat) : Int)
          omega⟩
end Go.Proofs.Ytninhcnpjadjpaa
