/-
  A slice of structs of three ints that came in, opened; how long a slice of bytes may be.
-/
import Derived.Test.YtahibacjaoohiaaDoorOpen
import Derived.Test.YtahibacjaoohiaaDoorFxd
import Derived.Deep.Slices
namespace Go.Proofs.YtahibacjaoohiaaDoor
open Go.ChangeShapes Go.WideShapes Go.ChangeAt Go.RowKit

theorem cells63 : Tryd.prog.cellsOf 46 = 3 := by kernel_rfl
theorem bytes63 : Tryd.prog.bytesOf 46 = 24 := by kernel_rfl
theorem cellsI : Tryd.prog.cellsOf 3 = 1 := by kernel_rfl
def cellInt (w : World) (p : Addr) : Int := match w.cell? p with | some (.int _ n) => n | _ => 0
theorem raw_fields : ∃ f0 f1 f2 : Field, Tryd.prog.underlying 46 = some (.struct #[f0, f1, f2]) ∧ f0.type = 3 ∧ f1.type = 3 ∧ f2.type = 3 ∧ f0.offset = 0 ∧ f1.offset = 1 ∧ f2.offset = 2 :=
  ⟨_, _, _, Tryd.underlying46, rfl, rfl, rfl, rfl, rfl, rfl⟩

theorem list3 {l : List Value} (h : l.length = 3) : ∃ a b c, l = [a, b, c] := by
  match l, h with
  | [a, b, c], _ => exact ⟨a, b, c, rfl⟩
theorem raw_one {H : Type} {enc : TypeId × Value → H} {W : World} {n : Nat} {x : Addr} {y : DataW H × List MemPlace} {cs : List Value} (hc : W.cells? 0 x 3 = some cs) (h : DataW.trod enc Tryd.prog W 0 (fun _ => true) true n 46 cs = some y) :
    ∃ a b c : Int, W.cell? (x.add 0) = some (.int .i64 a) ∧ W.cell? (x.add 1) = some (.int .i64 b) ∧ W.cell? (x.add 2) = some (.int .i64 c) := by
  obtain ⟨_, hl, hg⟩ := World.cells?_some hc
  obtain ⟨f0, f1, f2, hu, t0, t1, t2, o0, o1, o2⟩ := raw_fields
  obtain ⟨xs, k, _, _, _, hxl, hf⟩ := DataW.trod_struct hu h
  obtain ⟨u0, u1, u2, rfl⟩ := list3 hl
  have one : ∀ (i : Nat) (u : Value) (f : Field), (#[f0, f1, f2] : Array Field)[i]? = some f → f.type = 3 → i < 3 → ([u0, u1, u2].drop f.offset).take 1 = [u] → ∃ a, u = .int .i64 a := by
    intro i u f hi ht h3 hu'
    have h1 := hf i f hi
    rw [ht, cellsI, hu'] at h1
    have hx : i < xs.length := by rw [hxl]; exact h3
    rw [List.getElem?_eq_getElem hx] at h1
    obtain ⟨a, e1, _, _⟩ := DataW.trod_int Tryd.underlying3 h1
    simp at e1
    exact ⟨a, e1⟩
  obtain ⟨a, rfl⟩ := one 0 u0 f0 rfl t0 (by omega) (by rw [o0]; rfl)
  obtain ⟨b, rfl⟩ := one 1 u1 f1 rfl t1 (by omega) (by rw [o1]; rfl)
  obtain ⟨c, rfl⟩ := one 2 u2 f2 rfl t2 (by omega) (by rw [o2]; rfl)
  exact ⟨a, b, c, hg 0 (by omega), hg 1 (by omega), hg 2 (by omega)⟩

set_option maxRecDepth 100000 in
theorem open_raws {H : Type} {enc : TypeId × Value → H} {W : World} {a0 : Option Addr} {len cap : Nat} {d : DataW H} {pl : List MemPlace} {ts : List TypeId} {ds : List (DataW H)} (j : Nat) (ht : ts[j]? = some 22) (hd : ds[j]? = some d)
    (h : DataW.Trod enc Tryd.prog W 0 (fun _ => true) true 22 (.slice a0 len cap) d pl) (hsz : (DataW.weightsEach Tryd.prog ts ds).all (· ≤ reachBytes) = true) : ∃ f, Raws W a0 len cap f := by
  obtain ⟨fuel, hf⟩ := h
  rcases Go.Deep.open_slice Tryd.underlying22 hf with ⟨hcs, _⟩ | ⟨x, l, c, m, n, D, Pl, hcs, _, hl, hm, hmm, hx, hel⟩
  · simp [Value.cells] at hcs
    obtain ⟨rfl, rfl, rfl⟩ := hcs
    exact ⟨fun _ _ => 0, ⟨by omega, by omega, fun h => by omega⟩⟩
  · simp [Value.cells] at hcs
    obtain ⟨rfl, rfl, rfl⟩ := hcs
    simp only [Prod.mk.injEq] at hx
    obtain ⟨rfl, rfl⟩ := hx
    rw [if_pos rfl] at hmm
    subst hmm
    have hs := sized_slice hsz (j := j) (t := 22) (e := 46) ht hd Tryd.underlying22
    rw [bytes63] at hs
    simp only [List.length_map, List.length_range, reachBytes] at hs
    rw [cells63] at hel
    by_cases h0 : 0 < len
    · obtain ⟨cs0, hc0, hd0⟩ := hel 0 (by omega)
      obtain ⟨_, _, _, e0, _⟩ := raw_one hc0 hd0
      have e0' : ∃ v, W.cell? (x.add 0) = some v := by
        rw [Nat.zero_mul] at e0
        obtain ⟨b, off, sp⟩ := x
        cases sp with
        | none => exact ⟨_, by simpa [Addr.add] using e0⟩
        | some s => simp [Addr.add, World.cell?] at e0; split at e0 <;> simp_all
      obtain ⟨v, hv⟩ := e0'
      obtain ⟨b, off, rfl⟩ := plain_addr hv
      refine ⟨fun i k => cellInt W ⟨b, off + i * 3 + k, none⟩, by omega, by omega, fun _ => ⟨b, off, rfl, blk_lt_of_cell hv, fun i hi => ?_⟩⟩
      obtain ⟨cs, hc, hdd⟩ := hel i (by omega)
      obtain ⟨y0, y1, y2, g0, g1, g2⟩ := raw_one hc hdd
      rw [add_none, add_none] at g0 g1 g2
      rw [Nat.add_zero] at g0
      refine ⟨?_, ?_, ?_⟩
      · simp only [Nat.add_zero]; rw [g0]; unfold cellInt; rw [g0]
      · rw [g1]; unfold cellInt; rw [g1]
      · rw [g2]; unfold cellInt; rw [g2]
    · exact ⟨fun _ _ => 0, ⟨by omega, by omega, fun h => by omega⟩⟩
end Go.Proofs.YtahibacjaoohiaaDoor
