/-
  Strings of bytes; rows of bytes as slices that lie in memory; literals. No Go text is walked here.
-/
import Derived.Test.YtahibacjaoohiaaDoorStP
import Derived.Test.YtahibacjaoohiaaDoorInf
namespace Go.Proofs.YtahibacjaoohiaaDoor
open Go.RowKit

/-- A text of n bytes. -/
def bstr (z : Nat → Nat) (n : Nat) : ByteArray := ⟨((List.range n).map fun i => UInt8.ofNat (z i)).toArray⟩
theorem conv_string {w : World} {a : Option Addr} {len cap : Nat} {z : Nat → Nat} (h : Lies w a len cap z) : (convert 23 9 (.slice a len cap)).run Tryd.prog w = .ok (.string (bstr z len)) w := by
  by_cases h0 : len = 0
  · subst h0
    rw [run_convert_bytes_string w 23 9 5 a 0 cap Tryd.underlying23 Tryd.underlying5 Tryd.underlying9]
    cases a <;> kernel_rfl
  · obtain ⟨b, off, rfl, _, hc⟩ := h.spot (by omega)
    have := run_convert_bytes_back (P := Tryd.prog) w 23 9 5 ⟨b, off, .none⟩ cap ((List.range len).map fun i => UInt8.ofNat (z i)) Tryd.underlying23 Tryd.underlying5 Tryd.underlying9 (fun j hj => by
      rw [add_none, hc j (by simpa using hj)]
      have := h.byte j
      simp
      omega)
    simpa [bstr] using this
theorem bstr_congr {z z' : Nat → Nat} {n : Nat} (h : ∀ i, i < n → z i = z' i) : bstr z n = bstr z' n := by
  unfold bstr; congr 2; exact List.map_congr_left fun i hi => by rw [h i (List.mem_range.1 hi)]
/-- Bytes, as numbers. -/
def Byt (xs : List Int) : Prop := ∀ i, 0 ≤ xs.getD i 0 ∧ xs.getD i 0 < 256
theorem OwnV.liesB {w : World} {base : Nat} {v : Value} {bs : List Int} (h : OwnV w base 5 .u8 v bs) (hb : Byt bs) (hl : bs.length ≤ 150000000000000) : ∃ a cap, v = .slice a bs.length cap ∧ Lies w a bs.length cap (zb bs) := by
  have hbz : ∀ q, zb bs q < 256 := fun q => by have := hb q; unfold zb; omega
  by_cases h0 : 0 < bs.length
  · obtain ⟨g, cap, rfl, ho⟩ := h.own h0
    refine ⟨_, cap, rfl, ho.lc.1, by omega, hbz, fun _ => ⟨g, 0, rfl, ho.lt.2, fun i hi => ?_⟩⟩
    rw [Nat.zero_add, ho.cell hi]
    have := hb i
    unfold zb
    congr 2
    omega
  · obtain ⟨a, cap, rfl⟩ := h.form
    exact ⟨a, cap, rfl, by omega, by omega, hbz, fun h => by omega⟩
theorem Own.liesB {w : World} {base g cap : Nat} {bs : List Int} (h : Own w base 5 .u8 g cap bs) (hb : Byt bs) (hl : bs.length ≤ 150000000000000) : Lies w (some ⟨g, 0, none⟩) bs.length cap (zb bs) := by
  have hbz : ∀ q, zb bs q < 256 := fun q => by have := hb q; unfold zb; omega
  refine ⟨h.lc.1, by omega, hbz, fun _ => ⟨g, 0, rfl, h.lt.2, fun i hi => ?_⟩⟩
  rw [Nat.zero_add, h.cell hi]
  have := hb i
  unfold zb
  congr 2
  omega
theorem Byt.zb_lt {bs : List Int} (h : Byt bs) (i : Nat) : zb bs i < 256 := by have := h i; unfold zb; omega
theorem Byt.at0 {bs : List Int} (h : Byt bs) : AtP (zb bs) 0 bs := fun i _ => by have := h i; rw [Nat.zero_add]; unfold zb; omega
theorem byt_of {n : Nat} {z : Nat → Nat} {q : Nat} (hz : ∀ i, z i < 256) : Byt (byt z q n) := fun i => by
  unfold byt
  rw [List.getD_eq_getElem?_getD]
  by_cases h : i < n
  · simp [h]; have := hz (q + i); omega
  · rw [List.getElem?_eq_none (by simp; omega)]; simp
theorem Byt.append {xs ys : List Int} (hx : Byt xs) (hy : Byt ys) : Byt (xs ++ ys) := fun i => by
  rw [List.getD_eq_getElem?_getD]
  by_cases h : i < xs.length
  · rw [List.getElem?_append_left h, ← List.getD_eq_getElem?_getD]; exact hx i
  · rw [List.getElem?_append_right (by omega), ← List.getD_eq_getElem?_getD]; exact hy _
theorem Byt.five {a b c d e : Int} (ha : 0 ≤ a ∧ a < 256) (hb : 0 ≤ b ∧ b < 256) (hc : 0 ≤ c ∧ c < 256) (hd : 0 ≤ d ∧ d < 256) (he : 0 ≤ e ∧ e < 256) : Byt [a, b, c, d, e] := fun i => by
  rcases i with _ | _ | _ | _ | _ | i
  · exact ha
  · exact hb
  · exact hc
  · exact hd
  · exact he
  · simp
theorem blkL_byt {z : Nat → Nat} (hz : ∀ i, z i < 256) (off n : Nat) (d : Bool) (hn : n ≤ 65535) : Byt (blkL z off n d) := by
  unfold blkL
  refine Byt.append (Byt.five ?_ ?_ ?_ ?_ ?_) (byt_of hz)
  · cases d <;> simp
  all_goals omega
theorem stL_byt {z : Nat → Nat} (hz : ∀ i, z i < 256) (len : Nat) : ∀ k off, len - off ≤ k → Byt (stL z len off) := by
  intro k
  induction k using Nat.strongRecOn with
  | ind k ih =>
    intro off hk
    by_cases hs : len - off ≤ 65535
    · rw [stL_last z hs]; exact blkL_byt hz _ _ _ hs
    · rw [stL_more z hs]; exact (blkL_byt hz _ _ _ (Nat.le_refl _)).append (ih (len - (off + 65535)) (by omega) _ (Nat.le_refl _))
theorem stL_len (z : Nat → Nat) (len : Nat) : ∀ k off, len - off ≤ k → 13107 * (stL z len off).length ≤ 13108 * (len - off) + 65535 := by
  intro k
  induction k using Nat.strongRecOn with
  | ind k ih =>
    intro off hk
    by_cases hs : len - off ≤ 65535
    · rw [stL_last z hs, blkL_len]; omega
    · rw [stL_more z hs, List.length_append, blkL_len]
      have := ih (len - (off + 65535)) (by omega) (off + 65535) (Nat.le_refl _)
      omega
theorem stL_five (z : Nat → Nat) (len off : Nat) : 5 ≤ (stL z len off).length := by
  by_cases h7 : len - off ≤ 65535
  · rw [stL_last z h7, blkL_len]; omega
  · rw [stL_more z h7, List.length_append, blkL_len]; omega
/-- Bytes that are written out. -/
def zl (cs : List Nat) (i : Nat) : Nat := cs.getD i 0
theorem lies_lit {w : World} {g : Nat} {cs : List Nat} {fr : Nat × Nat} (hcs : cs.all (· < 256) = true) (hl : cs.length ≤ 1000) (h : w.heap[g]? = some (.cells (cs.map fun c => Value.int .u8 ((c : Nat) : Int)).toArray 5 fr)) : Lies w (some ⟨g, 0, none⟩) cs.length cs.length (zl cs) := by
  have hall : ∀ x ∈ cs, x < 256 := by simpa using hcs
  refine ⟨Nat.le_refl _, by omega, fun i => ?_, fun _ => ⟨g, 0, rfl, blk_lt h, fun i hi => ?_⟩⟩
  · unfold zl
    rw [List.getD_eq_getElem?_getD]
    cases e : cs[i]? with
    | none => simp
    | some y => simpa using hall y (List.mem_of_getElem? e)
  · rw [Nat.zero_add, blk_cell h]
    simp [zl, hi]
/-- What the whole of a stored stream says. -/
theorem infl_stored {z : Nat → Nat} (len most : Nat) (hm : len ≤ most) {y : Nat → Nat} (hy : ∀ i, y i < 256) {LEN : Nat} (hat : AtP y 0 (stL z len 0)) (hL : (stL z len 0).length ≤ LEN) : inflE y LEN most = .ok (8 * (stL z len 0).length, byt z 0 len) := by
  have := stL_all hy len LEN most len 0 0 [] (by omega) hat (by omega) (by simpa using hm)
  simpa [inflE] using this
end Go.Proofs.YtahibacjaoohiaaDoor
