/-
  The order in FlateOwn's own text, read by an index.
-/
import Derived.Test.YtkhfdjgnomkfgaaDoorOwb
import Derived.Test.YtkhfdjgnomkfgaaDoorOpen
namespace Go.Proofs.YtkhfdjgnomkfgaaDoor
open Go.RowKit

def ordV : Array Value := #[.int .i64 16, .int .i64 17, .int .i64 18, .int .i64 0, .int .i64 8, .int .i64 7, .int .i64 9, .int .i64 6, .int .i64 10, .int .i64 5, .int .i64 11, .int .i64 4, .int .i64 12, .int .i64 3, .int .i64 13, .int .i64 2, .int .i64 14, .int .i64 1, .int .i64 15]
theorem ordV_0 (W : World) : (Instr.index 43 (.agg ordV) (.int .i64 0)).run Tryd.prog W = .ok (.int .i64 16) W := by kernel_rfl
theorem ordV_1 (W : World) : (Instr.index 43 (.agg ordV) (.int .i64 1)).run Tryd.prog W = .ok (.int .i64 17) W := by kernel_rfl
theorem ordV_2 (W : World) : (Instr.index 43 (.agg ordV) (.int .i64 2)).run Tryd.prog W = .ok (.int .i64 18) W := by kernel_rfl
theorem ordV_3 (W : World) : (Instr.index 43 (.agg ordV) (.int .i64 3)).run Tryd.prog W = .ok (.int .i64 0) W := by kernel_rfl
theorem ordV_4 (W : World) : (Instr.index 43 (.agg ordV) (.int .i64 4)).run Tryd.prog W = .ok (.int .i64 8) W := by kernel_rfl
theorem ordV_5 (W : World) : (Instr.index 43 (.agg ordV) (.int .i64 5)).run Tryd.prog W = .ok (.int .i64 7) W := by kernel_rfl
theorem ordV_6 (W : World) : (Instr.index 43 (.agg ordV) (.int .i64 6)).run Tryd.prog W = .ok (.int .i64 9) W := by kernel_rfl
theorem ordV_7 (W : World) : (Instr.index 43 (.agg ordV) (.int .i64 7)).run Tryd.prog W = .ok (.int .i64 6) W := by kernel_rfl
theorem ordV_8 (W : World) : (Instr.index 43 (.agg ordV) (.int .i64 8)).run Tryd.prog W = .ok (.int .i64 10) W := by kernel_rfl
theorem ordV_9 (W : World) : (Instr.index 43 (.agg ordV) (.int .i64 9)).run Tryd.prog W = .ok (.int .i64 5) W := by kernel_rfl
theorem ordV_10 (W : World) : (Instr.index 43 (.agg ordV) (.int .i64 10)).run Tryd.prog W = .ok (.int .i64 11) W := by kernel_rfl
theorem ordV_11 (W : World) : (Instr.index 43 (.agg ordV) (.int .i64 11)).run Tryd.prog W = .ok (.int .i64 4) W := by kernel_rfl
theorem ordV_12 (W : World) : (Instr.index 43 (.agg ordV) (.int .i64 12)).run Tryd.prog W = .ok (.int .i64 12) W := by kernel_rfl
theorem ordV_13 (W : World) : (Instr.index 43 (.agg ordV) (.int .i64 13)).run Tryd.prog W = .ok (.int .i64 3) W := by kernel_rfl
theorem ordV_14 (W : World) : (Instr.index 43 (.agg ordV) (.int .i64 14)).run Tryd.prog W = .ok (.int .i64 13) W := by kernel_rfl
theorem ordV_15 (W : World) : (Instr.index 43 (.agg ordV) (.int .i64 15)).run Tryd.prog W = .ok (.int .i64 2) W := by kernel_rfl
theorem ordV_16 (W : World) : (Instr.index 43 (.agg ordV) (.int .i64 16)).run Tryd.prog W = .ok (.int .i64 14) W := by kernel_rfl
theorem ordV_17 (W : World) : (Instr.index 43 (.agg ordV) (.int .i64 17)).run Tryd.prog W = .ok (.int .i64 1) W := by kernel_rfl
theorem ordV_18 (W : World) : (Instr.index 43 (.agg ordV) (.int .i64 18)).run Tryd.prog W = .ok (.int .i64 15) W := by kernel_rfl
theorem ordV_index (k : Nat) (hk : k < 19) (W : World) : (Instr.index 43 (.agg ordV) (.int .i64 ((k : Nat) : Int))).run Tryd.prog W = .ok (.int .i64 ((ord k : Nat) : Int)) W := by
  rcases (show k = 0 ∨ k = 1 ∨ k = 2 ∨ k = 3 ∨ k = 4 ∨ k = 5 ∨ k = 6 ∨ k = 7 ∨ k = 8 ∨ k = 9 ∨ k = 10 ∨ k = 11 ∨ k = 12 ∨ k = 13 ∨ k = 14 ∨ k = 15 ∨ k = 16 ∨ k = 17 ∨ k = 18 by omega) with rfl | rfl | rfl | rfl | rfl | rfl | rfl | rfl | rfl | rfl | rfl | rfl | rfl | rfl | rfl | rfl | rfl | rfl | rfl
  · exact ordV_0 W
  · exact ordV_1 W
  · exact ordV_2 W
  · exact ordV_3 W
  · exact ordV_4 W
  · exact ordV_5 W
  · exact ordV_6 W
  · exact ordV_7 W
  · exact ordV_8 W
  · exact ordV_9 W
  · exact ordV_10 W
  · exact ordV_11 W
  · exact ordV_12 W
  · exact ordV_13 W
  · exact ordV_14 W
  · exact ordV_15 W
  · exact ordV_16 W
  · exact ordV_17 W
  · exact ordV_18 W
theorem HeadT.says {zs bs : List Int} (h : HeadT zs bs 1106) (hg : GoodO zs) : SaysO zs bs 1106 [] := h.head.says hg
theorem byt_more {O : List Int} (h : Byt O) {S : Nat} (hS : S < 256) : Byt (O ++ [(S : Int)]) := h.append (fun q => by
  rcases q with _ | q
  · simp; omega
  · simp)
theorem conv_one (v : World) (S : Nat) (hS : S < 256) : (convert 22 9 (.slice (some ⟨v.heap.size, 0, none⟩) 1 1)).run Tryd.prog (v.alloc (.cells #[.int .u8 (S : Int)] 5)) = .ok (.string (bstr (zb [(S : Int)]) 1)) (v.alloc (.cells #[.int .u8 (S : Int)] 5)) := by
  have o := own_lit v v.heap.size 5 .u8 [(S : Int)] (Nat.le_refl _) (by simp)
  exact conv_string (o.liesB (byt_more (O := []) (fun q => by simp) hS) (by simp))
theorem bstr_list (O : List Int) (x : Int) : ((List.range O.length).map fun i => UInt8.ofNat (zb O i)) ++ ((List.range 1).map fun i => UInt8.ofNat (zb [x] i)) = (List.range (O.length + 1)).map fun i => UInt8.ofNat (zb (O ++ [x]) i) := by
  rw [List.range_succ (n := O.length), List.map_append]
  congr 1
  · refine List.map_congr_left fun i hi => ?_
    have hi' : i < O.length := by simpa using hi
    unfold zb
    rw [getD_front x hi']
  · show [UInt8.ofNat (x).toNat] = [UInt8.ofNat ((O ++ [x]).getD O.length 0).toNat]
    rw [getD_last]
theorem bstr_add (O : List Int) (x : Int) : bstr (zb O) O.length ++ bstr (zb [x]) 1 = bstr (zb (O ++ [x])) (O ++ [x]).length := by
  have h := bstr_list O x
  apply ByteArray.ext
  rw [ByteArray.data_append, List.length_append, List.length_singleton]
  show List.toArray _ ++ List.toArray _ = List.toArray _
  rw [← h, List.append_toArray]
end Go.Proofs.YtkhfdjgnomkfgaaDoor
