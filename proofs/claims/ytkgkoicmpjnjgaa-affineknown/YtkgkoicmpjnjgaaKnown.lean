/-
  'known', and AffineKnown: answers true and leaves memory as it was, for every world; no condition.
-/
import Derived.Test.YtkgkoicmpjnjgaaAffB
import Derived.ProofKit
import Derived.OpenShut
namespace Go.Proofs.Ytkgkoicmpjnjgaa
open Go.ChangeShapes Go.WideShapes Go.ChangeAt Go.RowKit

theorem eq_aff (a b c d e f a' b' c' d' e' f' : Int) (w : World) : (binOp .eql 23 (aff a b c d e f) (aff a' b' c' d' e' f')).run Try.prog w = .ok (.bool (decide (a = a' ∧ b = b' ∧ c = c' ∧ d = d' ∧ e = e' ∧ f = f'))) w := by
  simp [go_sem]
  repeat' split
  all_goals simp_all

set_option maxRecDepth 100000 in
theorem known_any (w : World) : Calls Try.prog 14 #[] w fun e w' => e = .returned (.bool true) ∧ Below w.heap.size w w' := by
  have heq : ∀ (W : World), (binOp .eql 23 (aff 65536 0 0 65536 0 0) (aff 65536 0 0 65536 0 0)).run Try.prog W = .ok (.bool true) W := fun W => by rw [eq_aff]; rfl
  go_enter Try.func14, Try.ntmps14
  go_wp2_with fail
  refine (shift_any _ _ _).mono ?_
  rintro e w1 ⟨rfl, b1⟩
  go_wp2_with fail
  refine (apply_any _ _ _ _ _ _ _ _ _).mono ?_
  rintro e w2 ⟨rfl, b2⟩
  replace b2 := b1.trans (b2.mono b1.size)
  rw [show clip (mulv 65536 3 + mulv 0 4 + clip (clip 1)) = 4 by decide, show clip (mulv 0 3 + mulv 65536 4 + clip (clip 2)) = 6 by decide]
  go_wp2_with fail
  refine (one_any _).mono ?_
  rintro e w3 ⟨rfl, b3⟩
  replace b3 := b2.trans (b3.mono b2.size)
  go_wp2
  go_ret
  exact ⟨rfl, b3⟩
theorem told {P : Program} {f : FuncId} {args : Array Value} {w : World} {v v' : Value} (h : Calls P f args w fun e w' => e = .returned v ∧ Below w.heap.size w w') (hv : v = v') : Calls P f args w fun e w' => e = .returned v' ∧ Below w.heap.size w w' := by
  subst hv; exact h

set_option maxRecDepth 100000 in
set_option maxHeartbeats 1600000 in
theorem affineKnown_walk (w : World) : Calls Try.prog 3 #[] w fun e w' => e = .returned (.bool true) ∧ Below w.heap.size w w' := by
  have hnot : ∀ (x : Bool) (w : World), (Op.unary .not (.bool x)).run Try.prog w = .ok (.bool (!x)) w := fun _ _ => rfl
  have b0 := Below.refl w.heap.size w
  go_enter Try.func3, Try.ntmps3
  go_wp2_with fail
  refine (told (v' := aff 65536 0 0 65536 10 20) (shift_any 10 20 _) (by kernel_rfl)).mono ?_
  rintro e w1 ⟨rfl, b1⟩
  replace b1 := b0.trans (b1.mono b0.size)
  clear b0
  go_wp2_with fail
  refine (told (v' := aff 131072 0 0 196608 0 0) (scale_any 131072 196608 _) (by kernel_rfl)).mono ?_
  rintro e w2 ⟨rfl, b2⟩
  replace b2 := b1.trans (b2.mono b1.size)
  clear b1
  go_wp2_with fail
  refine (told (v' := aff 131072 0 0 196608 10 20) (mul6_any 65536 0 0 65536 10 20 131072 0 0 196608 0 0 _) (by kernel_rfl)).mono ?_
  rintro e w3 ⟨rfl, b3⟩
  replace b3 := b2.trans (b3.mono b2.size)
  clear b2
  go_wp2_with fail
  refine (told (v' := .tuple #[.int .i64 131082, .int .i64 196628]) (apply_any 131072 0 0 196608 10 20 65536 65536 _) (by kernel_rfl)).mono ?_
  rintro e w4 ⟨rfl, b4⟩
  have g4 := Below.blk b4 (heap_alloc_new w3 _) (by simp)
  obtain ⟨c0, c1, c2, c3, c4, c5⟩ := aff_cells g4
  clear g4
  replace b4 := (b3.alloc b3.size _).trans (b4.mono (b3.alloc b3.size _).size)
  clear b3
  go_wp2_with fail
  refine (told (v' := .tuple #[aff 32768 0 0 21845 (-5) (-7), .bool true]) (inverse_some 131072 0 0 196608 10 20 393216 (by unfold Hid; decide) (by decide) _) (by kernel_rfl)).mono ?_
  rintro e w5 ⟨rfl, b5⟩
  clear c0 c1 c2 c3 c4 c5
  replace b5 := b4.trans (b5.mono b4.size)
  clear b4
  go_wp2_with fail
  refine (told (v' := .tuple #[.int .i64 65536, .int .i64 65535]) (apply_any 32768 0 0 21845 (-5) (-7) 131082 196628 _) (by kernel_rfl)).mono ?_
  rintro e w6 ⟨rfl, b6⟩
  replace b6 := (b5.alloc b5.size _).trans (b6.mono (b5.alloc b5.size _).size)
  clear b5
  go_wp2_with fail
  refine (told (v' := aff 0 0 0 65536 0 0) (scale_any 0 65536 _) (by kernel_rfl)).mono ?_
  rintro e w7 ⟨rfl, b7⟩
  replace b7 := b6.trans (b7.mono b6.size)
  clear b6
  go_wp2_with fail
  refine (told (v' := .tuple #[aff 0 0 0 0 0 0, .bool false]) (inverse_none 0 0 0 65536 0 0 (by decide) _) (by kernel_rfl)).mono ?_
  rintro e w8 ⟨rfl, b8⟩
  replace b8 := b7.trans (b8.mono b7.size)
  clear b7
  go_wp2_with fail
  refine (told (v' := aff 0 65536 (-65536) 0 0 0) (rotate_any 16384 _) (by kernel_rfl)).mono ?_
  rintro e w9 ⟨rfl, b9⟩
  replace b9 := (b8.alloc b8.size _).trans (b9.mono (b8.alloc b8.size _).size)
  clear b8
  go_wp2_with fail
  refine (told (v' := .tuple #[.int .i64 0, .int .i64 65536]) (apply_any 0 65536 (-65536) 0 0 0 65536 0 _) (by kernel_rfl)).mono ?_
  rintro e w10 ⟨rfl, b10⟩
  replace b10 := b9.trans (b10.mono b9.size)
  clear b9
  go_wp2_with fail
  refine (told (v' := aff (-65536) 0 0 (-65536) 0 0) (rotate_any 32768 _) (by kernel_rfl)).mono ?_
  rintro e w11 ⟨rfl, b11⟩
  replace b11 := b10.trans (b11.mono b10.size)
  clear b10
  go_wp2_with fail
  refine (told (v' := aff (-65536) 0 0 (-65536) 131072 0) (around_any (-65536) 0 0 (-65536) 0 0 65536 0 _) (by kernel_rfl)).mono ?_
  rintro e w12 ⟨rfl, b12⟩
  replace b12 := b11.trans (b12.mono b11.size)
  clear b11
  go_wp2_with fail
  refine (told (v' := .tuple #[.int .i64 131072, .int .i64 0]) (apply_any (-65536) 0 0 (-65536) 131072 0 0 0 _) (by kernel_rfl)).mono ?_
  rintro e w13 ⟨rfl, b13⟩
  replace b13 := b12.trans (b13.mono b12.size)
  clear b12
  go_wp2_with fail
  refine (told (v' := aff 65536 0 (-65536) 65536 0 0) (skew_any 8192 0 _) (by kernel_rfl)).mono ?_
  rintro e w14 ⟨rfl, b14⟩
  replace b14 := b13.trans (b14.mono b13.size)
  clear b13
  go_wp2_with fail
  refine (told (v' := .tuple #[.int .i64 (-65536), .int .i64 65536]) (apply_any 65536 0 (-65536) 65536 0 0 0 65536 _) (by kernel_rfl)).mono ?_
  rintro e w15 ⟨rfl, b15⟩
  replace b15 := b14.trans (b15.mono b14.size)
  clear b14
  go_wp2_with fail
  refine (known_any _).mono ?_
  rintro e w16 ⟨rfl, b16⟩
  replace b16 := b15.trans (b16.mono b15.size)
  clear b15
  go_wp2
  go_ret
  exact ⟨rfl, b16⟩
end Go.Proofs.Ytkgkoicmpjnjgaa
