/-
  Chapter 15's example: the laws' 'known' as a contract.
-/
import Derived.Test.YtninhcnpjadjpaaOpl
namespace Go.Proofs.Ytninhcnpjadjpaa
open Go.RowKit

def tk (ga gb : Nat) (i : Nat) : Tab := if i = 0 then ⟨some ⟨ga, 0, none⟩, 2, 2, zl [1, 2]⟩ else ⟨some ⟨gb, 0, none⟩, 4, 4, zl [3, 4, 5, 6]⟩
theorem tk_le (ga gb : Nat) : ∀ k, k < 2 → (tk ga gb k).l ≤ 40 := fun k hk => by
  rcases (show k = 0 ∨ k = 1 by omega) with rfl | rfl
  · show (2 : Nat) ≤ 40; omega
  · show (4 : Nat) ≤ 40; omega
theorem glen_tk (a b : Nat) : glen (tk a b) 1 = 2 ∧ glen (tk a b) (1 + 1) = 6 := by simp [glen, tk]
theorem laidk (w : World) {W : World} (hW : W = ((w.alloc (.cells #[.int .u8 1, .int .u8 2] 5)).alloc (.cells #[.int .u8 3, .int .u8 4, .int .u8 5, .int .u8 6] 5)).alloc (.cells #[.slice (some ⟨w.heap.size, 0, none⟩) 2 2, .slice (some ⟨w.heap.size + 1, 0, none⟩) 4 4] 29)) :
    Tabs W (some ⟨w.heap.size + 1 + 1, 0, none⟩) 2 2 (tk w.heap.size (w.heap.size + 1)) ∧ Below w.heap.size w W := by
  subst hW
  have b1 := blk_new w (.cells #[.int .u8 1, .int .u8 2] 5)
  have b2 := blk_new (w.alloc (.cells #[.int .u8 1, .int .u8 2] 5)) (.cells #[.int .u8 3, .int .u8 4, .int .u8 5, .int .u8 6] 5)
  have b3 := blk_new ((w.alloc (.cells #[.int .u8 1, .int .u8 2] 5)).alloc (.cells #[.int .u8 3, .int .u8 4, .int .u8 5, .int .u8 6] 5)) (.cells #[.slice (some ⟨w.heap.size, 0, none⟩) 2 2, .slice (some ⟨w.heap.size + 1, 0, none⟩) 4 4] 29)
  have c1 := blk_alloc (blk_alloc b1 (.cells #[.int .u8 3, .int .u8 4, .int .u8 5, .int .u8 6] 5)) (.cells #[.slice (some ⟨w.heap.size, 0, none⟩) 2 2, .slice (some ⟨w.heap.size + 1, 0, none⟩) 4 4] 29)
  have c2 := blk_alloc b2 (.cells #[.slice (some ⟨w.heap.size, 0, none⟩) 2 2, .slice (some ⟨w.heap.size + 1, 0, none⟩) 4 4] 29)
  simp only [World.size_alloc] at c2 b3
  refine ⟨⟨Nat.le_refl _, by omega, fun _ => ⟨_, 0, rfl, blk_lt b3, fun i hi => ?_⟩, fun i hi => ?_⟩, ?_⟩
  · rw [blk_cell b3, Nat.zero_add]
    rcases (show i = 0 ∨ i = 1 by omega) with rfl | rfl <;> rfl
  · rcases (show i = 0 ∨ i = 1 by omega) with rfl | rfl
    · exact lies_lit (cs := [1, 2]) rfl (by simp) c1
    · exact lies_lit (cs := [3, 4, 5, 6]) rfl (by simp) c2
  · exact (((Below.refl _ w).alloc (Nat.le_refl _) _).alloc (by simp) _).alloc (by simp; omega) _
theorem look_none (s : Nat → ByteArray) (t : Nat → Tab) (u : ByteArray) : look (zb (layB s t 0)) u = none := by
  have hc := (laid_ok (s := s) (t := t) (n := 0) rfl (by omega) (by simp [sumN])).1
  unfold look
  rw [hc, if_neg (by omega)]

set_option maxRecDepth 100000 in
set_option maxHeartbeats 1600000 in
theorem known_any (w : World) : Calls Try.prog 13 #[] w fun e w' => e = .returned (.bool true) ∧ Below w.heap.size w w' := by
  obtain ⟨wA, hwA⟩ : ∃ x, x = ((w.alloc (.cells #[.int .u8 1, .int .u8 2] 5)).alloc (.cells #[.int .u8 3, .int .u8 4, .int .u8 5, .int .u8 6] 5)).alloc (.cells #[.slice (some ⟨w.heap.size, 0, none⟩) 2 2, .slice (some ⟨w.heap.size + 1, 0, none⟩) 4 4] 29) := ⟨_, rfl⟩
  obtain ⟨hT, bA⟩ := laidk w hwA
  have P := plain_any 1000 _ 2 2 _ false wA hT (by omega) (tk_le _ _)
  rw [show ((1000 : Nat) : Int) = 1000 from rfl] at P
  have HWA : Hid (wA = _) := hwA
  clear hT hwA
  go_enter Try.func13, Try.ntmps13
  go_wp2_with fail
  rw [← HWA.out]
  refine P.mono ?_
  rintro e w1 ⟨g1, len, c1, z, rfl, hL, b1, hP⟩
  have B1 := bA.trans (b1.mono bA.size)
  have hle := hP.le
  have O := opens_any _ len c1 z w1 hL (by omega)
  clear P hL
  go_wp2_with fail
  refine O.mono ?_
  rintro e w2 ⟨b2, ⟨ho, _⟩ | ⟨_, p, q, rfl, hF, hR⟩⟩
  · exact (ho.out hP.ok).elim
  have B2 := B1.trans (b2.mono B1.size)
  clear O hR b1 b2 B1 bA
  have N := font_any none 0 0 (fun _ => hdT) none 0 (tk 0 0) w2 (Strs.none _ _) (Tabs.none _ _) (by omega) rfl (by simp [sumN])
  go_wp2_with fail
  refine N.mono ?_
  rintro e w3 ⟨g3, c3, rfl, hL3, b3⟩
  have B3 := B2.trans (b3.mono B2.size)
  have hF3 := hF.below b3 (Nat.le_refl _)
  have hl3 := layB_len (s := fun _ => hdT) (t := tk 0 0) (n := 0) rfl
  have hok3 := (laid_ok (s := fun _ => hdT) (t := tk 0 0) (n := 0) rfl (by omega) (by simp [sumN])).2
  have hn1 := look_none (fun _ => hdT) (tk 0 0) hdT
  obtain ⟨z3, hz3⟩ : ∃ x, zb (layB (fun _ => hdT) (tk 0 0) 0) = x := ⟨_, rfl⟩
  obtain ⟨l3, hl3'⟩ : ∃ x, (layB (fun _ => hdT) (tk 0 0) 0).length = x := ⟨_, rfl⟩
  rw [hz3] at hL3 hok3 hn1
  rw [hl3'] at hL3 hok3 hl3 ⊢
  have hl3b : l3 = 12 := by rw [hl3]; simp [sumN]
  clear hl3 hl3'
  subst hl3b
  have O3 := opens_any _ 12 c3 z3 w3 hL3 (by omega)
  clear N hL3 hF b3 B2
  go_wp2_with fail
  refine O3.mono ?_
  rintro e w4 ⟨b4, ⟨ho, _⟩ | ⟨_, p4, q4, rfl, hF4, hR4⟩⟩
  · exact (ho.out hok3).elim
  have B4 := B3.trans (b4.mono B3.size)
  have G4 := hF3.below b4 (Nat.le_refl _)
  have R4 := read_any p4 12 z3 w4 hF4
  have hr3 : rdE (look z3 hdT) (look z3 mxT) = 6 := by rw [hn1]; rfl
  have hr4 : rdM (look z3 hdT) (look z3 mxT) = zmt := by unfold rdM; rw [hr3]; rfl
  rw [hr3, hr4, show ((6 : Nat) : Int) = 6 from rfl] at R4
  have n34 := ptr_no34 p
  have n35 := ptr_no34 p4
  clear O3 hF3 b4 B3 hR4 hF4 hr3 hr4 hn1 hok3
  go_wp2_with fail
  refine R4.mono ?_
  rintro e w5 ⟨b5, rfl⟩
  have B5 := B4.trans (b5.mono B4.size)
  have G5 := G4.below b5 (Nat.le_refl _)
  clear R4 G4 b5 B4
  have HRE : Hid (rdE (look z hdT) (look z mxT) = 0) := by show _ = _; unfold rdE; rw [hP.hdE (by omega), hP.mxE (by omega)]; rfl
  have R6 := fun W (hh : FOk W p len z) => read_any p len z W hh
  simp only [hP.rdM (by omega) (by omega) HRE.out, HRE.out] at R6
  simp only [show (⟨((1000 : Nat) : Int), ((2 : Nat) : Int), false⟩ : Mt) = ⟨1000, 2, false⟩ from rfl, show ((0 : Nat) : Int) = 0 from rfl] at R6
  have HQ := fun W (hh : FOk W p len z) => range_any p len z ⟨1000, 2, false⟩ 1 W hh (by simp)
  have HV : rngv (look z lcT) (look z gfT) 2 false 1 = (2, 6, 0) := by
    unfold rngv
    rw [if_neg (by omega)]
    show rngO (look z lcT) (look z gfT) false 1 = _
    rw [hP.rng (by omega) (tk_le _ _) (k := 1) (by omega), (glen_tk _ _).1, (glen_tk _ _).2]
  simp only [HV] at HQ
  have heq : ∀ W : World, (binOp .eql 23 (.agg #[.int .i64 1000, .int .i64 2, .bool false]) (.agg #[.int .i64 1000, .int .i64 2, .bool false])).run Try.prog W = .ok (.bool true) W := fun W => by kernel_rfl
  clear hP HV HRE
  obtain ⟨w6, hw6⟩ : ∃ x, x = (w5.alloc (.cells #[.int .i64 0, .int .i64 0, .bool false] 23)).setRow w5.heap.size (mcs zmt) := ⟨_, rfl⟩
  have b6 : Below w5.heap.size w5 w6 := by rw [hw6]; exact below_row ((Below.refl _ _).alloc (Nat.le_refl _) _) (Nat.le_refl _) _
  have HW6 : Hid (w6 = _) := hw6
  have K5 := blk_new w5 (.cells #[.int .i64 0, .int .i64 0, .bool false] 23)
  have B6 := B5.trans (b6.mono B5.size)
  have G6 := G5.below b6 (Nat.le_refl _)
  clear hw6 b6 B5 G5
  go_wp2_with (refine store_mt' size23 HW6 K5 rfl _ _ (by rfl) (by rfl) (by rfl) (by rfl) ?_)
  refine (R6 w6 G6).mono ?_
  rintro e w7 ⟨b7, rfl⟩
  have B7 := B6.trans (b7.mono B6.size)
  have G7 := G6.below b7 (Nat.le_refl _)
  obtain ⟨w8, hw8⟩ : ∃ x, x = (w7.alloc (.cells #[.int .i64 0, .int .i64 0, .bool false] 23)).setRow w7.heap.size (mcs ⟨1000, 2, false⟩) := ⟨_, rfl⟩
  have b8 : Below w7.heap.size w7 w8 := by rw [hw8]; exact below_row ((Below.refl _ _).alloc (Nat.le_refl _) _) (Nat.le_refl _) _
  have K7 := blk_new w7 (.cells #[.int .i64 0, .int .i64 0, .bool false] 23)
  have K8 : w8.heap[w7.heap.size]? = some (.cells (mcs ⟨1000, 2, false⟩) 23) := by rw [hw8]; exact setRow_heap _ _ _ _ _ _ K7
  have HW8 : Hid (w8 = _) := hw8
  have B8 := B7.trans (b8.mono B7.size)
  have G8 := G7.below b8 (Nat.le_refl _)
  clear hw8 b8 B7 G7 b7 B6 G6 R6 K5 HW6
  go_wp2_with (first
    | (refine store_mt' size23 HW8 K7 rfl _ _ (by rfl) (by rfl) (by rfl) (by rfl) ?_)
    | (refine wpList_load_row (by rfl) 23 _ (by rfl) w7.heap.size (by rfl) 23 (mcs ⟨1000, 2, false⟩) _ _ K8 Try.underlying23 rfl (by rw [size23]; rfl) ?_))
  refine (HQ w8 G8).mono ?_
  rintro e w9 ⟨b9, rfl⟩
  have B9 := B8.trans (b9.mono B8.size)
  have K9 := Below.blk b9 K8 (blk_lt K8)
  unfold rval
  clear HQ K7 HW8 G8 K8 b9 B8
  obtain ⟨d0, d1, d2⟩ := mt_cells K9
  simp only at d0 d1 d2
  go_wp2
  go_ret
  exact ⟨rfl, B9⟩
end Go.Proofs.Ytninhcnpjadjpaa
