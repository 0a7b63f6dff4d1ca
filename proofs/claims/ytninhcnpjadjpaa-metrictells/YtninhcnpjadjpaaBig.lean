/-
  The reference's Big of two bytes and of four, of any number; versalhand.big.
-/
import Derived.Test.YtninhcnpjadjpaaRow
namespace Go.Proofs.Ytninhcnpjadjpaa
open Go.RowKit

/-- The low 16 bits, the low 32 bits, the highest byte first. -/
def wd2 (s : Nat) : List Int := [(s : Int) / 256 % 256, (s : Int) % 256]
def wd4 (s : Nat) : List Int := [(s : Int) / 16777216 % 256, (s : Int) / 65536 % 256, (s : Int) / 256 % 256, (s : Int) % 256]
theorem wd2_len (s : Nat) : (wd2 s).length = 2 := rfl
theorem wd4_len (s : Nat) : (wd4 s).length = 4 := rfl
theorem wd2_byt (s : Nat) : Byt (wd2 s) := fun i => by
  unfold wd2
  rcases i with _ | _ | i
  · simp; omega
  · simp; omega
  · simp
theorem wd4_byt (s : Nat) : Byt (wd4 s) := fun i => by
  unfold wd4
  rcases i with _ | _ | _ | _ | i
  · simp; omega
  · simp; omega
  · simp; omega
  · simp; omega
  · simp
theorem wd4_big {s : Nat} (hs : s < 4294967296) : wd4 s = bigL s := by unfold wd4 bigL; rw [show (s : Int) / 16777216 % 256 = (s : Int) / 16777216 by omega]
set_option maxRecDepth 100000 in
set_option maxHeartbeats 1600000 in
theorem big2w (s : Nat) (w : World) :
    Calls Try.prog 33 #[.int .i64 (s : Nat), .int .i64 2] w fun e w' => ∃ g c, e = .returned (.slice (some ⟨g, 0, none⟩) 2 c) ∧ Own w' w.heap.size 5 .u8 g c (wd2 s) ∧ Below w.heap.size w w' := by
  go_enter Try.func33, Try.ntmps33
  go_wp2_with fail
  go_loopw [5, 6] (fun v i wq => ∃ (k : Nat) (j : Int), i = .int .i64 j ∧ Hid (k ≤ 2 ∧ j = 1 - (k : Int)) ∧ OwnV wq w.heap.size 5 .u8 v ((wd2 s).take k) ∧ Below w.heap.size w wq) (fun _ i _ => (intOf i + 1).toNat)
  case atStart => exact ⟨0, 1, rfl, ⟨by omega, rfl⟩, ownv_nil _ _ _ _, Below.refl _ _⟩
  case round =>
    obtain ⟨k, j, rfl, hk, hO, hB⟩ := hrel
    rcases (show k = 0 ∨ k = 1 ∨ k = 2 by have := hk.out.1; omega) with rfl | rfl | rfl
    · obtain rfl : j = 1 := hk.out.2
      obtain ⟨av, cv, hv⟩ := hO.form
      obtain rfl : _ = Value.slice av 0 cv := hv
      obtain ⟨X, hX⟩ : ∃ X : Nat, (s : Int) / 256 % 256 = X := ⟨s / 256 % 256, by omega⟩
      have hx : Hid ((wd2 s).take 1 = (wd2 s).take 0 ++ [((X : Nat) : Int)]) := by show _ = _; rw [← hX]; rfl
      obtain ⟨W, hW⟩ : ∃ W, W = wr.alloc (.cells #[.int .u8 (X : Nat)] 5) := ⟨_, rfl⟩
      have bW : Below wr.heap.size wr W := by rw [hW]; exact (Below.refl _ _).alloc (Nat.le_refl _) _
      have happ : ∃ g' cap' w', (Builtin.append_ #[29, 29] 29 #[.slice av 0 cv, .slice (some ⟨wr.heap.size, 0, none⟩) 1 1]).run Try.prog W = .ok (.slice (some ⟨g', 0, none⟩) (0 + 1) cap') w' ∧ _ := (hO.below bW).one (Nat.le_trans hB.size bW.size) (C := wr.heap.size) (x := (X : Nat)) (by rw [hW]; exact blk_new _ _) (by simp [wd2])
      have hBW := hB.trans (bW.mono hB.size)
      have HW : Hid (W = _) := hW
      rw [hW] at happ
      have HAP : Hid (_) := happ
      have HG : ∀ k', (Value.slice av 0 cv).ownBlock = some k' → w.heap.size ≤ k' := fun k' hk' => (World.ownsRow.lt hO k' hk').1
      clear happ hO hW hk
      go_wp2_with (at_builtin; refine wpList_append_ex rfl (.tmp 13) (.tmp 20) 29 rfl rfl rfl HAP.out ?_; rintro g' c' w1 hR1; have HR : Hid (_) := hR1; clear hR1)
      refine ⟨⟨1, 0, by go_num, ⟨by omega, rfl⟩, ?_, ?_⟩, by simp [intOf]⟩
      · rw [hx.out]
        exact own_v HR.out.1 (by simp [wd2])
      · have := HR.out.2.1
        rw [← HW.out] at this
        exact hBW.grown this (Nat.le_trans hB.size bW.size) HG
    · obtain rfl : j = 0 := hk.out.2
      obtain ⟨av, cv, hv⟩ := hO.form
      obtain rfl : _ = Value.slice av 1 cv := hv
      obtain ⟨X, hX⟩ : ∃ X : Nat, (s : Int) % 256 = X := ⟨s % 256, by omega⟩
      have hx : Hid ((wd2 s).take 2 = (wd2 s).take 1 ++ [((X : Nat) : Int)]) := by show _ = _; rw [← hX]; rfl
      obtain ⟨W, hW⟩ : ∃ W, W = wr.alloc (.cells #[.int .u8 (X : Nat)] 5) := ⟨_, rfl⟩
      have bW : Below wr.heap.size wr W := by rw [hW]; exact (Below.refl _ _).alloc (Nat.le_refl _) _
      have happ : ∃ g' cap' w', (Builtin.append_ #[29, 29] 29 #[.slice av 1 cv, .slice (some ⟨wr.heap.size, 0, none⟩) 1 1]).run Try.prog W = .ok (.slice (some ⟨g', 0, none⟩) (1 + 1) cap') w' ∧ _ := (hO.below bW).one (Nat.le_trans hB.size bW.size) (C := wr.heap.size) (x := (X : Nat)) (by rw [hW]; exact blk_new _ _) (by simp [wd2])
      have hBW := hB.trans (bW.mono hB.size)
      have HW : Hid (W = _) := hW
      rw [hW] at happ
      have HAP : Hid (_) := happ
      have HG : ∀ k', (Value.slice av 1 cv).ownBlock = some k' → w.heap.size ≤ k' := fun k' hk' => (World.ownsRow.lt hO k' hk').1
      clear happ hO hW hk
      go_wp2_with (at_builtin; refine wpList_append_ex rfl (.tmp 13) (.tmp 20) 29 rfl rfl rfl HAP.out ?_; rintro g' c' w1 hR1; have HR : Hid (_) := hR1; clear hR1)
      refine ⟨⟨2, -1, by go_num, ⟨by omega, rfl⟩, ?_, ?_⟩, by simp [intOf]⟩
      · rw [hx.out]
        exact own_v HR.out.1 (by simp [wd2])
      · have := HR.out.2.1
        rw [← HW.out] at this
        exact hBW.grown this (Nat.le_trans hB.size bW.size) HG
    · obtain rfl : j = -1 := hk.out.2
      obtain ⟨g, c, rfl, ho⟩ := OwnV.own (xs := wd2 s) hO (by simp [wd2])
      clear hO hk
      go_wp2
      go_ret
      exact ⟨g, c, rfl, ho, hB⟩
set_option maxRecDepth 100000 in
set_option maxHeartbeats 1600000 in
theorem big4w (s : Nat) (w : World) :
    Calls Try.prog 33 #[.int .i64 (s : Nat), .int .i64 4] w fun e w' => ∃ g c, e = .returned (.slice (some ⟨g, 0, none⟩) 4 c) ∧ Own w' w.heap.size 5 .u8 g c (wd4 s) ∧ Below w.heap.size w w' := by
  go_enter Try.func33, Try.ntmps33
  go_wp2_with fail
  go_loopw [5, 6] (fun v i wq => ∃ (k : Nat) (j : Int), i = .int .i64 j ∧ Hid (k ≤ 4 ∧ j = 3 - (k : Int)) ∧ OwnV wq w.heap.size 5 .u8 v ((wd4 s).take k) ∧ Below w.heap.size w wq) (fun _ i _ => (intOf i + 1).toNat)
  case atStart => exact ⟨0, 3, rfl, ⟨by omega, rfl⟩, ownv_nil _ _ _ _, Below.refl _ _⟩
  case round =>
    obtain ⟨k, j, rfl, hk, hO, hB⟩ := hrel
    rcases (show k = 0 ∨ k = 1 ∨ k = 2 ∨ k = 3 ∨ k = 4 by have := hk.out.1; omega) with rfl | rfl | rfl | rfl | rfl
    · obtain rfl : j = 3 := hk.out.2
      obtain ⟨av, cv, hv⟩ := hO.form
      obtain rfl : _ = Value.slice av 0 cv := hv
      obtain ⟨X, hX⟩ : ∃ X : Nat, (s : Int) / 16777216 % 256 = X := ⟨s / 16777216 % 256, by omega⟩
      have hx : Hid ((wd4 s).take 1 = (wd4 s).take 0 ++ [((X : Nat) : Int)]) := by show _ = _; rw [← hX]; rfl
      obtain ⟨W, hW⟩ : ∃ W, W = wr.alloc (.cells #[.int .u8 (X : Nat)] 5) := ⟨_, rfl⟩
      have bW : Below wr.heap.size wr W := by rw [hW]; exact (Below.refl _ _).alloc (Nat.le_refl _) _
      have happ : ∃ g' cap' w', (Builtin.append_ #[29, 29] 29 #[.slice av 0 cv, .slice (some ⟨wr.heap.size, 0, none⟩) 1 1]).run Try.prog W = .ok (.slice (some ⟨g', 0, none⟩) (0 + 1) cap') w' ∧ _ := (hO.below bW).one (Nat.le_trans hB.size bW.size) (C := wr.heap.size) (x := (X : Nat)) (by rw [hW]; exact blk_new _ _) (by simp [wd4])
      have hBW := hB.trans (bW.mono hB.size)
      have HW : Hid (W = _) := hW
      rw [hW] at happ
      have HAP : Hid (_) := happ
      have HG : ∀ k', (Value.slice av 0 cv).ownBlock = some k' → w.heap.size ≤ k' := fun k' hk' => (World.ownsRow.lt hO k' hk').1
      clear happ hO hW hk
      go_wp2_with (at_builtin; refine wpList_append_ex rfl (.tmp 13) (.tmp 20) 29 rfl rfl rfl HAP.out ?_; rintro g' c' w1 hR1; have HR : Hid (_) := hR1; clear hR1)
      refine ⟨⟨1, 2, by go_num, ⟨by omega, rfl⟩, ?_, ?_⟩, by simp [intOf]⟩
      · rw [hx.out]
        exact own_v HR.out.1 (by simp [wd4])
      · have := HR.out.2.1
        rw [← HW.out] at this
        exact hBW.grown this (Nat.le_trans hB.size bW.size) HG
    · obtain rfl : j = 2 := hk.out.2
      obtain ⟨av, cv, hv⟩ := hO.form
      obtain rfl : _ = Value.slice av 1 cv := hv
      obtain ⟨X, hX⟩ : ∃ X : Nat, (s : Int) / 65536 % 256 = X := ⟨s / 65536 % 256, by omega⟩
      have hx : Hid ((wd4 s).take 2 = (wd4 s).take 1 ++ [((X : Nat) : Int)]) := by show _ = _; rw [← hX]; rfl
      obtain ⟨W, hW⟩ : ∃ W, W = wr.alloc (.cells #[.int .u8 (X : Nat)] 5) := ⟨_, rfl⟩
      have bW : Below wr.heap.size wr W := by rw [hW]; exact (Below.refl _ _).alloc (Nat.le_refl _) _
      have happ : ∃ g' cap' w', (Builtin.append_ #[29, 29] 29 #[.slice av 1 cv, .slice (some ⟨wr.heap.size, 0, none⟩) 1 1]).run Try.prog W = .ok (.slice (some ⟨g', 0, none⟩) (1 + 1) cap') w' ∧ _ := (hO.below bW).one (Nat.le_trans hB.size bW.size) (C := wr.heap.size) (x := (X : Nat)) (by rw [hW]; exact blk_new _ _) (by simp [wd4])
      have hBW := hB.trans (bW.mono hB.size)
      have HW : Hid (W = _) := hW
      rw [hW] at happ
      have HAP : Hid (_) := happ
      have HG : ∀ k', (Value.slice av 1 cv).ownBlock = some k' → w.heap.size ≤ k' := fun k' hk' => (World.ownsRow.lt hO k' hk').1
      clear happ hO hW hk
      go_wp2_with (at_builtin; refine wpList_append_ex rfl (.tmp 13) (.tmp 20) 29 rfl rfl rfl HAP.out ?_; rintro g' c' w1 hR1; have HR : Hid (_) := hR1; clear hR1)
      refine ⟨⟨2, 1, by go_num, ⟨by omega, rfl⟩, ?_, ?_⟩, by simp [intOf]⟩
      · rw [hx.out]
        exact own_v HR.out.1 (by simp [wd4])
      · have := HR.out.2.1
        rw [← HW.out] at this
        exact hBW.grown this (Nat.le_trans hB.size bW.size) HG
    · obtain rfl : j = 1 := hk.out.2
      obtain ⟨av, cv, hv⟩ := hO.form
      obtain rfl : _ = Value.slice av 2 cv := hv
      obtain ⟨X, hX⟩ : ∃ X : Nat, (s : Int) / 256 % 256 = X := ⟨s / 256 % 256, by omega⟩
      have hx : Hid ((wd4 s).take 3 = (wd4 s).take 2 ++ [((X : Nat) : Int)]) := by show _ = _; rw [← hX]; rfl
      obtain ⟨W, hW⟩ : ∃ W, W = wr.alloc (.cells #[.int .u8 (X : Nat)] 5) := ⟨_, rfl⟩
      have bW : Below wr.heap.size wr W := by rw [hW]; exact (Below.refl _ _).alloc (Nat.le_refl _) _
      have happ : ∃ g' cap' w', (Builtin.append_ #[29, 29] 29 #[.slice av 2 cv, .slice (some ⟨wr.heap.size, 0, none⟩) 1 1]).run Try.prog W = .ok (.slice (some ⟨g', 0, none⟩) (2 + 1) cap') w' ∧ _ := (hO.below bW).one (Nat.le_trans hB.size bW.size) (C := wr.heap.size) (x := (X : Nat)) (by rw [hW]; exact blk_new _ _) (by simp [wd4])
      have hBW := hB.trans (bW.mono hB.size)
      have HW : Hid (W = _) := hW
      rw [hW] at happ
      have HAP : Hid (_) := happ
      have HG : ∀ k', (Value.slice av 2 cv).ownBlock = some k' → w.heap.size ≤ k' := fun k' hk' => (World.ownsRow.lt hO k' hk').1
      clear happ hO hW hk
      go_wp2_with (at_builtin; refine wpList_append_ex rfl (.tmp 13) (.tmp 20) 29 rfl rfl rfl HAP.out ?_; rintro g' c' w1 hR1; have HR : Hid (_) := hR1; clear hR1)
      refine ⟨⟨3, 0, by go_num, ⟨by omega, rfl⟩, ?_, ?_⟩, by simp [intOf]⟩
      · rw [hx.out]
        exact own_v HR.out.1 (by simp [wd4])
      · have := HR.out.2.1
        rw [← HW.out] at this
        exact hBW.grown this (Nat.le_trans hB.size bW.size) HG
    · obtain rfl : j = 0 := hk.out.2
      obtain ⟨av, cv, hv⟩ := hO.form
      obtain rfl : _ = Value.slice av 3 cv := hv
      obtain ⟨X, hX⟩ : ∃ X : Nat, (s : Int) % 256 = X := ⟨s % 256, by omega⟩
      have hx : Hid ((wd4 s).take 4 = (wd4 s).take 3 ++ [((X : Nat) : Int)]) := by show _ = _; rw [← hX]; rfl
      obtain ⟨W, hW⟩ : ∃ W, W = wr.alloc (.cells #[.int .u8 (X : Nat)] 5) := ⟨_, rfl⟩
      have bW : Below wr.heap.size wr W := by rw [hW]; exact (Below.refl _ _).alloc (Nat.le_refl _) _
      have happ : ∃ g' cap' w', (Builtin.append_ #[29, 29] 29 #[.slice av 3 cv, .slice (some ⟨wr.heap.size, 0, none⟩) 1 1]).run Try.prog W = .ok (.slice (some ⟨g', 0, none⟩) (3 + 1) cap') w' ∧ _ := (hO.below bW).one (Nat.le_trans hB.size bW.size) (C := wr.heap.size) (x := (X : Nat)) (by rw [hW]; exact blk_new _ _) (by simp [wd4])
      have hBW := hB.trans (bW.mono hB.size)
      have HW : Hid (W = _) := hW
      rw [hW] at happ
      have HAP : Hid (_) := happ
      have HG : ∀ k', (Value.slice av 3 cv).ownBlock = some k' → w.heap.size ≤ k' := fun k' hk' => (World.ownsRow.lt hO k' hk').1
      clear happ hO hW hk
      go_wp2_with (at_builtin; refine wpList_append_ex rfl (.tmp 13) (.tmp 20) 29 rfl rfl rfl HAP.out ?_; rintro g' c' w1 hR1; have HR : Hid (_) := hR1; clear hR1)
      refine ⟨⟨4, -1, by go_num, ⟨by omega, rfl⟩, ?_, ?_⟩, by simp [intOf]⟩
      · rw [hx.out]
        exact own_v HR.out.1 (by simp [wd4])
      · have := HR.out.2.1
        rw [← HW.out] at this
        exact hBW.grown this (Nat.le_trans hB.size bW.size) HG
    · obtain rfl : j = -1 := hk.out.2
      obtain ⟨g, c, rfl, ho⟩ := OwnV.own (xs := wd4 s) hO (by simp [wd4])
      clear hO hk
      go_wp2
      go_ret
      exact ⟨g, c, rfl, ho, hB⟩

theorem hbig2 (s : Nat) (w : World) :
    Calls Try.prog 22 #[.int .i64 (s : Nat), .int .i64 2] w fun e w' => ∃ g c, e = .returned (.slice (some ⟨g, 0, none⟩) 2 c) ∧ Own w' w.heap.size 5 .u8 g c (wd2 s) ∧ Below w.heap.size w w' := by
  have B := big2w s w
  go_enter Try.func22, Try.ntmps22
  go_wp2_with fail
  refine B.mono ?_
  rintro e w' ⟨g, c, rfl, hO, hB⟩
  go_wp2
  go_ret
  exact ⟨g, c, rfl, hO, hB⟩
theorem hbig4 (s : Nat) (w : World) :
    Calls Try.prog 22 #[.int .i64 (s : Nat), .int .i64 4] w fun e w' => ∃ g c, e = .returned (.slice (some ⟨g, 0, none⟩) 4 c) ∧ Own w' w.heap.size 5 .u8 g c (wd4 s) ∧ Below w.heap.size w w' := by
  have B := big4w s w
  go_enter Try.func22, Try.ntmps22
  go_wp2_with fail
  refine B.mono ?_
  rintro e w' ⟨g, c, rfl, hO, hB⟩
  go_wp2
  go_ret
  exact ⟨g, c, rfl, hO, hB⟩
end Go.Proofs.Ytninhcnpjadjpaa
