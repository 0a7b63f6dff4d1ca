/-
  versalhand.Pick, Few; the reference's Big of four bytes.
-/
import Derived.Test.YtninhcnpjadjpaaRow
namespace Go.Proofs.Ytninhcnpjadjpaa
open Go.RowKit

theorem pick_neg (n m : Int) (hm : 0 < m) (h : n.tmod m < 0) : n.tmod m + m = n % m := by
  have h1 := Int.tmod_eq_emod (a := n) (b := m)
  have h2 := Int.emod_nonneg n (by omega : m ≠ 0)
  split at h1 <;> omega
theorem pick_pos (n m : Int) (hm : 0 < m) (h : 0 ≤ n.tmod m) : n.tmod m = n % m := by
  have h1 := Int.tmod_eq_emod (a := n) (b := m)
  have h2 := Int.emod_lt_of_pos n hm
  split at h1 <;> omega
theorem tmod_bd (n m : Int) (hm : 0 < m) : -m < n.tmod m ∧ n.tmod m < m :=
  ⟨Int.neg_lt_of_neg_lt (by have := Int.tmod_lt_of_pos (-n) hm; rw [Int.neg_tmod] at this; exact this), Int.tmod_lt_of_pos n hm⟩
/-- One of 0 to m - 1. -/
def pickv (n : Int) (m : Nat) : Nat := (n % (m : Int)).toNat
theorem pickv_lt (n : Int) (m : Nat) (hm : 0 < m) : pickv n m < m := by
  have h2 := Int.emod_nonneg n (by omega : (m : Int) ≠ 0)
  have h3 := Int.emod_lt_of_pos n (by omega : (0 : Int) < m)
  unfold pickv; omega
set_option maxHeartbeats 400000 in
/-- Pick among many. -/
theorem pick_big (n : Int) (m : Nat) (hm : 0 < m) (hm2 : m ≤ 1500000000000000) (w : World) :
    Calls Try.prog 15 #[.int .i64 n, .int .i64 (m : Nat)] w fun e w' => e = .returned (.int .i64 (pickv n m : Nat)) ∧ w' = w := by
  have hb := tmod_bd n m (by omega)
  have h2 := Int.emod_nonneg n (by omega : (m : Int) ≠ 0)
  have hk : ((pickv n m : Nat) : Int) = n % (m : Int) := by unfold pickv; omega
  have hne : ¬ (m : Int) = 0 := by omega
  by_cases hz : n.tmod m < 0
  · have e := pick_neg n m (by omega) hz
    have E : Hid (n.tmod m + m = n % m) := e
    have HK : Hid (((pickv n m : Nat) : Int) = n % m) := hk
    clear e h2 hk
    go_enter Try.func15, Try.ntmps15
    go_wp2
    go_ret
    exact ⟨ret_int (by rw [HK.out, ← E.out]), rfl⟩
  · have e := pick_pos n m (by omega) (by omega)
    have E : Hid (n.tmod m = n % m) := e
    have HK : Hid (((pickv n m : Nat) : Int) = n % m) := hk
    clear e h2 hk
    go_enter Try.func15, Try.ntmps15
    go_wp2
    go_ret
    exact ⟨ret_int (by rw [HK.out, ← E.out]), rfl⟩
theorem xor_u8 (x y : Nat) (hx : x < 256) (hy : y < 256) : ∃ X : Nat, bits .xor .u8 (x : Int) (y : Int) = (X : Nat) ∧ X < 256 ∧ (X = x ↔ y = 0) := by
  have hlt : x ^^^ y < 2 ^ 8 := Nat.xor_lt_two_pow (by omega) (by omega)
  refine ⟨x ^^^ y, ?_, by omega, ?_⟩
  · have h1 : (BitVec.ofInt 8 (x : Int) ^^^ BitVec.ofInt 8 (y : Int)).toNat = x ^^^ y := by
      rw [BitVec.toNat_xor]
      congr 1 <;> simp <;> omega
    show IntKind.wrap .u8 (((BitVec.ofInt 8 (x : Int) ^^^ BitVec.ofInt 8 (y : Int)).toNat : Nat) : Int) = _
    rw [h1]
    simp [IntKind.wrap, IntKind.signed, IntKind.bits]
    omega
  · constructor
    · intro h
      have h2 : x ^^^ (x ^^^ y) = x ^^^ x := by rw [h]
      rwa [← Nat.xor_assoc, Nat.xor_self, Nat.zero_xor] at h2
    · intro h; rw [h, Nat.xor_zero]
theorem byt_set {xs : List Int} (h : Byt xs) (j X : Nat) (hX : X < 256) : Byt (xs.set j ((X : Nat) : Int)) := fun i => by
  rw [List.getD_eq_getElem?_getD, List.getElem?_set]
  by_cases e : j = i
  · subst e
    by_cases hl : j < xs.length
    · simp [hl]; omega
    · simp [hl]
  · rw [if_neg e, ← List.getD_eq_getElem?_getD]; exact h i
theorem Own.take {w : World} {base g c k : Nat} {xs : List Int} (h : Own w base 5 .u8 g c xs) (hk : k ≤ xs.length) : Own w base 5 .u8 g c (xs.take k) := by
  refine ⟨by simp, .inr ?_⟩
  rcases h.2 with ⟨h', _⟩ | ⟨g', cap', cur, h', h1, h2, h3, h4, h5, h6⟩
  · simp at h'
  · simp only [Value.slice.injEq, Option.some.injEq, Addr.mk.injEq, and_true, true_and] at h'
    obtain ⟨rfl, rfl⟩ := h'
    refine ⟨g, c, cur, rfl, h1, h2, by simp; omega, h4, h5, ?_⟩
    rw [Nat.mul_one] at h6 ⊢
    rw [List.length_take, Nat.min_eq_left hk, List.map_take, ← h6, List.take_take, Nat.min_eq_left hk]
theorem byt_take {xs : List Int} (h : Byt xs) (k : Nat) : Byt (xs.take k) := fun i => by
  rw [List.getD_eq_getElem?_getD, List.getElem?_take]
  split
  · rw [← List.getD_eq_getElem?_getD]; exact h i
  · simp
theorem few_src {w : World} {a : Option Addr} {len cap k : Nat} {z : Nat → Nat} (h : Lies w a len cap z) (hk : k ≤ len) (hl : k ≤ 150000000000000) :
    ∃ g' cap' w', (Builtin.append_ #[29, 29] 29 #[.slice (some ⟨w.heap.size, 0, none⟩) 0 0, .slice a k cap]).run Try.prog (w.alloc (.cells #[] 5)) = .ok (.slice (some ⟨g', 0, none⟩) k cap') w' ∧ (Own w' w.heap.size 5 .u8 g' cap' (byt z 0 k) ∧ Below w.heap.size w w') := by
  have be : Below w.heap.size w (w.alloc (.cells #[] 5)) := (Below.refl _ _).alloc (Nat.le_refl _) _
  have hb := h.below be (Nat.le_refl _)
  have hk' : Lies (w.alloc (.cells #[] 5)) a k cap z := ⟨by have := hb.lc; omega, by have := hb.reach; omega, hb.byte, fun h0 => by
    obtain ⟨b, o, e, h1, h2⟩ := hb.spot (by omega)
    exact ⟨b, o, e, h1, fun i hi => h2 i (by omega)⟩⟩
  have EB := blk_new w (.cells #[] 5)
  have OE : Own (w.alloc (.cells #[] 5)) w.heap.size 5 .u8 w.heap.size 0 [] := ⟨rfl, .inr ⟨w.heap.size, 0, #[], rfl, Nat.le_refl _, EB, Nat.le_refl _, by unfold maxLen; omega, rfl, rfl⟩⟩
  obtain ⟨g', c', w', h1, h2, h3, h4⟩ := app_on (N := 0) (cm := cap) be OE (Own.srcB hk') rfl (by simp; omega)
  rw [Nat.zero_add] at h1
  exact ⟨g', c', w', h1, h2, h3⟩
set_option maxRecDepth 100000 in
set_option maxHeartbeats 800000 in
theorem few_up (a : Option Addr) (len cap m k : Nat) (z : Nat → Nat) (w : World) (h : Lies w a len cap z) (hl : len ≤ 150000000000000) (hm : m ≤ 150000000000000) (hk : k = min len m) :
    Calls Try.prog 14 #[.slice a len cap, .int .i64 (m : Nat)] w fun e w' => ∃ g c, e = .returned (.slice (some ⟨g, 0, none⟩) k c) ∧ Own w' w.heap.size 5 .u8 g c (byt z 0 k) ∧ Below w.heap.size w w' := by
  have hlc := h.lc
  have hkl : k ≤ len := by omega
  have HA : Hid (_) := few_src h hkl (by omega)
  by_cases hml : m < len
  · obtain rfl : k = m := by omega
    have hml' : (k : Int) < len := by omega
    have hkc : (k : Int) ≤ cap := by omega
    obtain ⟨b, o, rfl, _⟩ := h.spot (by omega)
    clear hk h
    go_enter Try.func14, Try.ntmps14
    go_wp2_with (at_builtin; refine wpList_append_ex rfl (.tmp 5) (.tmp 11) 29 rfl rfl rfl HA.out ?_; rintro g1 c1 w1 hR1; have HR : Hid (_) := hR1; clear hR1)
    go_ret
    exact ⟨g1, c1, rfl, HR.out.1, HR.out.2⟩
  · obtain rfl : k = len := by omega
    have hml' : ¬ (m : Int) < k := by omega
    clear hk
    rcases a with _ | ad
    · have hl0 : k = 0 := by
        rcases Nat.eq_zero_or_pos k with h0 | h0
        · exact h0
        · obtain ⟨b, o, e, _⟩ := h.spot h0; cases e
      subst hl0
      clear h
      go_enter Try.func14, Try.ntmps14
      go_wp2_with (at_builtin; refine wpList_append_ex rfl (.tmp 5) (.tmp 11) 29 rfl rfl rfl HA.out ?_; rintro g1 c1 w1 hR1; have HR : Hid (_) := hR1; clear hR1)
      go_ret
      exact ⟨g1, c1, rfl, HR.out.1, HR.out.2⟩
    · clear h
      go_enter Try.func14, Try.ntmps14
      go_wp2_with (at_builtin; refine wpList_append_ex rfl (.tmp 5) (.tmp 11) 29 rfl rfl rfl HA.out ?_; rintro g1 c1 w1 hR1; have HR : Hid (_) := hR1; clear hR1)
      go_ret
      exact ⟨g1, c1, rfl, HR.out.1, HR.out.2⟩
/-- The reference's Big of four bytes. -/
theorem big_take (s : Nat) (hs : s < 4294967296) : ∀ k, k < 4 → (bigL s).take (k + 1) = (bigL s).take k ++ [((s / 2 ^ (8 * (3 - k)) % 256 : Nat) : Int)] := by
  intro k hk
  rcases (show k = 0 ∨ k = 1 ∨ k = 2 ∨ k = 3 by omega) with rfl | rfl | rfl | rfl <;> simp [bigL] <;> omega
set_option maxRecDepth 100000 in
set_option maxHeartbeats 1600000 in
theorem big_any (s : Nat) (hs : s < 4294967296) (w : World) :
    Calls Try.prog 33 #[.int .i64 (s : Nat), .int .i64 4] w fun e w' => ∃ g c, e = .returned (.slice (some ⟨g, 0, none⟩) 4 c) ∧ Own w' w.heap.size 5 .u8 g c (bigL s) ∧ Below w.heap.size w w' := by
  go_enter Try.func33, Try.ntmps33
  go_wp2_with fail
  go_loopw [5, 6] (fun v i wq => ∃ (k : Nat) (j : Int), i = .int .i64 j ∧ Hid (k ≤ 4 ∧ j = 3 - (k : Int)) ∧ OwnV wq w.heap.size 5 .u8 v ((bigL s).take k) ∧ Below w.heap.size w wq) (fun _ i _ => (intOf i + 1).toNat)
  case atStart => exact ⟨0, 3, rfl, ⟨by omega, rfl⟩, ownv_nil _ _ _ _, Below.refl _ _⟩
  case round =>
    obtain ⟨k, j, rfl, hk, hO, hB⟩ := hrel
    rcases (show k = 0 ∨ k = 1 ∨ k = 2 ∨ k = 3 ∨ k = 4 by have := hk.out.1; omega) with rfl | rfl | rfl | rfl | rfl
    · obtain rfl : j = 3 := hk.out.2
      obtain ⟨av, cv, hv⟩ := hO.form
      obtain rfl : _ = Value.slice av 0 cv := hv
      obtain ⟨X, hX⟩ : ∃ X : Nat, (s : Int) / 16777216 = X := ⟨s / 16777216 % 256, by omega⟩
      have hx : Hid ((bigL s).take 1 = (bigL s).take 0 ++ [((X : Nat) : Int)]) := by show _ = _; rw [← hX]; rfl
      obtain ⟨W, hW⟩ : ∃ W, W = wr.alloc (.cells #[.int .u8 (X : Nat)] 5) := ⟨_, rfl⟩
      have bW : Below wr.heap.size wr W := by rw [hW]; exact (Below.refl _ _).alloc (Nat.le_refl _) _
      have happ : ∃ g' cap' w', (Builtin.append_ #[29, 29] 29 #[.slice av 0 cv, .slice (some ⟨wr.heap.size, 0, none⟩) 1 1]).run Try.prog W = .ok (.slice (some ⟨g', 0, none⟩) (0 + 1) cap') w' ∧ _ := (hO.below bW).one (Nat.le_trans hB.size bW.size) (C := wr.heap.size) (x := (X : Nat)) (by rw [hW]; exact blk_new _ _) (by simp [bigL])
      have hBW := hB.trans (bW.mono hB.size)
      have HW : Hid (W = _) := hW
      rw [hW] at happ
      have HAP : Hid (_) := happ
      have HG : ∀ k', (Value.slice av 0 cv).ownBlock = some k' → w.heap.size ≤ k' := fun k' hk' => (World.ownsRow.lt hO k' hk').1
      clear happ hO hW hk
      go_wp2_with (at_builtin; refine wpList_append_ex rfl (.tmp 13) (.tmp 20) 29 rfl rfl rfl HAP.out ?_; rintro g' c' w1 hR1; have HR : Hid (_) := hR1; clear hR1)
      refine ⟨⟨1, 2, by go_num, ⟨by omega, rfl⟩, ?_, ?_⟩, by simp [intOf]⟩
      · rw [hx.out]
        exact own_v HR.out.1 (by simp [bigL])
      · have := HR.out.2.1
        rw [← HW.out] at this
        exact hBW.grown this (Nat.le_trans hB.size bW.size) HG
    · obtain rfl : j = 2 := hk.out.2
      obtain ⟨av, cv, hv⟩ := hO.form
      obtain rfl : _ = Value.slice av 1 cv := hv
      obtain ⟨X, hX⟩ : ∃ X : Nat, (s : Int) / 65536 % 256 = X := ⟨s / 65536 % 256, by omega⟩
      have hx : Hid ((bigL s).take 2 = (bigL s).take 1 ++ [((X : Nat) : Int)]) := by show _ = _; rw [← hX]; rfl
      obtain ⟨W, hW⟩ : ∃ W, W = wr.alloc (.cells #[.int .u8 (X : Nat)] 5) := ⟨_, rfl⟩
      have bW : Below wr.heap.size wr W := by rw [hW]; exact (Below.refl _ _).alloc (Nat.le_refl _) _
      have happ : ∃ g' cap' w', (Builtin.append_ #[29, 29] 29 #[.slice av 1 cv, .slice (some ⟨wr.heap.size, 0, none⟩) 1 1]).run Try.prog W = .ok (.slice (some ⟨g', 0, none⟩) (1 + 1) cap') w' ∧ _ := (hO.below bW).one (Nat.le_trans hB.size bW.size) (C := wr.heap.size) (x := (X : Nat)) (by rw [hW]; exact blk_new _ _) (by simp [bigL])
      have hBW := hB.trans (bW.mono hB.size)
      have HW : Hid (W = _) := hW
      rw [hW] at happ
      have HAP : Hid (_) := happ
      have HG : ∀ k', (Value.slice av 1 cv).ownBlock = some k' → w.heap.size ≤ k' := fun k' hk' => (World.ownsRow.lt hO k' hk').1
      clear happ hO hW hk
      go_wp2_with (at_builtin; refine wpList_append_ex rfl (.tmp 13) (.tmp 20) 29 rfl rfl rfl HAP.out ?_; rintro g' c' w1 hR1; have HR : Hid (_) := hR1; clear hR1)
      refine ⟨⟨2, 1, by go_num, ⟨by omega, rfl⟩, ?_, ?_⟩, by simp [intOf]⟩
      · rw [hx.out]
        exact own_v HR.out.1 (by simp [bigL])
      · have := HR.out.2.1
        rw [← HW.out] at this
        exact hBW.grown this (Nat.le_trans hB.size bW.size) HG
    · obtain rfl : j = 1 := hk.out.2
      obtain ⟨av, cv, hv⟩ := hO.form
      obtain rfl : _ = Value.slice av 2 cv := hv
      obtain ⟨X, hX⟩ : ∃ X : Nat, (s : Int) / 256 % 256 = X := ⟨s / 256 % 256, by omega⟩
      have hx : Hid ((bigL s).take 3 = (bigL s).take 2 ++ [((X : Nat) : Int)]) := by show _ = _; rw [← hX]; rfl
      obtain ⟨W, hW⟩ : ∃ W, W = wr.alloc (.cells #[.int .u8 (X : Nat)] 5) := ⟨_, rfl⟩
      have bW : Below wr.heap.size wr W := by rw [hW]; exact (Below.refl _ _).alloc (Nat.le_refl _) _
      have happ : ∃ g' cap' w', (Builtin.append_ #[29, 29] 29 #[.slice av 2 cv, .slice (some ⟨wr.heap.size, 0, none⟩) 1 1]).run Try.prog W = .ok (.slice (some ⟨g', 0, none⟩) (2 + 1) cap') w' ∧ _ := (hO.below bW).one (Nat.le_trans hB.size bW.size) (C := wr.heap.size) (x := (X : Nat)) (by rw [hW]; exact blk_new _ _) (by simp [bigL])
      have hBW := hB.trans (bW.mono hB.size)
      have HW : Hid (W = _) := hW
      rw [hW] at happ
      have HAP : Hid (_) := happ
      have HG : ∀ k', (Value.slice av 2 cv).ownBlock = some k' → w.heap.size ≤ k' := fun k' hk' => (World.ownsRow.lt hO k' hk').1
      clear happ hO hW hk
      go_wp2_with (at_builtin; refine wpList_append_ex rfl (.tmp 13) (.tmp 20) 29 rfl rfl rfl HAP.out ?_; rintro g' c' w1 hR1; have HR : Hid (_) := hR1; clear hR1)
      refine ⟨⟨3, 0, by go_num, ⟨by omega, rfl⟩, ?_, ?_⟩, by simp [intOf]⟩
      · rw [hx.out]
        exact own_v HR.out.1 (by simp [bigL])
      · have := HR.out.2.1
        rw [← HW.out] at this
        exact hBW.grown this (Nat.le_trans hB.size bW.size) HG
    · obtain rfl : j = 0 := hk.out.2
      obtain ⟨av, cv, hv⟩ := hO.form
      obtain rfl : _ = Value.slice av 3 cv := hv
      obtain ⟨X, hX⟩ : ∃ X : Nat, (s : Int) % 256 = X := ⟨s / 1 % 256, by omega⟩
      have hx : Hid ((bigL s).take 4 = (bigL s).take 3 ++ [((X : Nat) : Int)]) := by show _ = _; rw [← hX]; rfl
      obtain ⟨W, hW⟩ : ∃ W, W = wr.alloc (.cells #[.int .u8 (X : Nat)] 5) := ⟨_, rfl⟩
      have bW : Below wr.heap.size wr W := by rw [hW]; exact (Below.refl _ _).alloc (Nat.le_refl _) _
      have happ : ∃ g' cap' w', (Builtin.append_ #[29, 29] 29 #[.slice av 3 cv, .slice (some ⟨wr.heap.size, 0, none⟩) 1 1]).run Try.prog W = .ok (.slice (some ⟨g', 0, none⟩) (3 + 1) cap') w' ∧ _ := (hO.below bW).one (Nat.le_trans hB.size bW.size) (C := wr.heap.size) (x := (X : Nat)) (by rw [hW]; exact blk_new _ _) (by simp [bigL])
      have hBW := hB.trans (bW.mono hB.size)
      have HW : Hid (W = _) := hW
      rw [hW] at happ
      have HAP : Hid (_) := happ
      have HG : ∀ k', (Value.slice av 3 cv).ownBlock = some k' → w.heap.size ≤ k' := fun k' hk' => (World.ownsRow.lt hO k' hk').1
      clear happ hO hW hk
      go_wp2_with (at_builtin; refine wpList_append_ex rfl (.tmp 13) (.tmp 20) 29 rfl rfl rfl HAP.out ?_; rintro g' c' w1 hR1; have HR : Hid (_) := hR1; clear hR1)
      refine ⟨⟨4, -1, by go_num, ⟨by omega, rfl⟩, ?_, ?_⟩, by simp [intOf]⟩
      · rw [hx.out]
        exact own_v HR.out.1 (by simp [bigL])
      · have := HR.out.2.1
        rw [← HW.out] at this
        exact hBW.grown this (Nat.le_trans hB.size bW.size) HG
    · obtain rfl : j = -1 := hk.out.2
      obtain ⟨g, c, rfl, ho⟩ := OwnV.own (xs := bigL s) hO (by simp [bigL])
      clear hO hk
      go_wp2
      go_ret
      exact ⟨g, c, rfl, ho, hB⟩
end Go.Proofs.Ytninhcnpjadjpaa
