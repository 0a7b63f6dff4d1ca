/-
  The law's own 'any', versalhand's Premul, 'known', as contracts.
-/
import Derived.Test.YtffkbombeaojjaaByt
import Derived.ProofKit
namespace Go.Proofs.Ytffkbombeaojjaa
open Go.RowKit

def Fits (n : Int) : Prop := -9223372036854775808 ≤ n ∧ n ≤ 9223372036854775807
/-- A pixel of raw numbers. -/
def anyv (l : Px) (raw : Bool) : Px := if raw = true then l else ⟨l.r % 256, l.g % 256, l.b % 256, l.a % 256⟩

set_option maxRecDepth 100000 in
set_option maxHeartbeats 1600000 in
theorem any_any (l : Px) (raw : Bool) (w : World) : Calls Try.prog 17 #[pv l, .bool raw] w fun r w' => r = .returned (pv (anyv l raw)) ∧ Below w.heap.size w w' := by
  cases raw
  · go_enter Try.func17, Try.ntmps17
    go_wp2_with fail
    obtain ⟨W, hW⟩ : ∃ W, W = (w.alloc (.cells #[.int .i64 l.r, .int .i64 l.g, .int .i64 l.b, .int .i64 l.a] 34)).alloc (.cells #[.int .i64 0, .int .i64 0, .int .i64 0, .int .i64 0] 23) := ⟨_, rfl⟩
    rw [← hW]
    have g1 : W.heap[w.heap.size]? = some (.cells (pcs l) 34) := by rw [hW]; exact blk_alloc (blk_new w _) _
    have g2 : W.heap[w.heap.size + 1]? = some (pblk ⟨0, 0, 0, 0⟩) := by rw [hW]; have := blk_new (w.alloc (.cells (pcs l) 34)) (pblk ⟨0, 0, 0, 0⟩); simp only [World.size_alloc] at this; exact this
    have b1 : Below w.heap.size w W := by rw [hW]; exact ((Below.refl _ w).alloc (Nat.le_refl _) _).alloc (by simp) _
    clear hW
    obtain ⟨c0, c1, c2, c3⟩ := px_ext g1
    have hin := Ext.inh W
    refine region_ext_tail 13 (by kernel_rfl) (by kernel_rfl) ?_
    simp only [List.take_succ_cons, List.take_zero, List.drop_succ_cons, List.drop_zero]
    repeat (go_big_quiet_step (first | (go_at_call 18; exact Ext.same (pick_det _ 256 (by omega) (by omega) _))))
    refine wpQuiet_nil ?_
    rintro W1 ⟨⟨_, hk⟩, rfl⟩
    replace g2 := Below.blk hk g2 (blk_lt g2)
    replace b1 := b1.trans (hk.mono b1.size)
    go_wp2_with (refine store_px g2 rfl _ _ ⟨l.r % 256, l.g % 256, l.b % 256, l.a % 256⟩ (by rfl) (by rfl) (by rfl) (by rfl) ?_)
    refine bodyPost_ret (res_px rfl _ _ _ _ _ _ rfl (setRow_heap _ _ _ _ _ _ g2) rfl) rfl ?_
    exact ⟨rfl, below_row b1 (by omega) _⟩
  · go_enter Try.func17, Try.ntmps17
    go_wp2
    refine bodyPost_ret (res_px rfl _ _ (w.heap.size + 1) 23 _ (0, 0) rfl (by simpa using blk_new (w.alloc (.cells (pcs l) 34)) (pblk l)) rfl) rfl ?_
    exact ⟨rfl, ((Below.refl _ _).alloc (Nat.le_refl _) _).alloc (by simp) _⟩

/-- A premultiplied pixel of one number. -/
def premA (n : Int) : Int := if n.tdiv 256 % 5 = 0 then 255 else if n.tdiv 256 % 5 = 1 then 0 else n % 256
def premulv (n : Int) : Px := ⟨n.tdiv 3 % (premA n + 1), n.tdiv 777 % (premA n + 1), n.tdiv 100003 % (premA n + 1), premA n⟩
theorem premA_bd (n : Int) : 0 ≤ premA n ∧ premA n ≤ 255 := by unfold premA; split <;> (try split) <;> omega
theorem premulv_pm (n : Int) : Pm (premulv n) := by
  obtain ⟨h1, h2⟩ := premA_bd n
  have h3 : ∀ x : Int, 0 ≤ x % (premA n + 1) ∧ x % (premA n + 1) ≤ premA n := fun x =>
    ⟨Int.emod_nonneg _ (by omega), by have := Int.emod_lt_of_pos x (show 0 < premA n + 1 by omega); omega⟩
  exact ⟨⟨(h3 _).1, Int.le_trans (h3 _).2 h2, (h3 _).1, Int.le_trans (h3 _).2 h2, (h3 _).1, Int.le_trans (h3 _).2 h2, h1, h2⟩, (h3 _).2, (h3 _).2, (h3 _).2⟩

set_option maxRecDepth 100000 in
set_option maxHeartbeats 1600000 in
theorem premul_any (n : Int) (hn : Fits n) (w : World) : Calls Try.prog 28 #[.int .i64 n] w fun r w' => r = .returned (pv (premulv n)) ∧ Below w.heap.size w w' := by
  obtain ⟨f1, f2⟩ := hn
  obtain ⟨h1, h2⟩ := premA_bd n
  have b1 : Below w.heap.size w (w.alloc (pblk ⟨0, 0, 0, 0⟩)) := (Below.refl _ w).alloc (Nat.le_refl _) _
  obtain ⟨A, hA⟩ : ∃ A, premA n = A := ⟨_, rfl⟩
  have HP : Hid (premulv n = ⟨n.tdiv 3 % (A + 1), n.tdiv 777 % (A + 1), n.tdiv 100003 % (A + 1), A⟩) := by show _ = _; rw [← hA]; rfl
  rw [hA] at h1 h2
  obtain ⟨K, hK⟩ : ∃ K, n.tdiv 256 % 5 = K := ⟨_, rfl⟩
  have HA : Hid (A = if K = 0 then 255 else if K = 1 then 0 else n % 256) := by show _ = _; rw [← hA, ← hK]; rfl
  have HK : Hid (n.tdiv 256 % 5 = K) := hK
  clear hA hK
  by_cases k0 : K = 0
  · subst k0
    obtain rfl : A = 255 := by rw [HA.out]; rfl
    go_enter Try.func28, Try.ntmps28
    go_wp2_with fail
    refine (pick_det n 256 (by omega) (by omega) _).mono ?_
    rintro e w' ⟨rfl, rfl⟩
    go_wp2_with fail
    refine (pick_det _ 5 (by omega) (by omega) _).mono ?_
    rintro e w' ⟨rfl, rfl⟩
    rw [HK.out]
    go_wp2_with fail
    refine (pick_det _ 256 (by omega) (by omega) _).mono ?_
    rintro e w' ⟨rfl, rfl⟩
    go_wp2_with fail
    refine (pick_det _ 256 (by omega) (by omega) _).mono ?_
    rintro e w' ⟨rfl, rfl⟩
    go_wp2_with fail
    refine (pick_det _ 256 (by omega) (by omega) _).mono ?_
    rintro e w' ⟨rfl, rfl⟩
    go_wp2
    refine bodyPost_ret (res_px rfl _ _ _ _ _ _ rfl (blk_new _ _) rfl) rfl ?_
    exact ⟨by rw [HP.out]; rfl, (Below.refl _ w).alloc (Nat.le_refl _) _⟩
  · by_cases k1 : K = 1
    · subst k1
      obtain rfl : A = 0 := by rw [HA.out]; rfl
      go_enter Try.func28, Try.ntmps28
      go_wp2_with fail
      refine (pick_det n 256 (by omega) (by omega) _).mono ?_
      rintro e w' ⟨rfl, rfl⟩
      go_wp2_with fail
      refine (pick_det _ 5 (by omega) (by omega) _).mono ?_
      rintro e w' ⟨rfl, rfl⟩
      rw [HK.out]
      go_wp2_with fail
      refine (pick_det _ 1 (by omega) (by omega) _).mono ?_
      rintro e w' ⟨rfl, rfl⟩
      go_wp2_with fail
      refine (pick_det _ 1 (by omega) (by omega) _).mono ?_
      rintro e w' ⟨rfl, rfl⟩
      go_wp2_with fail
      refine (pick_det _ 1 (by omega) (by omega) _).mono ?_
      rintro e w' ⟨rfl, rfl⟩
      go_wp2
      refine bodyPost_ret (res_px rfl _ _ _ _ _ _ rfl (blk_new _ _) rfl) rfl ?_
      exact ⟨by rw [HP.out]; simp, (Below.refl _ w).alloc (Nat.le_refl _) _⟩
    · have HE : Hid (n % 256 = A) := by show _ = _; rw [HA.out, if_neg k0, if_neg k1]
      go_enter Try.func28, Try.ntmps28
      go_wp2_with fail
      refine (pick_det n 256 (by omega) (by omega) _).mono ?_
      rintro e w' ⟨rfl, rfl⟩
      rw [HE.out]
      go_wp2_with fail
      refine (pick_det _ 5 (by omega) (by omega) _).mono ?_
      rintro e w' ⟨rfl, rfl⟩
      rw [HK.out]
      go_wp2_with fail
      refine (pick_det _ (A + 1) (by omega) (by omega) _).mono ?_
      rintro e w' ⟨rfl, rfl⟩
      go_wp2_with fail
      refine (pick_det _ (A + 1) (by omega) (by omega) _).mono ?_
      rintro e w' ⟨rfl, rfl⟩
      go_wp2_with fail
      refine (pick_det _ (A + 1) (by omega) (by omega) _).mono ?_
      rintro e w' ⟨rfl, rfl⟩
      go_wp2
      refine bodyPost_ret (res_px rfl _ _ _ _ _ _ rfl (blk_new _ _) rfl) rfl ?_
      exact ⟨by rw [HP.out], (Below.refl _ w).alloc (Nat.le_refl _) _⟩

theorem told {P : Program} {f : FuncId} {args : Array Value} {w : World} {v v' : Value} (h : Calls P f args w fun e w' => e = .returned v ∧ Below w.heap.size w w') (hv : v = v') : Calls P f args w fun e w' => e = .returned v' ∧ Below w.heap.size w w' := by
  subst hv; exact h
theorem toldi {P : Program} {f : FuncId} {args : Array Value} {w : World} {v v' : Value} (h : Calls P f args w fun e w' => e = .returned v ∧ w' = w) (hv : v = v') : Calls P f args w fun e w' => e = .returned v' ∧ w' = w := by
  subst hv; exact h
set_option maxRecDepth 100000 in
theorem known_any (w : World) : Calls Try.prog 7 #[] w fun e w' => e = .returned (.bool true) ∧ Below w.heap.size w w' := by
  go_enter Try.func7, Try.ntmps7
  go_wp2_with fail
  refine (told (v' := pv ⟨128, 0, 50, 128⟩) (pre_any ⟨255, 0, 100, 128⟩ _) (by kernel_rfl)).mono ?_
  rintro e w1 ⟨rfl, b1⟩
  go_wp2_with fail
  refine (toldi (v' := .int .i64 255) (part_any 255 255 _) (by kernel_rfl)).mono ?_
  rintro e w' ⟨rfl, rfl⟩
  go_wp2_with fail
  refine (told (v' := .bool true) (premultiplied_any ⟨3, 0, 0, 3⟩ _) (by kernel_rfl)).mono ?_
  rintro e w2 ⟨rfl, b2⟩
  go_wp2
  go_ret
  exact ⟨rfl, b1.trans (b2.mono b1.size)⟩
end Go.Proofs.Ytffkbombeaojjaa
