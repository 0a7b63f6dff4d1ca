/-
  versalhand's Pick and Num, told to the number; the law's own 'of', as a contract.
-/
import Derived.Test.YtkgkoicmpjnjgaaRefAffB
namespace Go.Proofs.Ytkgkoicmpjnjgaa
open Go.RowKit

def Fits (n : Int) : Prop := -9223372036854775808 ≤ n ∧ n ≤ 9223372036854775807
def numv (n : Int) : Int :=
  if n % 8 = 0 then n else if n % 8 = 1 then (n.tdiv 8 % 2001 - 1000) * 65536 else if n % 8 = 2 then n.tdiv 8 % 9 - 4 else if n % 8 = 3 then (n.tdiv 8 % 9 - 4) * 32768 else n.tdiv 8 % 1310720 - 655360
theorem num_fits {n : Int} (h : Fits n) : Fits (numv n) := by
  obtain ⟨h1, h2⟩ := h
  unfold numv Fits
  split
  · omega
  · split
    · omega
    · split
      · omega
      · split <;> omega

set_option maxHeartbeats 400000 in
theorem pick_det (n m : Int) (hm : 0 < m) (hm2 : m ≤ 1000000000000000) (w : World) :
    Calls Try.prog 34 #[.int .i64 n, .int .i64 m] w fun e w' => e = .returned (.int .i64 (n % m)) ∧ w' = w := by
  have hb := tmod_bd n m hm
  have hne : ¬ m = 0 := by omega
  by_cases hz : n.tmod m < 0
  · have E : Hid (n.tmod m + m = n % m) := pick_neg n m hm hz
    rw [← E.out]
    go_enter Try.func34, Try.ntmps34
    go_wp2
    go_ret
    exact ⟨rfl, rfl⟩
  · have E : Hid (n.tmod m = n % m) := pick_pos n m hm (by omega)
    rw [← E.out]
    go_enter Try.func34, Try.ntmps34
    go_wp2
    go_ret
    exact ⟨rfl, rfl⟩

set_option maxHeartbeats 800000 in
theorem num_det (n : Int) (h : Fits n) (w : World) :
    Calls Try.prog 16 #[.int .i64 n] w fun e w' => e = .returned (.int .i64 (numv n)) ∧ w' = w := by
  obtain ⟨hn, hn2⟩ := h
  have hk : 0 ≤ n % 8 ∧ n % 8 < 8 := by omega
  rcases (by omega : n % 8 = 0 ∨ n % 8 = 1 ∨ n % 8 = 2 ∨ n % 8 = 3 ∨ 4 ≤ n % 8) with h | h | h | h | h
  · have e : numv n = n := by unfold numv; rw [if_pos h]
    rw [e]
    have H : Hid (n % 8 = 0) := h
    clear h hk
    go_enter Try.func16, Try.ntmps16
    go_wp2_with fail
    refine (pick_det n 8 (by omega) (by omega) _).mono ?_
    rintro e w' ⟨rfl, rfl⟩
    rw [H.out]
    go_wp2
    go_ret
    exact ⟨rfl, rfl⟩
  · have e : numv n = (n.tdiv 8 % 2001 - 1000) * 65536 := by unfold numv; rw [if_neg (by omega), if_pos h]
    rw [e]
    have H : Hid (n % 8 = 1) := h
    clear h hk e
    have hb : 0 ≤ n.tdiv 8 % 2001 := by omega
    have hb2 : n.tdiv 8 % 2001 < 2001 := by omega
    go_enter Try.func16, Try.ntmps16
    go_wp2_with fail
    refine (pick_det n 8 (by omega) (by omega) _).mono ?_
    rintro e w' ⟨rfl, rfl⟩
    rw [H.out]
    go_wp2_with fail
    refine (pick_det _ 2001 (by omega) (by omega) _).mono ?_
    rintro e w' ⟨rfl, rfl⟩
    go_wp2
    go_ret
    exact ⟨rfl, rfl⟩
  · have e : numv n = n.tdiv 8 % 9 - 4 := by unfold numv; rw [if_neg (by omega), if_neg (by omega), if_pos h]
    rw [e]
    have H : Hid (n % 8 = 2) := h
    clear h hk e
    have hb : 0 ≤ n.tdiv 8 % 9 := by omega
    have hb2 : n.tdiv 8 % 9 < 9 := by omega
    go_enter Try.func16, Try.ntmps16
    go_wp2_with fail
    refine (pick_det n 8 (by omega) (by omega) _).mono ?_
    rintro e w' ⟨rfl, rfl⟩
    rw [H.out]
    go_wp2_with fail
    refine (pick_det _ 9 (by omega) (by omega) _).mono ?_
    rintro e w' ⟨rfl, rfl⟩
    go_wp2
    go_ret
    exact ⟨rfl, rfl⟩
  · have e : numv n = (n.tdiv 8 % 9 - 4) * 32768 := by unfold numv; rw [if_neg (by omega), if_neg (by omega), if_neg (by omega), if_pos h]
    rw [e]
    have H : Hid (n % 8 = 3) := h
    clear h hk e
    have hb : 0 ≤ n.tdiv 8 % 9 := by omega
    have hb2 : n.tdiv 8 % 9 < 9 := by omega
    go_enter Try.func16, Try.ntmps16
    go_wp2_with fail
    refine (pick_det n 8 (by omega) (by omega) _).mono ?_
    rintro e w' ⟨rfl, rfl⟩
    rw [H.out]
    go_wp2_with fail
    refine (pick_det _ 9 (by omega) (by omega) _).mono ?_
    rintro e w' ⟨rfl, rfl⟩
    go_wp2
    go_ret
    exact ⟨rfl, rfl⟩
  · have e : numv n = n.tdiv 8 % 1310720 - 655360 := by unfold numv; rw [if_neg (by omega), if_neg (by omega), if_neg (by omega), if_neg (by omega)]
    rw [e]
    obtain ⟨k, hk8⟩ : ∃ k, n % 8 = k := ⟨_, rfl⟩
    have hk4 : 4 ≤ k := by omega
    have H : Hid (n % 8 = k) := hk8
    clear h hk e hk8
    have hb : 0 ≤ n.tdiv 8 % 1310720 := by omega
    have hb2 : n.tdiv 8 % 1310720 < 1310720 := by omega
    go_enter Try.func16, Try.ntmps16
    go_wp2_with fail
    refine (pick_det n 8 (by omega) (by omega) _).mono ?_
    rintro e w' ⟨rfl, rfl⟩
    rw [H.out]
    go_wp2_with fail
    refine (pick_det _ 1310720 (by omega) (by omega) _).mono ?_
    rintro e w' ⟨rfl, rfl⟩
    go_wp2
    go_ret
    exact ⟨rfl, rfl⟩

set_option maxHeartbeats 1600000 in
theorem of_raw (a b c d e f : Int) (w : World) :
    Calls Try.prog 15 #[aff a b c d e f, .bool true] w fun r w' => r = .returned (aff a b c d e f) ∧ Below w.heap.size w w' := by
  go_enter Try.func15, Try.ntmps15
  go_wp2
  refine bodyPost_ret (res_aff rfl _ _ (w.heap.size + 1) 23 _ (0, 0) rfl (by simpa using heap_alloc_new (w.alloc (.cells #[.int .i64 a, .int .i64 b, .int .i64 c, .int .i64 d, .int .i64 e, .int .i64 f] 33)) (ablk a b c d e f)) rfl) rfl ?_
  exact ⟨rfl, ((Below.refl _ _).alloc (Nat.le_refl _) _).alloc (by simp) _⟩

set_option maxHeartbeats 1600000 in
theorem of_num (a b c d e f : Int) (ha : Fits a) (hb : Fits b) (hc : Fits c) (hd : Fits d) (he : Fits e) (hf : Fits f) (w : World) :
    Calls Try.prog 15 #[aff a b c d e f, .bool false] w fun r w' => r = .returned (aff (numv a) (numv b) (numv c) (numv d) (numv e) (numv f)) ∧ Below w.heap.size w w' := by
  go_enter Try.func15, Try.ntmps15
  go_wp2_with fail
  obtain ⟨W, hW⟩ : ∃ W, W = (w.alloc (.cells #[.int .i64 a, .int .i64 b, .int .i64 c, .int .i64 d, .int .i64 e, .int .i64 f] 33)).alloc (ablk 0 0 0 0 0 0) := ⟨_, rfl⟩
  rw [← hW]
  have g1 : W.heap[w.heap.size]? = some (.cells #[.int .i64 a, .int .i64 b, .int .i64 c, .int .i64 d, .int .i64 e, .int .i64 f] 33) := by rw [hW]; exact blk_alloc (heap_alloc_new w _) _
  have g2 : W.heap[w.heap.size + 1]? = some (ablk 0 0 0 0 0 0) := by rw [hW]; simpa using heap_alloc_new (w.alloc (.cells #[.int .i64 a, .int .i64 b, .int .i64 c, .int .i64 d, .int .i64 e, .int .i64 f] 33)) (ablk 0 0 0 0 0 0)
  have b1 : Below w.heap.size w W := by rw [hW]; exact ((Below.refl _ w).alloc (Nat.le_refl _) _).alloc (by simp) _
  clear hW
  obtain ⟨c0, c1, c2, c3, c4, c5⟩ := aff_ext g1
  have hin := Ext.inh W
  refine region_ext_tail 19 (by kernel_rfl) (by kernel_rfl) ?_
  simp only [List.take_succ_cons, List.take_zero, List.drop_succ_cons, List.drop_zero]
  repeat (go_big_quiet_step (first | (go_at_call 16; exact Ext.same (num_det _ (by assumption) _))))
  refine wpQuiet_nil ?_
  rintro W1 ⟨⟨_, hk⟩, rfl⟩
  replace g2 := Below.blk hk g2 (blk_lt g2)
  replace b1 := b1.trans (hk.mono b1.size)
  go_wp2_with (refine store_aff g2 rfl _ _ _ _ _ _ _ _ (by rfl) (by rfl) (by rfl) (by rfl) ?_)
  refine bodyPost_ret (res_aff rfl _ _ _ _ _ _ rfl (setRow_heap _ _ _ _ _ _ g2) rfl) rfl ?_
  exact ⟨rfl, below_row b1 (by omega) _⟩

end Go.Proofs.Ytkgkoicmpjnjgaa
