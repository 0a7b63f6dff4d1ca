/-
  slices.Index, slices.Contains of texts; sfnt.mayBeTags, sfnt.word, sfnt.isMark as contracts.
-/
import Derived.Test.YtdmfammajggfpaaSfn
namespace Go.Proofs.Ytdmfammajggfpaa
open Go.RowKit

/-- The place, or -1. -/
def fndv (r n : Nat) : Int := if r < n then r else -1
set_option maxHeartbeats 400000 in
theorem index_any (a : Option Addr) (len cap : Nat) (s : Nat → ByteArray) (t : ByteArray) (r : Nat) (w : World) (h : Strs w a len cap s) (hf : IsF s len t r) :
    Calls Try.prog 38 #[.slice a len cap, .string t] w fun e w' => e = .returned (.int .i64 (fndv r len)) ∧ w' = w := by
  have hr := h.reach
  have hle := hf.le
  go_enter Try.func38, Try.ntmps38
  go_wp2_with fail
  go_loopw [8] (fun i wq => ∃ k : Nat, i = .int .i64 (k : Nat) ∧ k ≤ r ∧ wq = w) (fun i _ => len - (intOf i).toNat)
  case atStart => exact ⟨0, rfl, by omega, rfl⟩
  case round =>
    obtain ⟨k, rfl, hk, rfl⟩ := hrel
    by_cases hlt : k < len
    · obtain ⟨b, off, rfl, hb, hc⟩ := h.spot (by omega)
      have c0 := hc k hlt
      have hlt' : (k : Int) < len := by omega
      by_cases he : k = r
      · have hs : t = s k := by rw [he]; exact (hf.yes (by omega)).symm
        have HR : Hid ((fndv r len) = (k : Int)) := by show _ = _; unfold fndv; rw [if_pos (by omega), he]
        clear hc hf he
        subst hs
        go_wp2
        go_ret
        exact ⟨ret_int HR.out.symm, rfl⟩
      · have hs : ¬ t = s k := fun e => hf.no k (by omega) e.symm
        have hs' := txt_no hs
        clear hs
        clear hc
        go_wp2
        exact ⟨⟨k + 1, by go_num, by omega, by trivial⟩, by simp [intOf]; omega⟩
    · have hlt' : ¬ (k : Int) < len := by omega
      have HR : Hid (fndv r len = -1) := by show _ = _; unfold fndv; rw [if_neg (by omega)]
      go_wp2
      go_ret
      exact ⟨ret_int HR.out.symm, rfl⟩

theorem contains_any (a : Option Addr) (len cap : Nat) (s : Nat → ByteArray) (t : ByteArray) (w : World) (h : Strs w a len cap s) :
    Calls Try.prog 30 #[.slice a len cap, .string t] w fun e w' => e = .returned (.bool (hadn s t len)) ∧ w' = w := by
  obtain ⟨r, hf⟩ := isF_ex s t len
  have hd := hf.had
  have C := index_any a len cap s t r w h hf
  rw [hd]
  by_cases hr : r < len
  · rw [show fndv r len = r from if_pos hr] at C
    rw [decide_eq_true hr]
    clear hd hf
    go_enter Try.func30, Try.ntmps30
    go_wp2_with fail
    refine C.mono ?_
    rintro e w' ⟨rfl, rfl⟩
    go_wp2
    go_ret
    exact ⟨rfl, rfl⟩
  · rw [show fndv r len = -1 from if_neg hr] at C
    rw [decide_eq_false hr]
    clear hd hf
    go_enter Try.func30, Try.ntmps30
    go_wp2_with fail
    refine C.mono ?_
    rintro e w' ⟨rfl, rfl⟩
    go_wp2
    go_ret
    exact ⟨rfl, rfl⟩

set_option maxHeartbeats 800000 in
theorem maybe_any (a : Option Addr) (len cap : Nat) (s : Nat → ByteArray) (w : World) (h : Strs w a len cap s) :
    Calls Try.prog 20 #[.slice a len cap] w fun e w' => e = .returned (.bool (decide (len ≤ 64) && okN s len)) ∧ w' = w := by
  have hr := h.reach
  have hlc := h.lc
  by_cases h64 : 64 < len
  · have h64' : (64 : Int) < len := by omega
    rw [decide_eq_false (by omega), Bool.false_and]
    go_enter Try.func20, Try.ntmps20
    go_wp2
    go_ret
    exact ⟨rfl, rfl⟩
  · have h64' : ¬ (64 : Int) < len := by omega
    rw [decide_eq_true (by omega), Bool.true_and]
    go_enter Try.func20, Try.ntmps20
    go_wp2_with fail
    go_loopw [10] (fun i wq => ∃ k : Nat, i = .int .i64 (k : Nat) ∧ k ≤ len ∧ Hid (okN s k = true) ∧ wq = w) (fun i _ => len - (intOf i).toNat)
    case atStart => exact ⟨0, rfl, by omega, rfl, rfl⟩
    case round =>
      obtain ⟨k, rfl, hk, hok, rfl⟩ := hrel
      by_cases hlt : k < len
      · obtain ⟨b, off, rfl, hb, hc⟩ := h.spot (by omega)
        have c0 := hc k hlt
        have hlt' : (k : Int) < len := by omega
        by_cases h4 : (s k).size = 4
        · have C := contains_any (some ⟨b, off, none⟩) k cap s (s k) wr (h.take (by omega))
          have hkc : (k : Int) ≤ cap := by omega
          have h4' : ((s k).size : Int) = 4 := by omega
          have e4 : (((s k).size : Int) != 4) = false := by simp [h4]
          have HN : Hid (okN s (k + 1) = (okN s k && (decide ((s k).size = 4) && !hadn s (s k) k))) := rfl
          have H4 : Hid ((s k).size = 4) := h4
          clear hc h4
          cases hh : hadn s (s k) k with
          | true =>
            have HZ : Hid (okN s len = false) := okN_hit hlt (fun e => by obtain ⟨j, h1, h2⟩ := hadn_iff.1 hh; exact e.2 j h1 h2)
            rw [hh] at C
            clear hh
            go_wp2_with fail
            refine C.mono ?_
            rintro e w' ⟨rfl, rfl⟩
            go_wp2
            go_ret
            exact ⟨by rw [HZ.out]; rfl, rfl⟩
          | false =>
            have HZ : Hid (okN s (k + 1) = true) := by show _ = _; rw [HN.out, hok.out, H4.out, hh]; rfl
            rw [hh] at C
            clear hh
            go_wp2_with fail
            refine C.mono ?_
            rintro e w' ⟨rfl, rfl⟩
            go_wp2
            exact ⟨⟨k + 1, by go_num, by omega, HZ, by trivial⟩, by simp [intOf]; omega⟩
        · have e4 : (((s k).size : Int) != 4) = true := by rw [bne_iff_ne]; omega
          have h4' : ¬ ((s k).size : Int) = 4 := by omega
          have HZ : Hid (okN s len = false) := okN_hit hlt (fun e => h4 e.1)
          clear hc
          go_wp2
          go_ret
          exact ⟨by rw [HZ.out]; rfl, rfl⟩
      · obtain rfl : k = len := by omega
        have hlt' : ¬ (k : Int) < k := by omega
        go_wp2
        go_ret
        exact ⟨by rw [hok.out]; rfl, rfl⟩

set_option maxRecDepth 100000 in
theorem word_any (n : Nat) (hn : n < 4294967296) (w : World) :
    Calls Try.prog 22 #[.int .i64 (n : Nat)] w fun e w' => ∃ g, e = .returned (.slice (some ⟨g, 0, none⟩) 4 4) ∧ Own w' w.heap.size 5 .u8 g 4 (bigL n) ∧ Below w.heap.size w w' := by
  go_enter Try.func22, Try.ntmps22
  go_wp2
  go_ret
  exact ⟨_, rfl, own_lit w w.heap.size 5 .u8 (bigL n) (Nat.le_refl _) (by unfold bigL; simp), (Below.refl _ _).alloc (Nat.le_refl _) _⟩

set_option maxRecDepth 100000 in
theorem mark_any (s : ByteArray) (w : World) :
    Calls Try.prog 32 #[.string s] w fun e w' => e = .returned (.bool (markB s)) ∧ w' = w := by
  have HM : Hid (markB s = (decide (s.toList = [0, 1, 0, 0]) || decide (s.toList = [79, 84, 84, 79]) || decide (s.toList = [116, 114, 117, 101]))) := rfl
  go_enter Try.func32, Try.ntmps32
  go_wp2
  · rename_i h1
    go_ret
    exact ⟨ret_bool (by rw [HM.out]; simp [h1]), rfl⟩
  · rename_i h1 h2
    go_ret
    exact ⟨ret_bool (by rw [HM.out]; simp [h2]), rfl⟩
  · rename_i h1 h2
    go_ret
    refine ⟨ret_bool (by
      rw [HM.out]
      have e1 : (s.toList == [0, 1, 0, 0]) = false := beq_eq_false_iff_ne.2 h1
      have e2 : (s.toList == [79, 84, 84, 79]) = false := beq_eq_false_iff_ne.2 h2
      show (s.toList == [0, 1, 0, 0] || s.toList == [79, 84, 84, 79] || s.toList == [116, 114, 117, 101]) = _
      rw [e1, e2, decide_eq_false h1, decide_eq_false h2, Bool.eq_iff_iff]
      simp), rfl⟩
end Go.Proofs.Ytdmfammajggfpaa
