
/-
  codes.NewBits, Used, Align and Take as contracts: bits are bytes of their own and a place.
-/
import Derived.Test.YtahibacjaoohiaaDoorBase
namespace Go.Proofs.YtahibacjaoohiaaDoor
open Go.RowKit

/-- Bits at block b: their bytes in block g, p of them taken. -/
structure BitsAt (w : World) (b g len : Nat) (z : Nat → Nat) (p : Nat) : Prop where
  obj : w.heap[b]? = some (.cells #[.slice (some ⟨g, 0, none⟩) len len, .int .i64 p] 81)
  row : w.heap[g]? = some (.cells (arr len fun i => .int .u8 (z i : Nat)) 5)
  reach : len ≤ 200000000000000
  byte : ∀ i, z i < 256
  lim : p ≤ 8 * len
theorem BitsAt.ne {w : World} {b g len : Nat} {z : Nat → Nat} {p : Nat} (h : BitsAt w b g len z p) : g ≠ b := fun e => by
  subst e; have h1 := h.obj; rw [h.row] at h1; simp at h1
theorem BitsAt.kept {S : Nat → Prop} {w w' : World} {b g len : Nat} {z : Nat → Nat} {p : Nat} (h : BitsAt w b g len z p) (k : Kept S w w') (hb : ¬ S b) (hg : ¬ S g) : BitsAt w' b g len z p :=
  ⟨k.blk h.obj hb, k.blk h.row hg, h.reach, h.byte, h.lim⟩
theorem BitsAt.below {w w' : World} {b g len : Nat} {z : Nat → Nat} {p : Nat} (h : BitsAt w b g len z p) (k : Below w.heap.size w w') : BitsAt w' b g len z p :=
  ⟨Below.blk k h.obj (blk_lt h.obj), Below.blk k h.row (blk_lt h.row), h.reach, h.byte, h.lim⟩

theorem used_any (b g len : Nat) (z : Nat → Nat) (p : Nat) (w : World) (h : BitsAt w b g len z p) :
    Calls Tryd.prog 29 #[.pointer (some ⟨b, 0, none⟩)] w fun e w' => e = .returned (.int .i64 ((p + 7) / 8 : Nat)) ∧ w' = w := by
  have hr := h.reach
  have hl := h.lim
  have c1 : w.cell? ⟨b, 1, none⟩ = some (.int .i64 p) := blk_cell h.obj 1
  go_enter Tryd.func29, Tryd.ntmps29
  go_wp2
  go_ret
  exact ⟨ret_int (by omega), rfl⟩

theorem bits_set' {w : World} {b g len : Nat} {z : Nat → Nat} {p : Nat} (h : BitsAt w b g len z p) (q : Nat) (hq : q ≤ 8 * len) {v : Int} (hv : v = q) : BitsAt (w.setCell ⟨b, 1, none⟩ (.int .i64 v)) b g len z q :=
  hv ▸ ⟨blk_set h.obj 1 _, (blk_other _ h.ne).trans h.row, h.reach, h.byte, hq⟩
theorem bits_set {w : World} {b g len : Nat} {z : Nat → Nat} {p : Nat} (h : BitsAt w b g len z p) (q : Nat) (hq : q ≤ 8 * len) : BitsAt (w.setCell ⟨b, 1, none⟩ (.int .i64 q)) b g len z q :=
  ⟨blk_set h.obj 1 _, (blk_other _ h.ne).trans h.row, h.reach, h.byte, hq⟩

set_option maxHeartbeats 400000 in
theorem align_any (b g len : Nat) (z : Nat → Nat) (p : Nat) (w : World) (h : BitsAt w b g len z p) :
    Calls Tryd.prog 58 #[.pointer (some ⟨b, 0, none⟩)] w fun e w' => e = .returned (.tuple #[]) ∧ BitsAt w' b g len z (8 * ((p + 7) / 8)) ∧ Kept (fun k => k = b) w w' := by
  have hr := h.reach
  have hl := h.lim
  have c1 : w.cell? ⟨b, 1, none⟩ = some (.int .i64 p) := blk_cell h.obj 1
  have f1 := blk_free h.obj 1
  go_enter Tryd.func58, Tryd.ntmps58
  go_wp2_with fail
  refine (used_any b g len z p _ h).mono ?_
  rintro e w' ⟨rfl, rfl⟩
  go_wp2
  go_end0
  exact ⟨rfl, bits_set' h (8 * ((p + 7) / 8)) (by omega) (by omega), (Kept.refl _ _).set 1 _⟩

set_option maxHeartbeats 400000 in
theorem newbits_any (a : Option Addr) (len cap : Nat) (z : Nat → Nat) (w : World) (h : Lies w a len cap z) :
    Calls Tryd.prog 27 #[.slice a len cap] w fun e w' => ∃ b g, e = .returned (.pointer (some ⟨b, 0, none⟩)) ∧ BitsAt w' b g len z 0 ∧ w.heap.size ≤ b ∧ w.heap.size ≤ g ∧ Below w.heap.size w w' := by
  have hr := h.reach
  have hmk := make22 len hr
  by_cases h0 : len = 0
  · have hcp : ∀ (W : World) (s : Option Addr) (sl sc g : Nat), (Builtin.copy_ #[23, 23] 3 #[.slice (some ⟨g, 0, none⟩) len len, .slice s sl sc]).run Tryd.prog W = .ok (goInt 0) W := fun W s sl sc g => run_copy_none W 23 23 3 5 _ _ _ _ _ _ Tryd.underlying23 size5 (by simp [h0])
    have H0 : Hid (len = 0) := h0
    clear h0
    go_enter Tryd.func27, Tryd.ntmps27
    go_wp2
    go_ret
    have e : (arr len fun _ => Value.int .u8 0) = arr len fun i => .int .u8 (z i : Nat) := arr_congr _ _ _ fun t ht => by have := H0.out; omega
    rw [e]
    exact ⟨_, w.heap.size, rfl, ⟨by simpa using blk_new (w.alloc _) _, blk_alloc (blk_new w _) _, hr, h.byte, by omega⟩, by omega, by omega, ((Below.refl _ _).alloc (Nat.le_refl _) _).alloc (by simp) _⟩
  · obtain ⟨b, off, rfl, hb, hc⟩ := h.spot (by omega)
    obtain ⟨W2, hcp, hg2, hbe, hs2⟩ : ∃ W2, (Builtin.copy_ #[23, 23] 3 #[.slice (some ⟨w.heap.size, 0, none⟩) len len, .slice (some ⟨b, off, none⟩) len cap]).run Tryd.prog (w.alloc (.cells (arr len fun _ => .int .u8 0) 5)) = .ok (goInt len) W2 ∧ W2.heap[w.heap.size]? = some (.cells (arr len fun i => .int .u8 (z i : Nat)) 5) ∧ Below w.heap.size w W2 ∧ W2.heap.size = w.heap.size + 1 := by
      have hg := blk_new w (.cells (arr len fun _ => .int .u8 0) 5)
      have hrun := run_copy_row (P := Tryd.prog) (w.alloc (.cells (arr len fun _ => .int .u8 0) 5)) 23 23 3 5 w.heap.size 0 len len ⟨b, off, none⟩ len cap (arr len fun _ => .int .u8 0) 5 ((List.range len).map fun i => .int .u8 (z i : Nat)) Tryd.underlying23 size5 hg
        (by simp)
        (fun j v hj => by
          have hj' : j < len := by have := (List.getElem?_eq_some_iff.1 hj).1; simpa using this
          simp [hj'] at hj
          subst hj
          rw [add_none, World.cell?_of_block (a := ⟨b, off + j, none⟩) (Below.heap_alloc w _ b hb)]
          exact hc j hj')
        (by simp [arr]) (by intro v hv; obtain ⟨i, _, rfl⟩ := List.mem_map.1 hv; rfl)
      rw [List.length_map, List.length_range] at hrun
      refine ⟨_, hrun, ?_, below_setRow ((Below.refl _ _).alloc (Nat.le_refl _) _) (Nat.le_refl _) _, by simp⟩
      have := setRow_heap (w.alloc (.cells (arr len fun _ => .int .u8 0) 5)) w.heap.size (arr len fun _ => .int .u8 0) (arr len fun i => .int .u8 (z i : Nat)) 5 _ hg
      have e : List.drop len ((List.range len).map fun _ => Value.int .u8 0) = [] := List.drop_eq_nil_of_le (by simp)
      simpa [arr, e] using this
    have G2 : Hid (W2.heap[w.heap.size]? = some (.cells (arr len fun i => .int .u8 (z i : Nat)) 5)) := hg2
    clear hg2 hc
    go_enter Tryd.func27, Tryd.ntmps27
    go_wp2
    go_ret
    exact ⟨_, w.heap.size, rfl, ⟨by rw [← hs2]; exact blk_new W2 _, blk_alloc G2.out _, hr, h.byte, by omega⟩, by omega, by omega, hbe.alloc (by omega) _⟩

theorem wrap64_fit (x : Int) (h1 : -9223372036854775808 ≤ x) (h2 : x ≤ 9223372036854775807) : wrap64 x = x := by simp only [wrap64]; omega
/-- Two numbers' bits joined, both small. -/
theorem or_nat (x y : Nat) (h : x ||| y < 9223372036854775808) (hx : x < 9223372036854775808) (hy : y < 9223372036854775808) : bits .or .i64 (x : Int) (y : Int) = ((x ||| y : Nat) : Int) := by
  have h1 : (BitVec.ofInt 64 (x : Int) ||| BitVec.ofInt 64 (y : Int)).toNat = x ||| y := by
    rw [BitVec.toNat_or]
    congr 1 <;> simp <;> omega
  show IntKind.wrap .i64 (((BitVec.ofInt 64 (x : Int) ||| BitVec.ofInt 64 (y : Int)).toNat : Nat) : Int) = _
  rw [h1, IntKind.wrap_i64]
  omega
theorem and_nat (x y : Nat) (hx : x < 9223372036854775808) (hy : y < 9223372036854775808) : bits .and .i64 (x : Int) (y : Int) = ((x &&& y : Nat) : Int) := by
  have h1 : (BitVec.ofInt 64 (x : Int) &&& BitVec.ofInt 64 (y : Int)).toNat = x &&& y := by
    rw [BitVec.toNat_and]
    congr 1 <;> simp <;> omega
  show IntKind.wrap .i64 (((BitVec.ofInt 64 (x : Int) &&& BitVec.ofInt 64 (y : Int)).toNat : Nat) : Int) = _
  rw [h1, IntKind.wrap_i64]
  have : x &&& y ≤ x := Nat.and_le_left
  omega
theorem or_high (a x i : Nat) (ha : a < 2 ^ (8 * i)) (hx : x < 256) (hi : i ≤ 3) : bits .or .i64 (a : Int) (wrap64 ((x : Int) * 2 ^ (8 * i))) = ((a + x * 2 ^ (8 * i) : Nat) : Int) := by
  have hP : 2 ^ (8 * i) ≤ 2 ^ 24 := Nat.pow_le_pow_right (by omega) (by omega)
  have e : a + x * 2 ^ (8 * i) = a ||| x * 2 ^ (8 * i) := by
    have := Nat.shiftLeft_add_eq_or_of_lt (b := a) (i := 8 * i) ha x
    rw [Nat.shiftLeft_eq] at this
    rw [Nat.add_comm, this, Nat.or_comm]
  have e1 : (x : Int) * 2 ^ (8 * i) = ((x * 2 ^ (8 * i) : Nat) : Int) := by rw [Int.natCast_mul, Int.natCast_pow]; rfl
  have hm : x * 2 ^ (8 * i) ≤ 256 * 2 ^ 24 := Nat.mul_le_mul (by omega) hP
  rw [e1, wrap64_fit _ (by omega) (by omega), or_nat _ _ (by rw [← e]; omega) (by omega) (by omega), ← e]
theorem two_pow_cast (m : Nat) : (2 : Int) ^ m = ((2 ^ m : Nat) : Int) := by rw [Int.natCast_pow]; rfl
theorem mask_val (m : Nat) (hm : m ≤ 24) : wrap64 (wrap64 (2 ^ m) - 1) = ((2 ^ m - 1 : Nat) : Int) := by
  have hP : 2 ^ m ≤ 2 ^ 24 := Nat.pow_le_pow_right (by omega) hm
  have h0 := Nat.two_pow_pos m
  rw [two_pow_cast]
  generalize 2 ^ m = P at *
  simp only [wrap64]
  omega
theorem and_mask (x m : Nat) (hx : x < 9223372036854775808) (hm : m ≤ 24) : bits .and .i64 (x : Int) (wrap64 (wrap64 (2 ^ m) - 1)) = ((x % 2 ^ m : Nat) : Int) := by
  have hP : 2 ^ m ≤ 2 ^ 24 := Nat.pow_le_pow_right (by omega) hm
  have h0 := Nat.two_pow_pos m
  rw [mask_val m hm, and_nat x (2 ^ m - 1) hx (by generalize 2 ^ m = P at *; omega), Nat.and_two_pow_sub_one_eq_mod]
/-- What Take cuts out of the bytes. -/
theorem take_val (z : Nat → Nat) (hz : ∀ i, z i < 256) (p m k : Nat) (hm : m ≤ 24) (hk : k ≤ 4) (h : p % 8 + m ≤ 8 * k) :
    bits .and .i64 (((numle z (p / 8) k : Nat) : Int) / 2 ^ (p % 8)) (wrap64 (wrap64 (2 ^ m) - 1)) = ((takev z p m : Nat) : Int) := by
  have hN := numle_lt z hz (p / 8) k
  have hQ : 2 ^ (8 * k) ≤ 2 ^ 32 := Nat.pow_le_pow_right (by omega) (by omega)
  have hle : numle z (p / 8) k / 2 ^ (p % 8) ≤ numle z (p / 8) k := Nat.div_le_self _ _
  have hc := numle_cut z hz (p / 8) k (p % 8) m h
  rw [Nat.div_add_mod] at hc
  rw [two_pow_cast (p % 8), ← Int.natCast_ediv, ← hc]
  generalize numle z (p / 8) k / 2 ^ (p % 8) = X at *
  exact and_mask X m (by generalize 2 ^ (8 * k) = Q at *; omega) hm
theorem take_val24 (z : Nat → Nat) (hz : ∀ i, z i < 256) (p k : Nat) (hk : k ≤ 4) (h : p % 8 + 24 ≤ 8 * k) : bits .and .i64 (((numle z (p / 8) k : Nat) : Int) / 2 ^ (p % 8)) 16777215 = ((takev z p 24 : Nat) : Int) := by
  have := take_val z hz p 24 k (by omega) hk h
  rwa [mask_val 24 (by omega)] at this
theorem take_val0 (z : Nat → Nat) (hz : ∀ i, z i < 256) (p k : Nat) (hk : k ≤ 4) (h : p % 8 ≤ 8 * k) : bits .and .i64 (((numle z (p / 8) k : Nat) : Int) / 2 ^ (p % 8)) 0 = ((takev z p 0 : Nat) : Int) := by
  have := take_val z hz p 0 k (by omega) hk h
  rwa [mask_val 0 (by omega)] at this
theorem take_zero (z : Nat → Nat) (p m : Nat) (h : m = 0) : bits .and .i64 0 (wrap64 (wrap64 (2 ^ m) - 1)) = ((takev z p m : Nat) : Int) := by
  subst h; exact (and_mask 0 0 (by omega) (by omega)).trans (by simp [takev])
theorem ret_take {a b : Int} {c : Bool} (h : a = b) : Ending.returned (.tuple #[.int .i64 a, .bool c]) = .returned (.tuple #[.int .i64 b, .bool c]) := by rw [h]
/-- How many bits a Take takes. -/
def want (n : Int) : Nat := if n < 0 then 0 else if 24 < n then 24 else n.toNat
theorem want_le (n : Int) : want n ≤ 24 := by unfold want; split; omega; split <;> omega

set_option maxHeartbeats 800000 in
theorem take_no_mid (b g len : Nat) (z : Nat → Nat) (p : Nat) (m : Nat) (hm : m ≤ 24) (w : World) (h : BitsAt w b g len z p) (hn : 8 * len < p + m) :
    Calls Tryd.prog 57 #[.pointer (some ⟨b, 0, none⟩), .int .i64 m] w fun e w' => e = .returned (.tuple #[.int .i64 0, .bool false]) ∧ BitsAt w' b g len z p ∧ Kept (fun k => k = b) w w' := by
  have hr := h.reach
  have hl := h.lim
  have c0 : w.cell? ⟨b, 0, none⟩ = some (.slice (some ⟨g, 0, none⟩) len len) := blk_cell h.obj 0
  have c1 : w.cell? ⟨b, 1, none⟩ = some (.int .i64 p) := blk_cell h.obj 1
  have hd : decide ((8 * (len : Int)) - (p : Int) < (m : Int)) = true := decide_eq_true (by omega)
  go_enter Tryd.func57, Tryd.ntmps57
  go_wp2_with fail
  go_quiet (fail)
  go_wp2
  go_ret2
  exact ⟨rfl, ⟨h.obj, h.row, h.reach, h.byte, h.lim⟩, (Kept.refl _ _).drewN _⟩

set_option maxHeartbeats 800000 in
theorem take_no_hi (b g len : Nat) (z : Nat → Nat) (p : Nat) (n : Int) (hm : 24 < n) (w : World) (h : BitsAt w b g len z p) (hn : 8 * len < p + 24) :
    Calls Tryd.prog 57 #[.pointer (some ⟨b, 0, none⟩), .int .i64 n] w fun e w' => e = .returned (.tuple #[.int .i64 0, .bool false]) ∧ BitsAt w' b g len z p ∧ Kept (fun k => k = b) w w' := by
  have hr := h.reach
  have hl := h.lim
  have c0 : w.cell? ⟨b, 0, none⟩ = some (.slice (some ⟨g, 0, none⟩) len len) := blk_cell h.obj 0
  have c1 : w.cell? ⟨b, 1, none⟩ = some (.int .i64 p) := blk_cell h.obj 1
  have hd : decide ((8 * (len : Int)) - (p : Int) < (24 : Int)) = true := decide_eq_true (by omega)
  go_enter Tryd.func57, Tryd.ntmps57
  go_wp2_with fail
  go_quiet (fail)
  go_wp2
  go_ret2
  exact ⟨rfl, ⟨h.obj, h.row, h.reach, h.byte, h.lim⟩, (Kept.refl _ _).drewN _⟩

set_option maxHeartbeats 1600000 in
theorem take_yes_mid (b g len : Nat) (z : Nat → Nat) (p : Nat) (m : Nat) (hm : m ≤ 24) (w : World) (h : BitsAt w b g len z p) (hn : p + m ≤ 8 * len) :
    Calls Tryd.prog 57 #[.pointer (some ⟨b, 0, none⟩), .int .i64 m] w fun e w' => e = .returned (.tuple #[.int .i64 (takev z p m : Nat), .bool true]) ∧ BitsAt w' b g len z (p + m) ∧ Kept (fun k => k = b) w w' := by
  have hr := h.reach
  have hl := h.lim
  have c0 : w.cell? ⟨b, 0, none⟩ = some (.slice (some ⟨g, 0, none⟩) len len) := blk_cell h.obj 0
  have c1 : w.cell? ⟨b, 1, none⟩ = some (.int .i64 p) := blk_cell h.obj 1
  have f1 := blk_free h.obj 1
  have hd : decide ((8 * (len : Int)) - (p : Int) < (m : Int)) = false := decide_eq_false (by omega)
  go_enter Tryd.func57, Tryd.ntmps57
  go_wp2_with fail
  go_quiet (fail)
  go_wp2_with fail
  obtain ⟨W, hW⟩ : ∃ W, W = (w.drewN nq).setCell ⟨b, 1, none⟩ (.int .i64 ((p : Int) + (m : Int))) := ⟨_, rfl⟩
  rw [← hW]
  have hw0 : BitsAt (w.drewN nq) b g len z p := ⟨h.obj, h.row, h.reach, h.byte, h.lim⟩
  have B : BitsAt W b g len z (p + m) := by rw [hW]; exact bits_set' hw0 (p + m) hn (by omega)
  have K : Kept (fun k => k = b) w W := by rw [hW]; exact ((Kept.refl _ w).drewN nq).set 1 _
  clear hW hw0 c0 c1 f1 hd
  have c0 : W.cell? ⟨b, 0, none⟩ = some (.slice (some ⟨g, 0, none⟩) len len) := blk_cell B.obj 0
  have BN : ∀ k, BitsAt (W.drewN k) b g len z (p + m) := fun k => ⟨B.obj, B.row, B.reach, B.byte, B.lim⟩
  go_quiet (first | (go_at_call 29; exact Calls.quiet_of_same (used_any b g len z (p + m) _ (BN _))))
  obtain ⟨W1, hW1⟩ : ∃ W1, W1 = W.drewN nq := ⟨_, rfl⟩
  rw [← hW1]
  have B1 : BitsAt W1 b g len z (p + m) := by rw [hW1]; exact BN nq
  have K1 : Kept (fun k => k = b) w W1 := by rw [hW1]; exact K.drewN nq
  clear hW1 BN B K c0
  by_cases hk : p / 8 < (p + m + 7) / 8
  · go_wp2_with fail
    go_loopw [7, 52] (fun s j wq => ∃ i : Nat, i ≤ (p + m + 7) / 8 - p / 8 ∧ j = .int .i64 i ∧ s = .int .i64 (numle z (p / 8) i : Nat) ∧ wq = W1) (fun _ j _ => (p + m + 7) / 8 - p / 8 - (intOf j).toNat)
    case atStart => exact ⟨0, by omega, rfl, rfl, rfl⟩
    case round =>
      obtain ⟨i, hi, rfl, rfl, rfl⟩ := hrel
      by_cases hik : i < (p + m + 7) / 8 - p / 8
      · have hik' : (i : Int) < (((p + m + 7) / 8 - p / 8 : Nat) : Int) := by omega
        have hc := arr_cell B1.row (t := p / 8 + i) (by omega)
        have hz := B1.byte (p / 8 + i)
        have hi3 : i ≤ 3 := by omega
        go_wp2
        rw [or_high _ _ _ (numle_lt z B1.byte _ _) hz hi3]
        exact ⟨⟨i + 1, by omega, rfl, rfl, trivial⟩, by simp [intOf]; omega⟩
      · have hik' : ¬ (i : Int) < (((p + m + 7) / 8 - p / 8 : Nat) : Int) := by omega
        obtain rfl : i = (p + m + 7) / 8 - p / 8 := by omega
        go_wp2_with fail
        go_quiet (fail)
        go_wp2
        go_ret2
        exact ⟨ret_take (take_val z B1.byte p m _ hm (by omega) (by omega)), ⟨B1.obj, B1.row, B1.reach, B1.byte, B1.lim⟩, K1.drewN _⟩
  · have hm0 : Hid (m = 0) := by show m = 0; omega
    have hk0 : ¬ (0 : Int) < (((p + m + 7) / 8 - p / 8 : Nat) : Int) := by omega
    go_wp2_with fail
    all_goals
      refine wp_loop_once ?_
      go_wp2_with fail
      go_quiet (fail)
      go_wp2
      go_ret2
      exact ⟨ret_take (take_zero z p m hm0.out), ⟨B1.obj, B1.row, B1.reach, B1.byte, B1.lim⟩, K1.drewN _⟩
set_option maxHeartbeats 1600000 in
theorem take_yes_hi (b g len : Nat) (z : Nat → Nat) (p : Nat) (n : Int) (hm : 24 < n) (w : World) (h : BitsAt w b g len z p) (hn : p + 24 ≤ 8 * len) :
    Calls Tryd.prog 57 #[.pointer (some ⟨b, 0, none⟩), .int .i64 n] w fun e w' => e = .returned (.tuple #[.int .i64 (takev z p 24 : Nat), .bool true]) ∧ BitsAt w' b g len z (p + 24) ∧ Kept (fun k => k = b) w w' := by
  have hr := h.reach
  have hl := h.lim
  have c0 : w.cell? ⟨b, 0, none⟩ = some (.slice (some ⟨g, 0, none⟩) len len) := blk_cell h.obj 0
  have c1 : w.cell? ⟨b, 1, none⟩ = some (.int .i64 p) := blk_cell h.obj 1
  have f1 := blk_free h.obj 1
  have hd : decide ((8 * (len : Int)) - (p : Int) < (24 : Int)) = false := decide_eq_false (by omega)
  go_enter Tryd.func57, Tryd.ntmps57
  go_wp2_with fail
  go_quiet (fail)
  go_wp2_with fail
  obtain ⟨W, hW⟩ : ∃ W, W = (w.drewN nq).setCell ⟨b, 1, none⟩ (.int .i64 ((p : Int) + (24 : Int))) := ⟨_, rfl⟩
  rw [← hW]
  have hw0 : BitsAt (w.drewN nq) b g len z p := ⟨h.obj, h.row, h.reach, h.byte, h.lim⟩
  have B : BitsAt W b g len z (p + 24) := by rw [hW]; exact bits_set' hw0 (p + 24) hn (by omega)
  have K : Kept (fun k => k = b) w W := by rw [hW]; exact ((Kept.refl _ w).drewN nq).set 1 _
  clear hW hw0 c0 c1 f1 hd
  have c0 : W.cell? ⟨b, 0, none⟩ = some (.slice (some ⟨g, 0, none⟩) len len) := blk_cell B.obj 0
  have BN : ∀ k, BitsAt (W.drewN k) b g len z (p + 24) := fun k => ⟨B.obj, B.row, B.reach, B.byte, B.lim⟩
  go_quiet (first | (go_at_call 29; exact Calls.quiet_of_same (used_any b g len z (p + 24) _ (BN _))))
  obtain ⟨W1, hW1⟩ : ∃ W1, W1 = W.drewN nq := ⟨_, rfl⟩
  rw [← hW1]
  have B1 : BitsAt W1 b g len z (p + 24) := by rw [hW1]; exact BN nq
  have K1 : Kept (fun k => k = b) w W1 := by rw [hW1]; exact K.drewN nq
  clear hW1 BN B K c0
  by_cases hk : p / 8 < (p + 24 + 7) / 8
  · go_wp2_with fail
    go_loopw [7, 52] (fun s j wq => ∃ i : Nat, i ≤ (p + 24 + 7) / 8 - p / 8 ∧ j = .int .i64 i ∧ s = .int .i64 (numle z (p / 8) i : Nat) ∧ wq = W1) (fun _ j _ => (p + 24 + 7) / 8 - p / 8 - (intOf j).toNat)
    case atStart => exact ⟨0, by omega, rfl, rfl, rfl⟩
    case round =>
      obtain ⟨i, hi, rfl, rfl, rfl⟩ := hrel
      by_cases hik : i < (p + 24 + 7) / 8 - p / 8
      · have hik' : (i : Int) < (((p + 24 + 7) / 8 - p / 8 : Nat) : Int) := by omega
        have hc := arr_cell B1.row (t := p / 8 + i) (by omega)
        have hz := B1.byte (p / 8 + i)
        have hi3 : i ≤ 3 := by omega
        go_wp2
        rw [or_high _ _ _ (numle_lt z B1.byte _ _) hz hi3]
        exact ⟨⟨i + 1, by omega, rfl, rfl, trivial⟩, by simp [intOf]; omega⟩
      · have hik' : ¬ (i : Int) < (((p + 24 + 7) / 8 - p / 8 : Nat) : Int) := by omega
        obtain rfl : i = (p + 24 + 7) / 8 - p / 8 := by omega
        go_wp2_with fail
        go_quiet (fail)
        go_wp2
        go_ret2
        exact ⟨ret_take (take_val24 z B1.byte p ((p + 24 + 7) / 8 - p / 8) (by omega) (by omega)), ⟨B1.obj, B1.row, B1.reach, B1.byte, B1.lim⟩, K1.drewN _⟩
  · omega

set_option maxHeartbeats 1600000 in
theorem take_yes_lo (b g len : Nat) (z : Nat → Nat) (p : Nat) (n : Int) (hm : n < 0) (w : World) (h : BitsAt w b g len z p) :
    Calls Tryd.prog 57 #[.pointer (some ⟨b, 0, none⟩), .int .i64 n] w fun e w' => e = .returned (.tuple #[.int .i64 (takev z p 0 : Nat), .bool true]) ∧ BitsAt w' b g len z p ∧ Kept (fun k => k = b) w w' := by
  have hr := h.reach
  have hl := h.lim
  have c0 : w.cell? ⟨b, 0, none⟩ = some (.slice (some ⟨g, 0, none⟩) len len) := blk_cell h.obj 0
  have c1 : w.cell? ⟨b, 1, none⟩ = some (.int .i64 p) := blk_cell h.obj 1
  have f1 := blk_free h.obj 1
  have hd : decide ((8 * (len : Int)) - (p : Int) < (0 : Int)) = false := decide_eq_false (by omega)
  go_enter Tryd.func57, Tryd.ntmps57
  go_wp2_with fail
  go_quiet (fail)
  go_wp2_with fail
  obtain ⟨W, hW⟩ : ∃ W, W = (w.drewN nq).setCell ⟨b, 1, none⟩ (.int .i64 ((p : Int))) := ⟨_, rfl⟩
  rw [← hW]
  have hw0 : BitsAt (w.drewN nq) b g len z p := ⟨h.obj, h.row, h.reach, h.byte, h.lim⟩
  have B : BitsAt W b g len z p := by rw [hW]; exact bits_set' hw0 p hl (by omega)
  have K : Kept (fun k => k = b) w W := by rw [hW]; exact ((Kept.refl _ w).drewN nq).set 1 _
  clear hW hw0 c0 c1 f1 hd
  have c0 : W.cell? ⟨b, 0, none⟩ = some (.slice (some ⟨g, 0, none⟩) len len) := blk_cell B.obj 0
  have BN : ∀ k, BitsAt (W.drewN k) b g len z p := fun k => ⟨B.obj, B.row, B.reach, B.byte, B.lim⟩
  go_quiet (first | (go_at_call 29; exact Calls.quiet_of_same (used_any b g len z p _ (BN _))))
  obtain ⟨W1, hW1⟩ : ∃ W1, W1 = W.drewN nq := ⟨_, rfl⟩
  rw [← hW1]
  have B1 : BitsAt W1 b g len z p := by rw [hW1]; exact BN nq
  have K1 : Kept (fun k => k = b) w W1 := by rw [hW1]; exact K.drewN nq
  clear hW1 BN B K c0
  by_cases hk : p / 8 < (p + 7) / 8
  · go_wp2_with fail
    go_loopw [7, 52] (fun s j wq => ∃ i : Nat, i ≤ (p + 7) / 8 - p / 8 ∧ j = .int .i64 i ∧ s = .int .i64 (numle z (p / 8) i : Nat) ∧ wq = W1) (fun _ j _ => (p + 7) / 8 - p / 8 - (intOf j).toNat)
    case atStart => exact ⟨0, by omega, rfl, rfl, rfl⟩
    case round =>
      obtain ⟨i, hi, rfl, rfl, rfl⟩ := hrel
      by_cases hik : i < (p + 7) / 8 - p / 8
      · have hik' : (i : Int) < (((p + 7) / 8 - p / 8 : Nat) : Int) := by omega
        have hc := arr_cell B1.row (t := p / 8 + i) (by omega)
        have hz := B1.byte (p / 8 + i)
        have hi3 : i ≤ 3 := by omega
        go_wp2
        rw [or_high _ _ _ (numle_lt z B1.byte _ _) hz hi3]
        exact ⟨⟨i + 1, by omega, rfl, rfl, trivial⟩, by simp [intOf]; omega⟩
      · have hik' : ¬ (i : Int) < (((p + 7) / 8 - p / 8 : Nat) : Int) := by omega
        obtain rfl : i = (p + 7) / 8 - p / 8 := by omega
        go_wp2_with fail
        go_quiet (fail)
        go_wp2
        go_ret2
        exact ⟨ret_take (take_val0 z B1.byte p ((p + 7) / 8 - p / 8) (by omega) (by omega)), ⟨B1.obj, B1.row, B1.reach, B1.byte, B1.lim⟩, K1.drewN _⟩
  · have hk0 : ¬ (0 : Int) < (((p + 7) / 8 - p / 8 : Nat) : Int) := by omega
    go_wp2_with fail
    all_goals
      refine wp_loop_once ?_
      go_wp2_with fail
      go_quiet (fail)
      go_wp2
      go_ret2
      exact ⟨rfl, ⟨B1.obj, B1.row, B1.reach, B1.byte, B1.lim⟩, K1.drewN _⟩
end Go.Proofs.YtahibacjaoohiaaDoor
