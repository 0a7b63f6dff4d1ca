/-
  versalhand.Pick as a contract; three numbers in one block.
-/
import Derived.Test.YtbaolijhjijlmaaKnown
namespace Go.Proofs.Ytbaolijhjijlmaa
open Go.RowKit

theorem ret_int {k : IntKind} {a b : Int} (h : a = b) : Ending.returned (.int k a) = .returned (.int k b) := by rw [h]

theorem pick_neg (n m : Int) (hm : 0 < m) (h : n.tmod m < 0) : n.tmod m + m = n % m := by
  have h1 := Int.tmod_eq_emod (a := n) (b := m)
  have h2 := Int.emod_nonneg n (by omega : m ≠ 0)
  split at h1 <;> omega
theorem pick_pos (n m : Int) (hm : 0 < m) (h : 0 ≤ n.tmod m) : n.tmod m = n % m := by
  have h1 := Int.tmod_eq_emod (a := n) (b := m)
  have h2 := Int.emod_lt_of_pos n hm
  split at h1 <;> omega
theorem tmod_bd (n m : Int) (hm : 0 < m) : -m < n.tmod m ∧ n.tmod m < m :=
  ⟨Int.neg_lt_of_neg_lt (by have := Int.tmod_lt_of_pos (-n) hm; rw [Int.neg_tmod] at this; exact this), Int.tmod_lt_of_pos n hm⟩

set_option maxHeartbeats 400000 in
theorem pick_any (n m : Int) (hm : 0 < m) (hm2 : m ≤ 1000) (w : World) :
    Calls Try.prog 17 #[.int .i64 n, .int .i64 m] w fun e w' => ∃ k : Nat, (k : Int) = n % m ∧ (k : Int) < m ∧ e = .returned (.int .i64 k) ∧ w' = w := by
  have hb := tmod_bd n m hm
  have h2 := Int.emod_nonneg n (by omega : m ≠ 0)
  have h3 := Int.emod_lt_of_pos n hm
  obtain ⟨k, hk⟩ : ∃ k : Nat, (k : Int) = n % m := ⟨(n % m).toNat, by omega⟩
  have hne : ¬ m = 0 := by omega
  by_cases hz : n.tmod m < 0
  · have e := pick_neg n m hm hz
    have E : Hid (n.tmod m + m = n % m) := e
    have HK : Hid ((k : Int) = n % m) := hk
    clear e h2 h3 hk
    go_enter Try.func17, Try.ntmps17
    go_wp2
    go_ret
    exact ⟨k, HK.out, by rw [HK.out]; exact Int.emod_lt_of_pos n hm, ret_int (by rw [HK.out, ← E.out]), rfl⟩
  · have e := pick_pos n m hm (by omega)
    have E : Hid (n.tmod m = n % m) := e
    have HK : Hid ((k : Int) = n % m) := hk
    clear e h2 h3 hk
    go_enter Try.func17, Try.ntmps17
    go_wp2
    go_ret
    exact ⟨k, HK.out, by rw [HK.out]; exact Int.emod_lt_of_pos n hm, ret_int (by rw [HK.out, ← E.out]), rfl⟩

/-- Three numbers in one block. -/
def Three (C : Nat) (T : TypeId) (x : Nat → Int) (w : World) : Prop := w.heap[C]? = some (.cells #[.int .i64 (x 0), .int .i64 (x 1), .int .i64 (x 2)] T)
def upd (x : Nat → Int) (k : Nat) (v : Int) : Nat → Int := fun i => if i = k then v else x i

theorem three_cell {C : Nat} {T : TypeId} {x : Nat → Int} {w : World} (h : Three C T x w) {k : Nat} (hk : k < 3) : w.cell? ⟨C, k, none⟩ = some (.int .i64 (x k)) := by
  rw [blk_cell h]
  match k, hk with
  | 0, _ => rfl
  | 1, _ => rfl
  | 2, _ => rfl
theorem three_free {C : Nat} {T : TypeId} {x : Nat → Int} {w : World} (h : Three C T x w) (k : Nat) : w.frozen? ⟨C, k, none⟩ = false := blk_free h k
theorem three_set {C : Nat} {T : TypeId} {x : Nat → Int} {w : World} (h : Three C T x w) {k : Nat} (hk : k < 3) (v : Int) : Three C T (upd x k v) (w.setCell ⟨C, k, none⟩ (.int .i64 v)) := by
  unfold Three
  rw [blk_set h]
  match k, hk with
  | 0, _ => rfl
  | 1, _ => rfl
  | 2, _ => rfl
theorem three_other {C : Nat} {T : TypeId} {x : Nat → Int} {w : World} (h : Three C T x w) {a : Addr} (ha : C ≠ a.block) (v : Value) : Three C T x (w.setCell a v) := by
  unfold Three; rw [blk_other v ha]; exact h
theorem three_drew {C : Nat} {T : TypeId} {x : Nat → Int} {w : World} (h : Three C T x w) : Three C T x w.drew := h
end Go.Proofs.Ytbaolijhjijlmaa
