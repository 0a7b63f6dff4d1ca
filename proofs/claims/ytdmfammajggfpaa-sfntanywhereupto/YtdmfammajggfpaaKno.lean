/-
  Chapter 14's example: the law's 'known' as a contract.
-/
import Derived.Test.YtdmfammajggfpaaPur
import Derived.Test.YtdmfammajggfpaaTbl
namespace Go.Proofs.Ytdmfammajggfpaa
open Go.RowKit

def abcd : ByteArray := { data := #[97, 98, 99, 100] }
def efgh : ByteArray := { data := #[101, 102, 103, 104] }
def s2 (i : Nat) : ByteArray := if i = 0 then { data := #[97, 98, 99, 100] } else { data := #[101, 102, 103, 104] }
def t2 (ga gb : Nat) (i : Nat) : Tab := if i = 0 then ⟨some ⟨ga, 0, none⟩, 2, 2, zl [1, 2]⟩ else ⟨some ⟨gb, 0, none⟩, 1, 1, zl [3]⟩
theorem t2_le (ga gb : Nat) {k : Nat} (hk : k < 2) : (t2 ga gb k).l ≤ 100 := by
  rcases (show k = 0 ∨ k = 1 by omega) with rfl | rfl
  · show (2 : Nat) ≤ 100
    omega
  · show (1 : Nat) ≤ 100
    omega
/-- The font of chapter 14's two tables. -/
def l47 : List Int := [0, 1, 0, 0, 0, 2, 0, 0, 0, 0, 0, 0, 97, 98, 99, 100, 0, 0, 0, 0, 0, 0, 0, 44, 0, 0, 0, 2, 101, 102, 103, 104, 0, 0, 0, 0, 0, 0, 0, 46, 0, 0, 0, 1, 1, 2, 3]
theorem lay47 (ga gb : Nat) : layB s2 (t2 ga gb) 2 = l47 := by kernel_rfl
theorem ok2 : okN s2 2 = true := by kernel_rfl
theorem l47_byt : Byt l47 := by
  intro i
  have h : ∀ i : Fin 47, 0 ≤ l47.getD i.val 0 ∧ l47.getD i.val 0 < 256 := by decide +kernel
  by_cases hi : i < 47
  · exact h ⟨i, hi⟩
  · rw [List.getD_eq_getElem?_getD, List.getElem?_eq_none (by show 47 ≤ i; omega)]; simp
theorem opn47 : opnv (zb l47) 47 = 0 := by kernel_rfl
theorem cnt47 : cntv (zb l47) = 2 := by kernel_rfl
theorem tg47 : tgv (zb l47) 0 = { data := #[97, 98, 99, 100] } ∧ tgv (zb l47) 1 = { data := #[101, 102, 103, 104] } := ⟨by kernel_rfl, by kernel_rfl⟩
theorem rec47 : atv (zb l47) 1 = 46 ∧ szv (zb l47) 1 = 1 := ⟨by kernel_rfl, by kernel_rfl⟩
theorem e47 : (bstr (fun i => zb l47 (46 + i)) 1).toList = [3] := by kernel_rfl

theorem isF47 : IsF (tgv (zb l47)) 2 { data := #[101, 102, 103, 104] } 1 := by
  refine ⟨by omega, fun j hj => ?_, fun _ => tg47.2⟩
  obtain rfl : j = 0 := by omega
  rw [tg47.1]
  exact fun e => by cases e

/-- Two texts, two tables, in memory, as they are laid out by known. -/
theorem laid2 (w : World) {W : World} (hW : W = (((w.alloc (.cells #[.string { data := #[97, 98, 99, 100] }, .string { data := #[101, 102, 103, 104] }] 9)).alloc (.cells #[.int .u8 1, .int .u8 2] 5)).alloc (.cells #[.int .u8 3] 5)).alloc (.cells #[.slice (some ⟨w.heap.size + 1, 0, none⟩) 2 2, .slice (some ⟨w.heap.size + 1 + 1, 0, none⟩) 1 1] 22)) :
    Strs W (some ⟨w.heap.size, 0, none⟩) 2 2 s2 ∧ Tabs W (some ⟨w.heap.size + 1 + 1 + 1, 0, none⟩) 2 2 (t2 (w.heap.size + 1) (w.heap.size + 1 + 1)) ∧ Below w.heap.size w W := by
  subst hW
  have b0 := blk_new w (.cells #[.string { data := #[97, 98, 99, 100] }, .string { data := #[101, 102, 103, 104] }] 9)
  have b1 := blk_new (w.alloc (.cells #[.string { data := #[97, 98, 99, 100] }, .string { data := #[101, 102, 103, 104] }] 9)) (.cells #[.int .u8 1, .int .u8 2] 5)
  have b2 := blk_new ((w.alloc (.cells #[.string { data := #[97, 98, 99, 100] }, .string { data := #[101, 102, 103, 104] }] 9)).alloc (.cells #[.int .u8 1, .int .u8 2] 5)) (.cells #[.int .u8 3] 5)
  have b3 := blk_new (((w.alloc (.cells #[.string { data := #[97, 98, 99, 100] }, .string { data := #[101, 102, 103, 104] }] 9)).alloc (.cells #[.int .u8 1, .int .u8 2] 5)).alloc (.cells #[.int .u8 3] 5)) (.cells #[.slice (some ⟨w.heap.size + 1, 0, none⟩) 2 2, .slice (some ⟨w.heap.size + 1 + 1, 0, none⟩) 1 1] 22)
  have c0 := blk_alloc (blk_alloc (blk_alloc b0 (.cells #[.int .u8 1, .int .u8 2] 5)) (.cells #[.int .u8 3] 5)) (.cells #[.slice (some ⟨w.heap.size + 1, 0, none⟩) 2 2, .slice (some ⟨w.heap.size + 1 + 1, 0, none⟩) 1 1] 22)
  have c1 := blk_alloc (blk_alloc b1 (.cells #[.int .u8 3] 5)) (.cells #[.slice (some ⟨w.heap.size + 1, 0, none⟩) 2 2, .slice (some ⟨w.heap.size + 1 + 1, 0, none⟩) 1 1] 22)
  have c2 := blk_alloc b2 (.cells #[.slice (some ⟨w.heap.size + 1, 0, none⟩) 2 2, .slice (some ⟨w.heap.size + 1 + 1, 0, none⟩) 1 1] 22)
  simp only [World.size_alloc] at c1 c2 b3
  refine ⟨⟨Nat.le_refl _, by omega, fun _ => ⟨_, 0, rfl, blk_lt c0, fun i hi => ?_⟩⟩, ⟨Nat.le_refl _, by omega, fun _ => ⟨_, 0, rfl, blk_lt b3, fun i hi => ?_⟩, fun i hi => ?_⟩, ?_⟩
  · rw [blk_cell c0, Nat.zero_add]
    rcases (show i = 0 ∨ i = 1 by omega) with rfl | rfl <;> rfl
  · rw [blk_cell b3, Nat.zero_add]
    rcases (show i = 0 ∨ i = 1 by omega) with rfl | rfl <;> rfl
  · rcases (show i = 0 ∨ i = 1 by omega) with rfl | rfl
    · exact lies_lit (cs := [1, 2]) rfl (by simp) c1
    · exact lies_lit (cs := [3]) rfl (by simp) c2
  · exact ((((Below.refl _ w).alloc (Nat.le_refl _) _).alloc (by simp) _).alloc (by simp; omega) _).alloc (by simp; omega) _

set_option maxRecDepth 100000 in
set_option maxHeartbeats 1600000 in
theorem known_any (w : World) : Calls Try.prog 8 #[] w fun e w' => e = .returned (.bool true) ∧ Below w.heap.size w w' := by
  obtain ⟨W, hW⟩ : ∃ W, W = (((w.alloc (.cells #[.string { data := #[97, 98, 99, 100] }, .string { data := #[101, 102, 103, 104] }] 9)).alloc (.cells #[.int .u8 1, .int .u8 2] 5)).alloc (.cells #[.int .u8 3] 5)).alloc (.cells #[.slice (some ⟨w.heap.size + 1, 0, none⟩) 2 2, .slice (some ⟨w.heap.size + 1 + 1, 0, none⟩) 1 1] 22) := ⟨_, rfl⟩
  obtain ⟨hS, hT, bW⟩ := laid2 w hW
  have L := lay_yes _ 2 2 s2 _ 2 (t2 (w.heap.size + 1) (w.heap.size + 1 + 1)) W hS hT (by omega) ok2 (fun k hk => t2_le _ _ hk)
  rw [lay47] at L
  have HW : Hid (W = _) := hW
  clear hW hS hT
  go_enter Try.func8, Try.ntmps8
  go_wp2_with fail
  rw [← HW.out]
  refine L.mono ?_
  rintro e w1 ⟨g, c, rfl, hO, b1⟩
  have B1 := bW.trans (b1.mono bW.size)
  have LB : Lies w1 (some ⟨g, 0, none⟩) 47 c (zb l47) := hO.liesB l47_byt (by show 47 ≤ _; omega)
  clear L hO
  go_wp2_with fail
  refine (open_any _ 47 c (zb l47) w1 LB (by omega)).mono ?_
  rintro e w2 ⟨b2, ⟨hne, _⟩ | ⟨_, p, rfl, hp, hF⟩⟩
  · exact (hne.out opn47).elim
  · rw [cnt47] at hF
    have B2 := B1.trans (b2.mono B1.size)
    have hne : ∀ W : World, (binOp .eql 29 (.pointer (some ⟨p, 0, none⟩)) (.pointer none)).run Try.prog W = .ok (.bool false) W := fun W => by kernel_rfl
    have TB := fun W (h : Fnt W p 47 2 (zb l47) (tgv (zb l47)) (atv (zb l47)) (szv (zb l47))) => table_yes p 47 2 (zb l47) (tgv (zb l47)) (atv (zb l47)) (szv (zb l47)) { data := #[101, 102, 103, 104] } 1 W h isF47 (by omega) (by rw [rec47.1, rec47.2]; omega)
    simp only [rec47.1, rec47.2] at TB
    clear LB
    go_wp2_with fail
    refine (TB _ hF).mono ?_
    rintro e w3 ⟨a3, c3, rfl, L3, b3⟩
    have B3 := B2.trans (b3.mono B2.size)
    have F3 := hF.below b3 (Nat.le_refl _)
    clear TB
    go_wp2_with fail
    refine (tags_any p 47 2 _ _ _ _ _ F3).mono ?_
    rintro e w4 ⟨g4, rfl, hg4, S4, b4⟩
    have B4 := B3.trans (b4.mono B3.size)
    have HC := conv_string (L3.below b4 (Nat.le_refl _))
    have hE := e47
    obtain ⟨X, hX⟩ : ∃ X, Hid (bstr (fun i => zb l47 (46 + i)) 1 = X) := ⟨_, rfl⟩
    rw [hX.out] at HC hE
    obtain ⟨b, off, e4, hb, hc⟩ := S4.spot (by omega)
    simp only [Option.some.injEq, Addr.mk.injEq, and_true] at e4
    obtain ⟨rfl, rfl⟩ := e4
    have k0 := hc 0 (by omega)
    have k1 := hc 1 (by omega)
    rw [tg47.1] at k0
    rw [tg47.2] at k1
    simp only [Nat.add_zero, Nat.zero_add] at k0 k1
    clear hc S4 L3 F3 hF
    go_wp2
    go_ret
    exact ⟨rfl, B4⟩
end Go.Proofs.Ytdmfammajggfpaa
