/-
  Chapter 12 in whole numbers: Part, Bare, Over's and Mix's numbers, pixels of four numbers; facts on them. No Go text is walked here.
-/
import Derived.Test.YtdaapanmalcgbabDoorBase
namespace Go.Proofs.YtdaapanmalcgbabDoor
open Go.RowKit

/-- n brought within 0 to m. -/
def win (n m : Int) : Int := if n < 0 then 0 else if m < n then m else n
theorem win_lo {n m : Int} (h : n < 0) : win n m = 0 := if_pos h
theorem win_hi {n m : Int} (hm : 0 ≤ m) (h : m < n) : win n m = m := by unfold win; rw [if_neg (by omega), if_pos h]
theorem win_id {n m : Int} (h : 0 ≤ n) (h2 : n ≤ m) : win n m = n := by unfold win; rw [if_neg (by omega), if_neg (by omega)]
theorem win_bd {n m : Int} (hm : 0 ≤ m) : 0 ≤ win n m ∧ win n m ≤ m := by unfold win; split <;> (try split) <;> omega

theorem mul_bd {x y : Int} {M N : Nat} (hx0 : 0 ≤ x) (hx : x ≤ M) (hy0 : 0 ≤ y) (hy : y ≤ N) : 0 ≤ x * y ∧ x * y ≤ (M * N : Nat) := by
  refine ⟨Int.mul_nonneg hx0 hy0, ?_⟩
  have h1 : x * y ≤ x * N := Int.mul_le_mul_of_nonneg_left hy hx0
  have h2 : x * (N : Int) ≤ M * N := Int.mul_le_mul_of_nonneg_right hx (by omega)
  rw [Int.natCast_mul]
  omega

def partv (a b : Int) : Int := (win a 255 * win b 255 + 127) / 255
def baredv (c a : Int) : Int := if (c * 255 + a / 2) / a < 255 then (c * 255 + a / 2) / a else 255
def addv (a b : Int) : Int := if a + b < 255 then a + b else 255
def mixv (a b t : Int) : Int := (a * (65536 - t) + b * t + 32768) / 65536

theorem part_mul (a b : Int) : 0 ≤ win a 255 * win b 255 ∧ win a 255 * win b 255 ≤ 65025 := by
  have h1 := win_bd (n := a) (m := 255) (by omega)
  have h2 := win_bd (n := b) (m := 255) (by omega)
  exact mul_bd (M := 255) (N := 255) h1.1 h1.2 h2.1 h2.2
theorem partv_bd (a b : Int) : 0 ≤ partv a b ∧ partv a b ≤ 255 := by
  have := part_mul a b
  unfold partv; omega
theorem partv_comm (a b : Int) : partv a b = partv b a := by unfold partv; rw [Int.mul_comm]
theorem partv_le {a b : Int} (hb : 0 ≤ b) (hb2 : b ≤ 255) : partv a b ≤ b := by
  have h1 := win_bd (n := a) (m := 255) (by omega)
  unfold partv
  rw [win_id hb hb2]
  have : win a 255 * b ≤ 255 * b := Int.mul_le_mul_of_nonneg_right h1.2 hb
  omega
theorem partv_255 {a : Int} (ha : 0 ≤ a) (ha2 : a ≤ 255) : partv a 255 = a := by
  unfold partv
  rw [win_id ha ha2, show win 255 255 = 255 by decide]
  omega
theorem partv_0 (a : Int) : partv a 0 = 0 := by
  unfold partv
  rw [show win 0 255 = 0 by decide, Int.mul_zero]
  decide
theorem partv_mono {a b c : Int} (ha : 0 ≤ a) (hab : a ≤ b) (hb : b ≤ 255) : partv a c ≤ partv b c := by
  have h1 := win_bd (n := c) (m := 255) (by omega)
  unfold partv
  rw [win_id ha (by omega), win_id (by omega) hb]
  have : a * win c 255 ≤ b * win c 255 := Int.mul_le_mul_of_nonneg_right hab h1.1
  omega
theorem baredv_bd {c a : Int} (hc : 0 ≤ c) (ha : 1 ≤ a) : 0 ≤ baredv c a ∧ baredv c a ≤ 255 := by
  have : 0 ≤ (c * 255 + a / 2) / a := Int.ediv_nonneg (by omega) (by omega)
  unfold baredv; split <;> omega
theorem baredv_255 {c : Int} (hc : 0 ≤ c) (hc2 : c ≤ 255) : baredv c 255 = c := by unfold baredv; split <;> omega
theorem addv_bd {a b : Int} (ha : 0 ≤ a) (hb : 0 ≤ b) : 0 ≤ addv a b ∧ addv a b ≤ 255 := by unfold addv; split <;> omega
theorem addv_mono {a b c d : Int} (h : a ≤ b) (h2 : c ≤ d) : addv a c ≤ addv b d := by unfold addv; split <;> split <;> omega
theorem addv_0 {a : Int} (h2 : a ≤ 255) : addv a 0 = a := by unfold addv; split <;> omega
theorem addv_0' {a : Int} (h2 : a ≤ 255) : addv 0 a = a := by unfold addv; split <;> omega
theorem mixv_mul {a b t : Int} (ha : 0 ≤ a) (ha2 : a ≤ 255) (hb : 0 ≤ b) (hb2 : b ≤ 255) (ht : 0 ≤ t) (ht2 : t ≤ 65536) : 0 ≤ a * (65536 - t) ∧ a * (65536 - t) ≤ 16711680 ∧ 0 ≤ b * t ∧ b * t ≤ 16711680 ∧ a * (65536 - t) + b * t ≤ 16711680 := by
  have h1 := mul_bd (x := a) (y := 65536 - t) (M := 255) (N := 65536) ha ha2 (by omega) (by omega)
  have h2 := mul_bd (x := b) (y := t) (M := 255) (N := 65536) hb hb2 (by omega) (by omega)
  have h3 : a * (65536 - t) ≤ 255 * (65536 - t) := Int.mul_le_mul_of_nonneg_right ha2 (by omega)
  have h4 : b * t ≤ 255 * t := Int.mul_le_mul_of_nonneg_right hb2 (by omega)
  omega
theorem mixv_bd {a b t : Int} (ha : 0 ≤ a) (ha2 : a ≤ 255) (hb : 0 ≤ b) (hb2 : b ≤ 255) (ht : 0 ≤ t) (ht2 : t ≤ 65536) : 0 ≤ mixv a b t ∧ mixv a b t ≤ 255 := by
  have := mixv_mul ha ha2 hb hb2 ht ht2
  unfold mixv; omega
theorem mixv_mono {a b c d t : Int} (h : a ≤ b) (h2 : c ≤ d) (ht : 0 ≤ t) (ht2 : t ≤ 65536) : mixv a c t ≤ mixv b d t := by
  have h3 : a * (65536 - t) ≤ b * (65536 - t) := Int.mul_le_mul_of_nonneg_right h (by omega)
  have h4 : c * t ≤ d * t := Int.mul_le_mul_of_nonneg_right h2 (by omega)
  unfold mixv; omega
theorem mixv_0 (a b : Int) : mixv a b 0 = a := by unfold mixv; omega
theorem mixv_1 (a b : Int) : mixv a b 65536 = b := by unfold mixv; omega

/-- A pixel's four numbers. -/
structure Px where
  r : Int
  g : Int
  b : Int
  a : Int
abbrev pv (p : Px) : Value := .agg #[.int .i64 p.r, .int .i64 p.g, .int .i64 p.b, .int .i64 p.a]
abbrev pcs (p : Px) : Array Value := #[.int .i64 p.r, .int .i64 p.g, .int .i64 p.b, .int .i64 p.a]
abbrev pblk (p : Px) : Obj := .cells #[.int .i64 p.r, .int .i64 p.g, .int .i64 p.b, .int .i64 p.a] 23
def zpx : Px := ⟨0, 0, 0, 0⟩

def isb (n : Int) : Bool := decide (0 ≤ n) && decide (n ≤ 255)
theorem isb_iff (n : Int) : isb n = true ↔ 0 ≤ n ∧ n ≤ 255 := by unfold isb; simp
def rightv (p : Px) : Bool := isb p.r && isb p.g && isb p.b && isb p.a
/-- Each number is one of 0 to 255. -/
structure Rt (p : Px) : Prop where
  r0 : 0 ≤ p.r
  r1 : p.r ≤ 255
  g0 : 0 ≤ p.g
  g1 : p.g ≤ 255
  b0 : 0 ≤ p.b
  b1 : p.b ≤ 255
  a0 : 0 ≤ p.a
  a1 : p.a ≤ 255
theorem rightv_iff (p : Px) : rightv p = true ↔ Rt p := by
  unfold rightv
  simp only [Bool.and_eq_true, isb_iff]
  exact ⟨fun ⟨⟨⟨h1, h2⟩, h3⟩, h4⟩ => ⟨h1.1, h1.2, h2.1, h2.2, h3.1, h3.2, h4.1, h4.2⟩, fun h => ⟨⟨⟨⟨h.r0, h.r1⟩, ⟨h.g0, h.g1⟩⟩, ⟨h.b0, h.b1⟩⟩, ⟨h.a0, h.a1⟩⟩⟩
def ownv (p : Px) : Px := if rightv p = true then p else zpx
theorem zpx_rt : Rt zpx := ⟨by decide, by decide, by decide, by decide, by decide, by decide, by decide, by decide⟩
theorem ownv_rt (p : Px) : Rt (ownv p) := by
  unfold ownv; split
  · exact (rightv_iff p).1 (by assumption)
  · exact zpx_rt
theorem ownv_id {p : Px} (h : Rt p) : ownv p = p := if_pos ((rightv_iff p).2 h)
def prev (p : Px) : Px := ⟨partv (ownv p).r (ownv p).a, partv (ownv p).g (ownv p).a, partv (ownv p).b (ownv p).a, (ownv p).a⟩
def barev (p : Px) : Px := if (ownv p).a = 0 then zpx else ⟨baredv (ownv p).r (ownv p).a, baredv (ownv p).g (ownv p).a, baredv (ownv p).b (ownv p).a, (ownv p).a⟩
def premv (p : Px) : Bool := rightv p && decide (p.r ≤ p.a) && decide (p.g ≤ p.a) && decide (p.b ≤ p.a)
def scalev (p : Px) (n : Int) : Px := ⟨partv (ownv p).r n, partv (ownv p).g n, partv (ownv p).b n, partv (ownv p).a n⟩
def overv (s d : Px) : Px := ⟨addv (ownv s).r (partv (ownv d).r (255 - (ownv s).a)), addv (ownv s).g (partv (ownv d).g (255 - (ownv s).a)), addv (ownv s).b (partv (ownv d).b (255 - (ownv s).a)), addv (ownv s).a (partv (ownv d).a (255 - (ownv s).a))⟩
def mixpv (p q : Px) (t : Int) : Px := ⟨mixv (ownv p).r (ownv q).r (win t 65536), mixv (ownv p).g (ownv q).g (win t 65536), mixv (ownv p).b (ownv q).b (win t 65536), mixv (ownv p).a (ownv q).a (win t 65536)⟩

/-- Premultiplied. -/
structure Pm (p : Px) : Prop where
  rt : Rt p
  r : p.r ≤ p.a
  g : p.g ≤ p.a
  b : p.b ≤ p.a
theorem premv_iff (p : Px) : premv p = true ↔ Pm p := by
  unfold premv
  simp only [Bool.and_eq_true, rightv_iff, decide_eq_true_eq]
  exact ⟨fun ⟨⟨⟨h1, h2⟩, h3⟩, h4⟩ => ⟨h1, h2, h3, h4⟩, fun h => ⟨⟨⟨h.rt, h.r⟩, h.g⟩, h.b⟩⟩
theorem scalev_rt (p : Px) (n : Int) : Rt (scalev p n) :=
  ⟨(partv_bd _ _).1, (partv_bd _ _).2, (partv_bd _ _).1, (partv_bd _ _).2, (partv_bd _ _).1, (partv_bd _ _).2, (partv_bd _ _).1, (partv_bd _ _).2⟩
theorem prev_pm (p : Px) : Pm (prev p) := by
  have h := ownv_rt p
  exact ⟨⟨(partv_bd _ _).1, (partv_bd _ _).2, (partv_bd _ _).1, (partv_bd _ _).2, (partv_bd _ _).1, (partv_bd _ _).2, h.a0, h.a1⟩, partv_le h.a0 h.a1, partv_le h.a0 h.a1, partv_le h.a0 h.a1⟩
theorem scalev_pm {p : Px} (h : Pm p) (n : Int) : Pm (scalev p n) := by
  refine ⟨scalev_rt p n, ?_, ?_, ?_⟩ <;> (unfold scalev; rw [ownv_id h.rt]; dsimp only)
  · exact partv_mono h.rt.r0 h.r h.rt.a1
  · exact partv_mono h.rt.g0 h.g h.rt.a1
  · exact partv_mono h.rt.b0 h.b h.rt.a1
theorem overv_rt (s d : Px) : Rt (overv s d) := by
  have h := ownv_rt s
  exact ⟨(addv_bd h.r0 (partv_bd _ _).1).1, (addv_bd h.r0 (partv_bd _ _).1).2, (addv_bd h.g0 (partv_bd _ _).1).1, (addv_bd h.g0 (partv_bd _ _).1).2, (addv_bd h.b0 (partv_bd _ _).1).1, (addv_bd h.b0 (partv_bd _ _).1).2, (addv_bd h.a0 (partv_bd _ _).1).1, (addv_bd h.a0 (partv_bd _ _).1).2⟩
theorem overv_pm {s d : Px} (h : Pm s) (k : Pm d) : Pm (overv s d) := by
  refine ⟨overv_rt s d, ?_, ?_, ?_⟩ <;> (unfold overv; rw [ownv_id h.rt, ownv_id k.rt]; dsimp only)
  · exact addv_mono h.r (partv_mono k.rt.r0 k.r k.rt.a1)
  · exact addv_mono h.g (partv_mono k.rt.g0 k.g k.rt.a1)
  · exact addv_mono h.b (partv_mono k.rt.b0 k.b k.rt.a1)
theorem mixpv_rt (p q : Px) (t : Int) : Rt (mixpv p q t) := by
  have h := ownv_rt p
  have k := ownv_rt q
  have ht := win_bd (n := t) (m := 65536) (by omega)
  exact ⟨(mixv_bd h.r0 h.r1 k.r0 k.r1 ht.1 ht.2).1, (mixv_bd h.r0 h.r1 k.r0 k.r1 ht.1 ht.2).2, (mixv_bd h.g0 h.g1 k.g0 k.g1 ht.1 ht.2).1, (mixv_bd h.g0 h.g1 k.g0 k.g1 ht.1 ht.2).2, (mixv_bd h.b0 h.b1 k.b0 k.b1 ht.1 ht.2).1, (mixv_bd h.b0 h.b1 k.b0 k.b1 ht.1 ht.2).2, (mixv_bd h.a0 h.a1 k.a0 k.a1 ht.1 ht.2).1, (mixv_bd h.a0 h.a1 k.a0 k.a1 ht.1 ht.2).2⟩
theorem mixpv_pm {p q : Px} (h : Pm p) (k : Pm q) (t : Int) : Pm (mixpv p q t) := by
  have ht := win_bd (n := t) (m := 65536) (by omega)
  refine ⟨mixpv_rt p q t, ?_, ?_, ?_⟩ <;> (unfold mixpv; rw [ownv_id h.rt, ownv_id k.rt]; dsimp only)
  · exact mixv_mono h.r k.r ht.1 ht.2
  · exact mixv_mono h.g k.g ht.1 ht.2
  · exact mixv_mono h.b k.b ht.1 ht.2
theorem over_full {p q : Px} (h : Rt p) (ha : p.a = 255) : overv p q = p := by
  unfold overv
  rw [ownv_id h, ha, show (255 : Int) - 255 = 0 by decide, partv_0, partv_0, partv_0, partv_0, addv_0 h.r1, addv_0 h.g1, addv_0 h.b1, addv_0 (by omega)]
  cases p; simp_all
theorem over_none {q : Px} (h : Rt q) : overv zpx q = q := by
  unfold overv
  rw [ownv_id zpx_rt, ownv_id h]
  simp only [zpx, Int.sub_zero]
  rw [partv_255 h.r0 h.r1, partv_255 h.g0 h.g1, partv_255 h.b0 h.b1, partv_255 h.a0 h.a1, addv_0' h.r1, addv_0' h.g1, addv_0' h.b1, addv_0' h.a1]
theorem over_zero {p : Px} (h : Rt p) : overv p zpx = p := by
  unfold overv
  rw [ownv_id h, ownv_id zpx_rt]
  simp only [zpx, partv_comm 0, partv_0]
  rw [addv_0 h.r1, addv_0 h.g1, addv_0 h.b1, addv_0 h.a1]
theorem mix_0 {p q : Px} (h : Rt p) : mixpv p q 0 = p := by
  unfold mixpv
  rw [ownv_id h, show win 0 65536 = 0 by decide, mixv_0, mixv_0, mixv_0, mixv_0]
theorem mix_1 {p q : Px} (h : Rt q) : mixpv p q 65536 = q := by
  unfold mixpv
  rw [ownv_id h, show win 65536 65536 = 65536 by decide, mixv_1, mixv_1, mixv_1, mixv_1]
theorem scale_255 {p : Px} (h : Rt p) : scalev p 255 = p := by
  unfold scalev
  rw [ownv_id h, partv_255 h.r0 h.r1, partv_255 h.g0 h.g1, partv_255 h.b0 h.b1, partv_255 h.a0 h.a1]
theorem scale_0 (p : Px) : scalev p 0 = zpx := by
  unfold scalev
  rw [partv_0, partv_0, partv_0, partv_0]; rfl
theorem bare_pre {a b c : Int} (ha : 0 ≤ a) (ha2 : a ≤ 255) (hb : 0 ≤ b) (hb2 : b ≤ 255) (hc : 0 ≤ c) (hc2 : c ≤ 255) : prev ⟨a, b, c, 255⟩ = ⟨a, b, c, 255⟩ ∧ barev ⟨a, b, c, 255⟩ = ⟨a, b, c, 255⟩ := by
  have h : Rt ⟨a, b, c, 255⟩ := ⟨ha, ha2, hb, hb2, hc, hc2, by simp, by simp⟩
  constructor
  · unfold prev
    rw [ownv_id h]
    simp only [partv_255 ha ha2, partv_255 hb hb2, partv_255 hc hc2]
  · unfold barev
    rw [ownv_id h, if_neg (by simp)]
    simp only [baredv_255 ha ha2, baredv_255 hb hb2, baredv_255 hc hc2]
end Go.Proofs.YtdaapanmalcgbabDoor
