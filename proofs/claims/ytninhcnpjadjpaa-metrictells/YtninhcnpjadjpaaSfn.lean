/-
  Chapter 14 as numbers: which records there are, and why not; texts, tables and fonts as they lie in memory. No Go text is walked here.
-/
import Derived.Test.YtninhcnpjadjpaaPrt
import Derived.Test.YtninhcnpjadjpaaFew
namespace Go.Proofs.Ytninhcnpjadjpaa
open Go.RowKit

theorem toList_eq {x y : ByteArray} : (x.toList == y.toList) = decide (x = y) := by
  rw [ByteArray.toList_eq, ByteArray.toList_eq, Bool.eq_iff_iff, beq_iff_eq, decide_eq_true_iff]
  exact ⟨fun h => by cases x; cases y; simp only at h; rw [Array.toList_inj.1 h], fun h => by rw [h]⟩
theorem txt_no {x y : ByteArray} (h : ¬ x = y) : (x.toList == y.toList) = false := by rw [toList_eq, decide_eq_false h]
theorem txt_yes {x y : ByteArray} (h : x = y) : (x.toList == y.toList) = true := by rw [toList_eq, decide_eq_true h]
/-- Is t among the first k of s? -/
def hadn (s : Nat → ByteArray) (t : ByteArray) : Nat → Bool
  | 0 => false
  | k + 1 => hadn s t k || decide (s k = t)
theorem hadn_iff {s : Nat → ByteArray} {t : ByteArray} : ∀ {k : Nat}, hadn s t k = true ↔ ∃ j, j < k ∧ s j = t
  | 0 => by simp [hadn]
  | k + 1 => by
    rw [hadn, Bool.or_eq_true, hadn_iff, decide_eq_true_iff]
    constructor
    · rintro (⟨j, h1, h2⟩ | h)
      · exact ⟨j, by omega, h2⟩
      · exact ⟨k, by omega, h⟩
    · rintro ⟨j, h1, h2⟩
      rcases Nat.lt_or_ge j k with h | h
      · exact .inl ⟨j, h, h2⟩
      · obtain rfl : j = k := by omega
        exact .inr h2
theorem hadn_no {s : Nat → ByteArray} {t : ByteArray} {k : Nat} : hadn s t k = false ↔ ∀ j, j < k → s j ≠ t := by
  rw [← Bool.not_eq_true, hadn_iff]
  exact ⟨fun h j hj e => h ⟨j, hj, e⟩, fun h ⟨j, hj, e⟩ => h j hj e⟩
theorem hadn_congr {s s' : Nat → ByteArray} {t : ByteArray} {k : Nat} (h : ∀ j, j < k → s j = s' j) : hadn s t k = hadn s' t k := by
  rw [Bool.eq_iff_iff, hadn_iff, hadn_iff]
  exact ⟨fun ⟨j, h1, h2⟩ => ⟨j, h1, by rw [← h j h1]; exact h2⟩, fun ⟨j, h1, h2⟩ => ⟨j, h1, by rw [h j h1]; exact h2⟩⟩

/-- r is where t stands first among the n of s, or n. -/
structure IsF (s : Nat → ByteArray) (n : Nat) (t : ByteArray) (r : Nat) : Prop where
  le : r ≤ n
  no : ∀ j, j < r → s j ≠ t
  yes : r < n → s r = t
theorem isF_ex (s : Nat → ByteArray) (t : ByteArray) : ∀ n, ∃ r, IsF s n t r
  | 0 => ⟨0, ⟨by omega, fun j h => by omega, fun h => by omega⟩⟩
  | n + 1 => by
    obtain ⟨r, h⟩ := isF_ex s t n
    have hle := h.le
    by_cases h1 : r < n
    · exact ⟨r, ⟨by omega, h.no, fun _ => h.yes h1⟩⟩
    · obtain rfl : r = n := by omega
      by_cases h2 : s r = t
      · exact ⟨r, ⟨by omega, h.no, fun _ => h2⟩⟩
      · exact ⟨r + 1, ⟨by omega, fun j hj => by
          rcases Nat.lt_or_ge j r with h3 | h3
          · exact h.no j h3
          · obtain rfl : j = r := by omega
            exact h2, fun h => by omega⟩⟩
theorem IsF.had {s : Nat → ByteArray} {n : Nat} {t : ByteArray} {r : Nat} (h : IsF s n t r) : hadn s t n = decide (r < n) := by
  rw [Bool.eq_iff_iff, hadn_iff, decide_eq_true_iff]
  constructor
  · rintro ⟨j, h1, h2⟩
    rcases Nat.lt_or_ge j r with h3 | h3
    · exact (h.no j h3 h2).elim
    · omega
  · exact fun h1 => ⟨r, h1, h.yes h1⟩
theorem IsF.eq {s : Nat → ByteArray} {n : Nat} {t : ByteArray} {r r' : Nat} (h : IsF s n t r) (h' : IsF s n t r') : r = r' := by
  have := h.le
  have := h'.le
  rcases Nat.lt_trichotomy r r' with h1 | h1 | h1
  · exact (h'.no r h1 (h.yes (by omega))).elim
  · exact h1
  · exact (h.no r' h1 (h'.yes (by omega))).elim
/-- Where no two are the same, each is found where it stands. -/
theorem isF_at {s : Nat → ByteArray} {n k : Nat} (hk : k < n) (h : ∀ j, j < k → s j ≠ s k) : IsF s n (s k) k := ⟨by omega, h, fun _ => rfl⟩

/-- The texts s lie at a. -/
structure Strs (w : World) (a : Option Addr) (len cap : Nat) (s : Nat → ByteArray) : Prop where
  lc : len ≤ cap
  reach : len ≤ 100000
  spot : 0 < len → ∃ b off, a = some ⟨b, off, none⟩ ∧ b < w.heap.size ∧ ∀ i, i < len → w.cell? ⟨b, off + i, none⟩ = some (.string (s i))
theorem Strs.below {w w' : World} {a : Option Addr} {len cap : Nat} {s : Nat → ByteArray} {B : Nat} (h : Strs w a len cap s) (hb : Below B w w') (hB : w.heap.size ≤ B) : Strs w' a len cap s := by
  refine ⟨h.lc, h.reach, fun hl => ?_⟩
  obtain ⟨b, off, e, hlt, hc⟩ := h.spot hl
  refine ⟨b, off, e, by have := hb.size; omega, fun i hi => ?_⟩
  rw [World.cell?_of_block (a := ⟨b, off + i, none⟩) (hb.block b (by omega))]
  exact hc i hi
theorem Strs.take {w : World} {a : Option Addr} {len cap : Nat} {s : Nat → ByteArray} (h : Strs w a len cap s) {k : Nat} (hk : k ≤ len) : Strs w a k cap s :=
  ⟨by have := h.lc; omega, by have := h.reach; omega, fun h0 => by
    obtain ⟨b, off, e, hb, hc⟩ := h.spot (by omega)
    exact ⟨b, off, e, hb, fun i hi => hc i (by omega)⟩⟩
theorem Strs.none (w : World) (s : Nat → ByteArray) : Strs w .none 0 0 s := ⟨by omega, by omega, fun h => by omega⟩

/-- A table: a slice of bytes. -/
structure Tab where
  a : Option Addr
  l : Nat
  c : Nat
  z : Nat → Nat
def Tab.txt (t : Tab) : ByteArray := bstr t.z t.l
/-- The tables t lie at a. -/
structure Tabs (w : World) (a : Option Addr) (len cap : Nat) (t : Nat → Tab) : Prop where
  lc : len ≤ cap
  reach : len ≤ 6000000000000
  spot : 0 < len → ∃ b off, a = some ⟨b, off, none⟩ ∧ b < w.heap.size ∧ ∀ i, i < len → w.cell? ⟨b, off + i, none⟩ = some (.slice (t i).a (t i).l (t i).c)
  each : ∀ i, i < len → Lies w (t i).a (t i).l (t i).c (t i).z
theorem Tabs.below {w w' : World} {a : Option Addr} {len cap : Nat} {t : Nat → Tab} {B : Nat} (h : Tabs w a len cap t) (hb : Below B w w') (hB : w.heap.size ≤ B) : Tabs w' a len cap t := by
  refine ⟨h.lc, h.reach, fun hl => ?_, fun i hi => (h.each i hi).below hb hB⟩
  obtain ⟨b, off, e, hlt, hc⟩ := h.spot hl
  refine ⟨b, off, e, by have := hb.size; omega, fun i hi => ?_⟩
  rw [World.cell?_of_block (a := ⟨b, off + i, none⟩) (hb.block b (by omega))]
  exact hc i hi
theorem Tabs.none (w : World) (t : Nat → Tab) : Tabs w .none 0 0 t := ⟨by omega, by omega, fun h => by omega, fun i h => by omega⟩

/-- n records lie at a: three cells each. -/
structure Recs (w : World) (a : Option Addr) (n cap : Nat) (tg : Nat → ByteArray) (at' sz : Nat → Nat) : Prop where
  lc : n ≤ cap
  reach : n ≤ 64
  spot : 0 < n → ∃ g, a = some ⟨g, 0, none⟩ ∧ g < w.heap.size ∧ ∀ i, i < n → w.cell? ⟨g, i * 3, none⟩ = some (.string (tg i)) ∧ w.cell? ⟨g, i * 3 + 1, none⟩ = some (.int .i64 (at' i : Nat)) ∧ w.cell? ⟨g, i * 3 + 2, none⟩ = some (.int .i64 (sz i : Nat))
theorem Recs.below {w w' : World} {a : Option Addr} {n cap : Nat} {tg : Nat → ByteArray} {at' sz : Nat → Nat} {B : Nat} (h : Recs w a n cap tg at' sz) (hb : Below B w w') (hB : w.heap.size ≤ B) : Recs w' a n cap tg at' sz := by
  refine ⟨h.lc, h.reach, fun hl => ?_⟩
  obtain ⟨g, e, hlt, hc⟩ := h.spot hl
  refine ⟨g, e, by have := hb.size; omega, fun i hi => ?_⟩
  rw [World.cell?_of_block (a := ⟨g, i * 3, none⟩) (hb.block g (by omega)), World.cell?_of_block (a := ⟨g, i * 3 + 1, none⟩) (hb.block g (by omega)), World.cell?_of_block (a := ⟨g, i * 3 + 2, none⟩) (hb.block g (by omega))]
  exact hc i hi

/-- A font at p: the bytes z, n records. -/
structure Fnt (w : World) (p : Nat) (len n : Nat) (z : Nat → Nat) (tg : Nat → ByteArray) (at' sz : Nat → Nat) : Prop where
  blk : ∃ a c ra rc, w.heap[p]? = some (.cells #[.slice a len c, .slice ra n rc] 67 (0, 0)) ∧ Lies w a len c z ∧ Recs w ra n rc tg at' sz
theorem Fnt.below {w w' : World} {p len n : Nat} {z : Nat → Nat} {tg : Nat → ByteArray} {at' sz : Nat → Nat} {B : Nat} (h : Fnt w p len n z tg at' sz) (hb : Below B w w') (hB : w.heap.size ≤ B) : Fnt w' p len n z tg at' sz := by
  obtain ⟨a, c, ra, rc, h1, h2, h3⟩ := h.blk
  exact ⟨⟨a, c, ra, rc, (hb.block p (by have := blk_lt h1; omega)).trans h1, h2.below hb hB, h3.below hb hB⟩⟩
/-- A font of the reference's at p. -/
structure RFnt (w : World) (p n : Nat) (tg : Nat → ByteArray) (t : Nat → Tab) : Prop where
  blk : ∃ a c a2 c2, w.heap[p]? = some (.cells #[.slice a n c, .slice a2 n c2] 79 (0, 0)) ∧ Strs w a n c tg ∧ Tabs w a2 n c2 t
theorem RFnt.below {w w' : World} {p n : Nat} {tg : Nat → ByteArray} {t : Nat → Tab} {B : Nat} (h : RFnt w p n tg t) (hb : Below B w w') (hB : w.heap.size ≤ B) : RFnt w' p n tg t := by
  obtain ⟨a, c, a2, c2, h1, h2, h3⟩ := h.blk
  exact ⟨⟨a, c, a2, c2, (hb.block p (by have := blk_lt h1; omega)).trans h1, h2.below hb hB, h3.below hb hB⟩⟩

def tgv (z : Nat → Nat) (k : Nat) : ByteArray := bstr (fun i => z (12 + 16 * k + i)) 4
def atv (z : Nat → Nat) (k : Nat) : Nat := numv z (12 + 16 * k + 8) 4
def szv (z : Nat → Nat) (k : Nat) : Nat := numv z (12 + 16 * k + 12) 4
def cntv (z : Nat → Nat) : Nat := numv z 4 2
/-- The three marks. -/
def markB (s : ByteArray) : Bool := decide (s.toList = [0, 1, 0, 0]) || decide (s.toList = [79, 84, 84, 79]) || decide (s.toList = [116, 114, 117, 101])
/-- What is wrong with record k, or 0. -/
def chkv (z : Nat → Nat) (len k : Nat) : Nat := if hadn (tgv z) (tgv z k) k = true then 2 else if atv z k + szv z k ≤ len then 0 else 3
def fbv (z : Nat → Nat) (len : Nat) : Nat → Nat
  | 0 => 0
  | k + 1 => if fbv z len k = 0 then chkv z len k else fbv z len k
theorem fbv_ok {z : Nat → Nat} {len : Nat} : ∀ {n : Nat}, fbv z len n = 0 ↔ ∀ j, j < n → chkv z len j = 0
  | 0 => by simp [fbv]
  | n + 1 => by
    rw [fbv]
    by_cases h : fbv z len n = 0
    · rw [if_pos h]
      have h' := fbv_ok.1 h
      exact ⟨fun e j hj => by
        rcases Nat.lt_or_ge j n with h1 | h1
        · exact h' j h1
        · obtain rfl : j = n := by omega
          exact e, fun e => e n (by omega)⟩
    · rw [if_neg h]
      exact ⟨fun e => (h e).elim, fun e => (h (fbv_ok.2 fun j hj => e j (by omega))).elim⟩
theorem fbv_hit {z : Nat → Nat} {len k : Nat} (h0 : ∀ j, j < k → chkv z len j = 0) (h1 : chkv z len k ≠ 0) : ∀ {n : Nat}, k < n → fbv z len n = chkv z len k
  | 0, h => by omega
  | n + 1, h => by
    rw [fbv]
    by_cases e : k = n
    · subst e; rw [if_pos (fbv_ok.2 h0)]
    · have := fbv_hit h0 h1 (n := n) (by omega)
      rw [this, if_neg h1]
/-- What Open tells: 0, or why not. -/
def opnv (z : Nat → Nat) (len : Nat) : Nat :=
  if len < 12 then 3 else if markB (bstr z 4) = false then 2 else if 64 < cntv z then 4 else if len < 12 + 16 * cntv z then 3 else fbv z len (cntv z)
/-- What the head tells. -/
def cntE (z : Nat → Nat) (len : Nat) : Nat := if len < 12 then 3 else if markB (bstr z 4) = false then 2 else if 64 < cntv z then 4 else 0
theorem opnv_head {z : Nat → Nat} {len : Nat} (h : cntE z len ≠ 0) : opnv z len = cntE z len := by
  unfold cntE at h; unfold opnv cntE
  split
  · rfl
  · split
    · rfl
    · split
      · rfl
      · rename_i h1 h2 h3; rw [if_neg h1, if_neg h2, if_neg h3] at h; exact (h rfl).elim
theorem cntE_ok {z : Nat → Nat} {len : Nat} (h : cntE z len = 0) : 12 ≤ len ∧ markB (bstr z 4) = true ∧ cntv z ≤ 64 ∧ opnv z len = if len < 12 + 16 * cntv z then 3 else fbv z len (cntv z) := by
  unfold cntE at h
  unfold opnv
  by_cases h1 : len < 12
  · rw [if_pos h1] at h; cases h
  · rw [if_neg h1] at h
    by_cases h2 : markB (bstr z 4) = false
    · rw [if_pos h2] at h; cases h
    · rw [if_neg h2] at h
      by_cases h3 : 64 < cntv z
      · rw [if_pos h3] at h; cases h
      · exact ⟨by omega, by simpa using h2, by omega, by rw [if_neg h1, if_neg h2, if_neg h3]⟩
theorem chkv_le (z : Nat → Nat) (len k : Nat) : chkv z len k = 0 ∨ chkv z len k = 2 ∨ chkv z len k = 3 := by
  unfold chkv; split
  · exact .inr (.inl rfl)
  · split
    · exact .inl rfl
    · exact .inr (.inr rfl)
theorem chkv_ok {z : Nat → Nat} {len k : Nat} (h : chkv z len k = 0) : (∀ j, j < k → tgv z j ≠ tgv z k) ∧ atv z k + szv z k ≤ len := by
  unfold chkv at h
  by_cases h1 : hadn (tgv z) (tgv z k) k = true
  · rw [if_pos h1] at h; cases h
  · rw [if_neg h1] at h
    refine ⟨hadn_no.1 (by simpa using h1), ?_⟩
    by_cases h2 : atv z k + szv z k ≤ len
    · exact h2
    · rw [if_neg h2] at h; cases h

/-- May these be a font's tags? -/
def okN (s : Nat → ByteArray) : Nat → Bool
  | 0 => true
  | k + 1 => okN s k && (decide ((s k).size = 4) && !hadn s (s k) k)
theorem okN_iff {s : Nat → ByteArray} : ∀ {n : Nat}, okN s n = true ↔ ∀ k, k < n → (s k).size = 4 ∧ ∀ j, j < k → s j ≠ s k
  | 0 => by simp [okN]
  | n + 1 => by
    rw [okN, Bool.and_eq_true, okN_iff, Bool.and_eq_true, decide_eq_true_iff, Bool.not_eq_true', hadn_no]
    exact ⟨fun ⟨h1, h2⟩ k hk => by
      rcases Nat.lt_or_ge k n with h3 | h3
      · exact h1 k h3
      · obtain rfl : k = n := by omega
        exact h2, fun h => ⟨fun k hk => h k (by omega), h n (by omega)⟩⟩
theorem okN_hit {s : Nat → ByteArray} {k n : Nat} (hk : k < n) (h : ¬ ((s k).size = 4 ∧ ∀ j, j < k → s j ≠ s k)) : okN s n = false := by
  rw [← Bool.not_eq_true, okN_iff]
  exact fun h' => h (h' k hk)
end Go.Proofs.Ytninhcnpjadjpaa
