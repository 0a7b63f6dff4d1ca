/-
  What is laid, opened: as numbers. No Go text is walked here.
-/
import Derived.Test.YtninhcnpjadjpaaLyw
import Derived.Test.YtninhcnpjadjpaaOpn
namespace Go.Proofs.Ytninhcnpjadjpaa
open Go.RowKit

theorem zb_at {P Y R : List Int} {i : Nat} (hi : i < Y.length) : zb (P ++ Y ++ R) (P.length + i) = zb Y i := by
  unfold zb
  rw [List.getD_eq_getElem?_getD, List.getD_eq_getElem?_getD, List.append_assoc, List.getElem?_append_right (by omega), Nat.add_sub_cancel_left, List.getElem?_append_left hi]
theorem zb_at' {L P Y R : List Int} {p i : Nat} (h : L = P ++ Y ++ R) (hp : P.length = p) (hi : i < Y.length) : zb L (p + i) = zb Y i := by
  subst h; subst hp; exact zb_at hi
theorem numv_big {z : Nat → Nat} {p s : Nat} (hs : s < 4294967296) (h : ∀ i, i < 4 → z (p + i) = zb (bigL s) i) : numv z p 4 = s := by
  have h0 := h 0 (by omega)
  have h1 := h 1 (by omega)
  have h2 := h 2 (by omega)
  have h3 := h 3 (by omega)
  have g0 : zb (bigL s) 0 = s / 16777216 := by unfold zb bigL; simp; omega
  have g1 : zb (bigL s) 1 = s / 65536 % 256 := by unfold zb bigL; simp; omega
  have g2 : zb (bigL s) 2 = s / 256 % 256 := by unfold zb bigL; simp; omega
  have g3 : zb (bigL s) 3 = s % 256 := by unfold zb bigL; simp; omega
  have e : numv z p 4 = (((0 * 256 + z (p + 0)) * 256 + z (p + 1)) * 256 + z (p + 2)) * 256 + z (p + 3) := rfl
  rw [e, h0, h1, h2, h3, g0, g1, g2, g3]
  omega
theorem bstr_txt {z : Nat → Nat} {s : ByteArray} {n : Nat} (hn : s.size = n) (h : ∀ i, i < n → z i = zb (txtL s) i) : bstr z n = s := by
  unfold bstr
  have e : ((List.range n).map fun i => UInt8.ofNat (z i)) = s.data.toList := by
    apply List.ext_getElem?
    intro i
    have hl : s.data.toList.length = n := by rw [Array.length_toList]; exact hn
    by_cases hi : i < n
    · have hi' : i < s.data.toList.length := by omega
      rw [List.getElem?_eq_getElem hi']
      simp only [List.getElem?_map, List.getElem?_range hi, Option.map_some]
      rw [h i hi]
      congr 1
      unfold zb txtL
      rw [List.getD_eq_getElem?_getD, List.getElem?_map, List.getElem?_eq_getElem hi']
      simp
    · rw [List.getElem?_eq_none (by simp; omega), List.getElem?_eq_none (by omega)]
  rw [e]

theorem byt_zb_at {z : Nat → Nat} {n i : Nat} (hi : i < n) : zb (byt z 0 n) i = z i := by
  unfold zb byt
  rw [List.getD_eq_getElem?_getD]
  simp [hi]

theorem recs_split (s : Nat → ByteArray) (t : Nat → Tab) (o : Nat) {k : Nat} : ∀ {n : Nat}, k < n → ∃ R, recsB s t o n = recsB s t o k ++ (txtL (s k) ++ (zer4 ++ (wd4 (o + sumN t k) ++ wd4 (t k).l))) ++ R
  | 0, h => by omega
  | n + 1, h => by
    by_cases e : k = n
    · subst e; exact ⟨[], by rw [recsB, List.append_nil]⟩
    · obtain ⟨R, hR⟩ := recs_split s t o (k := k) (n := n) (by omega)
      exact ⟨R ++ (txtL (s n) ++ (zer4 ++ (wd4 (o + sumN t n) ++ wd4 (t n).l))), by rw [recsB, hR, List.append_assoc]⟩
theorem body_split (t : Nat → Tab) {k : Nat} : ∀ {n : Nat}, k < n → ∃ R, bodyB t n = bodyB t k ++ byt (t k).z 0 (t k).l ++ R
  | 0, h => by omega
  | n + 1, h => by
    by_cases e : k = n
    · subst e; exact ⟨[], by rw [bodyB, List.append_nil]⟩
    · obtain ⟨R, hR⟩ := body_split t (k := k) (n := n) (by omega)
      exact ⟨R ++ byt (t n).z 0 (t n).l, by rw [bodyB, hR, List.append_assoc]⟩

theorem mark1_ok : markB { data := #[0, 1, 0, 0] } = true := by kernel_rfl
theorem head_at {R : List Int} (n : Nat) : markB (bstr (zb (headB n ++ R)) 4) = true ∧ cntv (zb (headB n ++ R)) = n := by
  have h : ∀ i, i < 12 → zb (headB n ++ R) i = zb (headB n) i := fun i hi => by
    have := zb_at' (L := headB n ++ R) (P := []) (Y := headB n) (R := R) (p := 0) (i := i) (by simp) rfl (by rw [headB_len]; exact hi)
    rwa [Nat.zero_add] at this
  constructor
  · have e : bstr (zb (headB n ++ R)) 4 = { data := #[0, 1, 0, 0] } := by
      have hz : ∀ i, i < 4 → zb (headB n ++ R) i = zb [0, 1, 0, 0] i := fun i hi => by
        rw [h i (by omega)]
        rcases (show i = 0 ∨ i = 1 ∨ i = 2 ∨ i = 3 by omega) with rfl | rfl | rfl | rfl <;> rfl
      rw [bstr_congr hz]; rfl
    rw [e]
    exact mark1_ok
  · show numv (zb (headB n ++ R)) 4 2 = n
    have e : numv (zb (headB n ++ R)) 4 2 = (0 * 256 + zb (headB n ++ R) 4) * 256 + zb (headB n ++ R) 5 := rfl
    rw [e, h 4 (by omega), h 5 (by omega)]
    show (0 * 256 + 0) * 256 + zb (headB n) 5 = n
    have : zb (headB n) 5 = n := rfl
    omega

/-- What a font says that is laid. -/
theorem laid_rec {s : Nat → ByteArray} {t : Nat → Tab} {n : Nat} (hok : okN s n = true) (hn : n ≤ 64) (hS : sumN t n ≤ 1000000) {k : Nat} (hk : k < n) :
    tgv (zb (layB s t n)) k = s k ∧ atv (zb (layB s t n)) k = 12 + 16 * n + sumN t k ∧ szv (zb (layB s t n)) k = (t k).l ∧ (∀ j, j < (t k).l → zb (layB s t n) (12 + 16 * n + sumN t k + j) = (t k).z j) := by
  have h4 := fun j hj => (okN_iff.1 hok j hj).1
  obtain ⟨R, hR⟩ := recs_split s t (12 + 16 * n) hk
  obtain ⟨R2, hR2⟩ := body_split t hk
  have hrl := recsB_len (t := t) (o := 12 + 16 * n) h4 (Nat.le_of_lt hk)
  have hrn := recsB_len (t := t) (o := 12 + 16 * n) h4 (Nat.le_refl n)
  have hs := sumN_each (t := t) hk
  have hsz := h4 k hk
  have hT : ∀ i, i < 4 → zb (layB s t n) (12 + 16 * k + i) = zb (txtL (s k)) i := fun i hi =>
    zb_at' (P := headB n ++ recsB s t (12 + 16 * n) k) (Y := txtL (s k)) (R := (zer4 ++ (wd4 (12 + 16 * n + sumN t k) ++ wd4 (t k).l)) ++ R ++ bodyB t n) (by unfold layB; rw [hR]; simp only [List.append_assoc]) (by rw [List.length_append, headB_len, hrl]) (by rw [txtL_len]; omega)
  have hA : ∀ i, i < 4 → zb (layB s t n) (12 + 16 * k + 8 + i) = zb (bigL (12 + 16 * n + sumN t k)) i := fun i hi =>
    by rw [← wd4_big (by omega)]; exact zb_at' (P := headB n ++ recsB s t (12 + 16 * n) k ++ txtL (s k) ++ zer4) (Y := wd4 (12 + 16 * n + sumN t k)) (R := wd4 (t k).l ++ R ++ bodyB t n) (by unfold layB; rw [hR]; simp only [List.append_assoc]) (by rw [List.length_append, List.length_append, List.length_append, headB_len, hrl, txtL_len, hsz]; rfl) (by rw [wd4_len]; exact hi)
  have hZ : ∀ i, i < 4 → zb (layB s t n) (12 + 16 * k + 12 + i) = zb (bigL (t k).l) i := fun i hi =>
    by rw [← wd4_big (by omega)]; exact zb_at' (P := headB n ++ recsB s t (12 + 16 * n) k ++ txtL (s k) ++ zer4 ++ wd4 (12 + 16 * n + sumN t k)) (Y := wd4 (t k).l) (R := R ++ bodyB t n) (by unfold layB; rw [hR]; simp only [List.append_assoc]) (by rw [List.length_append, List.length_append, List.length_append, List.length_append, headB_len, hrl, txtL_len, hsz, wd4_len]; rfl) (by rw [wd4_len]; exact hi)
  refine ⟨bstr_txt hsz hT, numv_big (by omega) hA, numv_big (by omega) hZ, fun j hj => ?_⟩
  rw [zb_at' (P := headB n ++ recsB s t (12 + 16 * n) n ++ bodyB t k) (Y := byt (t k).z 0 (t k).l) (R := R2) (p := 12 + 16 * n + sumN t k) (by unfold layB; rw [hR2]; simp only [List.append_assoc]) (by rw [List.length_append, List.length_append, headB_len, hrn, bodyB_len]) (by rw [byt_len]; exact hj), byt_zb_at hj]
theorem laid_ok {s : Nat → ByteArray} {t : Nat → Tab} {n : Nat} (hok : okN s n = true) (hn : n ≤ 64) (hS : sumN t n ≤ 1000000) :
    cntv (zb (layB s t n)) = n ∧ opnv (zb (layB s t n)) (layB s t n).length = 0 := by
  have hlen := layB_len (t := t) hok
  obtain ⟨hm, hc⟩ := head_at (R := recsB s t (12 + 16 * n) n ++ bodyB t n) n
  rw [← List.append_assoc] at hm hc
  refine ⟨hc, ?_⟩
  have hm' : markB (bstr (zb (layB s t n)) 4) = true := hm
  have hc' : cntv (zb (layB s t n)) = n := hc
  unfold opnv
  rw [if_neg (by omega), if_neg (by rw [hm']; simp), hc', if_neg (by omega), if_neg (by omega)]
  refine fbv_ok.2 fun k hk => ?_
  obtain ⟨h1, h2, h3, _⟩ := laid_rec hok hn hS hk
  have hd := (okN_iff.1 hok k hk).2
  have hf : hadn (tgv (zb (layB s t n))) (tgv (zb (layB s t n)) k) k = false := hadn_no.2 fun j hj => by
    rw [(laid_rec hok hn hS (show j < n by omega)).1, h1]
    exact hd j hj
  have hmo := sumN_mono (t := t) (k := k + 1) (n := n) hk
  rw [sumN] at hmo
  unfold chkv
  rw [if_neg (by rw [hf]; simp), h2, h3, if_pos (by rw [hlen]; omega)]
end Go.Proofs.Ytninhcnpjadjpaa
