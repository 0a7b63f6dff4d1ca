/-
  The reference's Read: by trying each symbol.
-/
import Derived.Test.YtlpehejadedkkaaRBits
import Derived.Test.YtlpehejadedkkaaRead
namespace Go.Proofs.Ytlpehejadedkkaa
open Go.RowKit

/-- The reference's code in block rc: codes in gc, lengths in gl. -/
structure RCode (w : World) (rc gc gl capl N : Nat) (L : Nat → Nat) : Prop where
  few : N ≤ 320
  lcap : N ≤ capl
  each : ∀ i, i < N → L i ≤ 15
  ok : okc L N = true
  lc : gc < w.heap.size
  ll : gl < w.heap.size
  cs : w.cell? ⟨rc, 0, none⟩ = some (.slice (some ⟨gc, 0, none⟩) N N)
  ls : w.cell? ⟨rc, 1, none⟩ = some (.slice (some ⟨gl, 0, none⟩) N capl)
  c : ∀ i, i < N → w.cell? ⟨gc, i, none⟩ = some (.int .i64 (codev L N i : Nat))
  l : ∀ i, i < N → w.cell? ⟨gl, i, none⟩ = some (.int .i64 (L i : Nat))
theorem RCode.lo {w : World} {rc gc gl capl N : Nat} {L : Nat → Nat} (h : RCode w rc gc gl capl N L) : rc < w.heap.size := blk_lt_of_cell h.cs
theorem RCode.kept {S : Nat → Prop} {w w' : World} {rc gc gl capl N : Nat} {L : Nat → Nat} (h : RCode w rc gc gl capl N L) (k : Kept S w w') (h1 : ¬ S rc) (h2 : ¬ S gc) (h3 : ¬ S gl) : RCode w' rc gc gl capl N L := by
  have key : ∀ b i v, ¬ S b → w.cell? ⟨b, i, none⟩ = some v → w'.cell? ⟨b, i, none⟩ = some v := fun b i v hb hc => by
    rw [World.cell?_of_block (a := ⟨b, i, none⟩) (k.block b (blk_lt_of_cell hc) hb)]; exact hc
  exact ⟨h.few, h.lcap, h.each, h.ok, Nat.lt_of_lt_of_le h.lc k.size, Nat.lt_of_lt_of_le h.ll k.size, key _ _ _ h1 h.cs, key _ _ _ h1 h.ls, fun i hi => key _ _ _ h2 (h.c i hi), fun i hi => key _ _ _ h3 (h.l i hi)⟩
theorem RCode.below {w w' : World} {rc gc gl capl N : Nat} {L : Nat → Nat} (h : RCode w rc gc gl capl N L) (k : Below w.heap.size w w') : RCode w' rc gc gl capl N L :=
  h.kept (S := fun _ => False) (Kept.of_below k (Nat.le_refl _) _) id id id

/-- A symbol of length n whose code is c is the one that is told by counting. -/
theorem code_is {L : Nat → Nat} {N n c t : Nat} (ht : t < N) (h0 : 0 < n) (hl : L t = n) (hc : codev L N t = c) : ∃ r, c = first (cn L N) n + r ∧ r < cn L N n ∧ sym L n r N = t := by
  refine ⟨cnt L n t, ?_, ?_, sym_eq ht hl⟩
  · rw [← hc]; unfold codev; rw [if_neg (by omega), hl]
  · rw [cn_pos h0]; exact cnt_lt ht hl
/-- Where no symbol of length n has the code c, c is beyond all of them. -/
theorem code_none {L : Nat → Nat} {N n c : Nat} (h0 : 0 < n) (hf : first (cn L N) n ≤ c) (h : ∀ t, t < N → ¬ (L t = n ∧ codev L N t = c)) : ¬ c < first (cn L N) n + cn L N n := by
  intro hlt
  have hr : c - first (cn L N) n < cnt L n N := by rw [← cn_pos h0]; omega
  obtain ⟨h1, h2, h3⟩ := sym_is hr
  refine h _ h1 ⟨h2, ?_⟩
  unfold codev
  rw [if_neg (by omega), h2, h3]; omega

set_option maxRecDepth 100000 in
set_option maxHeartbeats 1600000 in
theorem rread_any (rc gc gl capl N : Nat) (L : Nat → Nat) (sb : Nat) (a : Option Addr) (len cap : Nat) (z : Nat → Nat) (p : Nat) (w : World) (h : RCode w rc gc gl capl N L) (hB : RBits w sb a len cap z p) (h1 : rc ≠ sb) (h2 : gc ≠ sb) (h3 : gl ≠ sb) :
    Calls Try.prog 17 #[.pointer (some ⟨rc, 0, none⟩), .pointer (some ⟨sb, 0, none⟩)] w fun e w' => e = .returned (.tuple #[.int .i64 ((rdv L N (bit z) (8 * len) p).1 : Nat), .bool (rdv L N (bit z) (8 * len) p).2.1]) ∧ RBits w' sb a len cap z (rdv L N (bit z) (8 * len) p).2.2 ∧ Kept (fun k => k = sb) w w' := by
  have hf := h.few
  have hlc := h.lcap
  have hfit : ∀ n, n ≤ 15 → first (cn L N) n + cn L N n ≤ 32768 := fun n hn => by
    have := first_fits h.each h.ok hn
    have h2 : 2 ^ n ≤ 2 ^ 15 := Nat.pow_le_pow_right (by omega) hn
    omega
  obtain ⟨R, hR⟩ : ∃ R, Hid (rdv L N (bit z) (8 * len) p = R) := ⟨_, rfl⟩
  rw [hR.out]
  go_enter Try.func17, Try.ntmps17
  go_wp2_with fail
  go_loopw [6, 7] (fun x j wq => ∃ i c : Nat, i ≤ 15 ∧ c < 2 ^ i ∧ first (cn L N) i + cn L N i ≤ c ∧ rd L N (bit z) (8 * len) (15 - i) i c (p + i) = R ∧ j = .int .i64 (i + 1 : Nat) ∧ x = .int .i64 (c : Nat) ∧ RBits wq sb a len cap z (p + i) ∧ Kept (fun k => k = sb) w wq) (fun _ j _ => 16 - (intOf j).toNat)
  case atStart => exact ⟨0, 0, by omega, by simp, by simp [first, cn], hR.out, rfl, rfl, hB, Kept.refl _ _⟩
  case round =>
    clear hB
    obtain ⟨i, c, hi, hc, hfc, hrd, rfl, rfl, hB, hK⟩ := hrel
    by_cases hi15 : i < 15
    · have hi' : ((i + 1 : Nat) : Int) < 16 := by omega
      have hc15 : c < 32768 := Nat.lt_of_lt_of_le hc (Nat.le_trans (Nat.pow_le_pow_right (by omega) hi) (by decide : 2 ^ 15 ≤ 32768))
      have HRD : Hid (rd L N (bit z) (8 * len) (15 - i) i c (p + i) = R) := hrd
      clear hrd
      by_cases hp : p + i < 8 * len
      · go_wp2_with fail
        refine (rtake_yes sb a len cap z (p + i) _ hB hp).mono ?_
        rintro e w1 ⟨rfl, hB1, hK1⟩
        have hbit := bit_lt z (p + i)
        have hK2 := hK.trans hK1
        have hC1 := h.kept hK2 h1 h2 h3
        clear hB hK hK1
        have hcs := hC1.cs
        have hls := hC1.ls
        have hfi : first (cn L N) (i + 1) ≤ 2 * c + bit z (p + i) := by simp only [first]; omega
        have hci : (c : Int) * 2 = 2 * (c : Int) := by omega
        go_wp2_with fail
        obtain ⟨wz, hwz⟩ : ∃ wz, wz = wr := ⟨_, rfl⟩
        subst hwz
        go_loopw [10] (fun j wq => ∃ t : Nat, t ≤ N ∧ (∀ s, s < t → ¬ (L s = i + 1 ∧ codev L N s = 2 * c + bit z (p + i))) ∧ j = .int .i64 t ∧ wq = w1) (fun j _ => N - (intOf j).toNat)
        case atStart => exact ⟨0, by omega, fun s hs => by omega, rfl, rfl⟩
        case round =>
          obtain ⟨t, ht, hno, rfl, rfl⟩ := hrel
          by_cases htN : t < N
          · have htN' : (t : Int) < (N : Int) := by omega
            have e1 := hC1.l t htN
            have e2 := hC1.c t htN
            by_cases hm : L t = i + 1 ∧ codev L N t = 2 * c + bit z (p + i)
            · obtain ⟨hm1, hm2⟩ := hm
              obtain ⟨r, hr1, hr2, hr3⟩ := code_is htN (by omega) hm1 hm2
              have hE : Hid (R = (t, true, p + i + 1)) := by show R = _; rw [← HRD.out, ← hr3]; exact rd_hit hi15 hp hr1 hr2
              rw [hm1] at e1
              rw [hm2] at e2
              clear hno hm1 hm2 hr1 hr2 hr3
              go_wp2
              go_ret2
              rw [hE.out]
              exact ⟨rfl, hB1, hK2⟩
            · have HN : Hid (∀ s, s < t → ¬ (L s = i + 1 ∧ codev L N s = 2 * c + bit z (p + i))) := hno
              have HM : Hid (¬ (L t = i + 1 ∧ codev L N t = 2 * c + bit z (p + i))) := hm
              have HS : Hid (∀ s, s < t + 1 → ¬ (L s = i + 1 ∧ codev L N s = 2 * c + bit z (p + i))) := fun s hs => by
                by_cases e : s = t
                · subst e; exact hm
                · exact hno s (by omega)
              by_cases hl : L t = i + 1
              · have hne : ¬ ((codev L N t : Nat) : Int) = 2 * (c : Int) + (bit z (p + i) : Nat) := fun e => hm ⟨hl, by omega⟩
                rw [hl] at e1
                clear hno hm hl
                go_wp2
                exact ⟨⟨t + 1, by omega, HS.out, by go_num, trivial⟩, by simp [intOf]; omega⟩
              · have hne : ¬ ((L t : Nat) : Int) = (i : Int) + 1 := by omega
                have hne2 : ¬ ((L t : Nat) : Int) = ((i + 1 : Nat) : Int) := by omega
                clear hno hm hl
                go_wp2
                exact ⟨⟨t + 1, by omega, HS.out, by go_num, trivial⟩, by simp [intOf]; omega⟩
          · have htN' : ¬ (t : Int) < (N : Int) := by omega
            obtain rfl : t = N := by omega
            have hlt := code_none (L := L) (N := t) (n := i + 1) (c := 2 * c + bit z (p + i)) (by omega) hfi hno
            have hE : Hid (rd L t (bit z) (8 * len) (15 - (i + 1)) (i + 1) (2 * c + bit z (p + i)) (p + (i + 1)) = R) := by show _ = R; rw [← HRD.out]; exact (rd_on hi15 hp hlt).symm
            have HL : Hid (first (cn L t) (i + 1) + cn L t (i + 1) ≤ 2 * c + bit z (p + i)) := by show _ ≤ _; omega
            clear hno hlt
            go_wp2
            refine ⟨⟨i + 1, 2 * c + bit z (p + i), by omega, ?_, HL.out, hE.out, by go_num, by go_num, hB1, hK2⟩, by simp [intOf]; omega⟩
            rw [Nat.pow_succ]; omega
      · go_wp2_with fail
        refine (rtake_no sb a len cap z (p + i) _ hB hp).mono ?_
        rintro e w1 ⟨rfl, hB1, hK1⟩
        have hE : Hid (R = (0, false, p + i)) := by show R = _; rw [← HRD.out]; exact rd_no hi15 hp
        go_wp2
        go_ret2
        rw [hE.out]
        exact ⟨rfl, hB1, hK.trans hK1⟩
    · have hi' : ¬ ((i + 1 : Nat) : Int) < 16 := by omega
      obtain rfl : i = 15 := by omega
      have hE : Hid (R = (0, false, p + 15)) := by show R = _; rw [← hrd]; rfl
      clear hrd
      go_wp2
      go_ret2
      rw [hE.out]
      exact ⟨rfl, hB, hK⟩
end Go.Proofs.Ytlpehejadedkkaa
