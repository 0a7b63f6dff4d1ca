/-
  sfnt.Lay as a contract.
-/
import Derived.Test.YtdmfammajggfpaaLay
namespace Go.Proofs.Ytdmfammajggfpaa
open Go.RowKit

def zer4 : List Int := [0, 0, 0, 0]
/-- The head. -/
def headB (n : Nat) : List Int := [0, 1, 0, 0] ++ [0, (n : Int)] ++ List.replicate 6 0
/-- The first k records; offs: where the first table stands. -/
def recsB (s : Nat → ByteArray) (t : Nat → Tab) (o : Nat) : Nat → List Int
  | 0 => []
  | k + 1 => recsB s t o k ++ (txtL (s k) ++ (zer4 ++ (bigL (o + sumN t k) ++ bigL (t k).l)))
/-- A font that is laid. -/
def layB (s : Nat → ByteArray) (t : Nat → Tab) (n : Nat) : List Int := headB n ++ recsB s t (12 + 16 * n) n ++ bodyB t n
theorem headB_len (n : Nat) : (headB n).length = 12 := by simp [headB]
theorem recsB_len {s : Nat → ByteArray} {t : Nat → Tab} {o n : Nat} (h : ∀ k, k < n → (s k).size = 4) : ∀ {k : Nat}, k ≤ n → (recsB s t o k).length = 16 * k
  | 0, _ => rfl
  | k + 1, hk => by
    rw [recsB, List.length_append, List.length_append, List.length_append, List.length_append, recsB_len h (k := k) (by omega), txtL_len, h k (by omega)]
    simp [zer4, bigL_len]; omega
theorem layB_len {s : Nat → ByteArray} {t : Nat → Tab} {n : Nat} (h : okN s n = true) : (layB s t n).length = 12 + 16 * n + sumN t n := by
  unfold layB
  rw [List.length_append, List.length_append, headB_len, recsB_len (fun k hk => (okN_iff.1 h k hk).1) (Nat.le_refl _), bodyB_len]

theorem word0_any (w : World) : Calls Try.prog 22 #[.int .i64 0] w fun e w' => ∃ g, e = .returned (.slice (some ⟨g, 0, none⟩) 4 4) ∧ Own w' w.heap.size 5 .u8 g 4 zer4 ∧ Below w.heap.size w w' := word_any 0 (by omega) w

set_option maxRecDepth 100000 in
theorem lay_no (a : Option Addr) (n cap : Nat) (s : Nat → ByteArray) (a2 : Option Addr) (m cap2 : Nat) (w : World) (h : Strs w a n cap s) (hm : m ≤ 6000000000000) (hno : ¬ (n = m ∧ n ≤ 64 ∧ okN s n = true)) :
    Calls Try.prog 7 #[.slice a n cap, .slice a2 m cap2] w fun e w' => e = .returned (.tuple #[.slice none 0 0, .int .i64 1]) ∧ w' = w := by
  have hr := h.reach
  by_cases hnm : n = m
  · subst hnm
    have hv : (decide (n ≤ 64) && okN s n) = false := by
      by_cases h64 : n ≤ 64
      · cases hk : okN s n with
        | true => exact (hno ⟨rfl, h64, hk⟩).elim
        | false => simp
      · rw [decide_eq_false h64, Bool.false_and]
    have M := maybe_any a n cap s w h
    rw [hv] at M
    clear hv hno
    go_enter Try.func7, Try.ntmps7
    go_wp2_with fail
    refine M.mono ?_
    rintro e w' ⟨rfl, rfl⟩
    go_wp2
    go_ret2
    exact ⟨rfl, rfl⟩
  · have e1 : ((n : Int) != m) = true := by rw [bne_iff_ne]; omega
    have e2 : ¬ (n : Int) = m := by omega
    clear hno hnm
    go_enter Try.func7, Try.ntmps7
    go_wp2
    go_ret2
    exact ⟨rfl, rfl⟩

set_option maxRecDepth 100000 in
set_option maxHeartbeats 3200000 in
theorem lay_yes (a : Option Addr) (n cap : Nat) (s : Nat → ByteArray) (a2 : Option Addr) (cap2 : Nat) (t : Nat → Tab) (w : World) (h : Strs w a n cap s) (h2 : Tabs w a2 n cap2 t) (hn : n ≤ 64) (hok : okN s n = true) (hl : ∀ k, k < n → (t k).l ≤ 100) :
    Calls Try.prog 7 #[.slice a n cap, .slice a2 n cap2] w fun e w' => ∃ g c, e = .returned (.tuple #[.slice (some ⟨g, 0, none⟩) (layB s t n).length c, .int .i64 0]) ∧ Own w' w.heap.size 5 .u8 g c (layB s t n) ∧ Below w.heap.size w w' := by
  have hlc := h.lc
  have M := maybe_any a n cap s w h
  rw [hok, decide_eq_true hn, Bool.true_and] at M
  have hsum := sumN_le hl (Nat.le_refl n)
  have h4 := fun k hk => (okN_iff.1 hok k hk).1
  obtain ⟨N, hN⟩ : ∃ N : Nat, Hid (12 + 16 * n + sumN t n = N) := ⟨_, rfl⟩
  obtain ⟨A, hA⟩ : ∃ A : Nat, (12 : Int) + 16 * (n : Int) = A := ⟨12 + 16 * n, by omega⟩
  have HA : Hid (A = 12 + 16 * n) := by show _ = _; omega
  have HLEN : Hid ((layB s t n).length = N) := by show _ = _; rw [layB_len hok, hN.out]
  go_enter Try.func7, Try.ntmps7
  go_wp2_with fail
  refine M.mono ?_
  rintro e w' ⟨rfl, rfl⟩
  clear M
  go_wp2_with fail
  refine (concat_any a2 n cap2 t _ h2 hn hl).mono ?_
  rintro e w1 ⟨v, rfl, hV, b1⟩
  obtain ⟨av, cv, rfl, hSV⟩ := ownv_src hV
  rw [bodyB_len] at hSV ⊢
  obtain ⟨S, hS⟩ : ∃ S, Hid (sumN t n = S) := ⟨_, rfl⟩
  rw [hS.out] at hSV hsum ⊢
  obtain ⟨Z, hZ⟩ : ∃ Z : Nat, (A : Int) + (S : Int) = Z := ⟨A + S, by omega⟩
  have hZ2 : Z ≤ 8000 := by omega
  have hmk := make22c Z (by omega)
  have O2 := own_made8 w1 w1.heap.size Z (Nat.le_refl _) (by omega)
  have B2 : Below w1.heap.size w1 (w1.alloc (.cells (arr Z fun _ => .int .u8 0) 5)) := (Below.refl _ _).alloc (Nat.le_refl _) _
  have HV : Hid (OwnV w1 w'.heap.size 5 .u8 (.slice av S cv) (bodyB t n)) := by
    have := hV
    rw [bodyB_len, hS.out] at this
    exact this
  have h1 := h.below b1 (Nat.le_refl _)
  have h21 := h2.below b1 (Nat.le_refl _)
  have A1 : Hid (_) := app_text B2 O2 { data := #[0, 1, 0, 0] } (m := 4) rfl (by omega) (n := 0) rfl (by omega)
  have A2 : ∀ (g : Nat) (c : Nat) (W : World), Hid (Own W w1.heap.size 5 .u8 g c ([] ++ txtL { data := #[0, 1, 0, 0] }) ∧ Below w1.heap.size w1 W) → Hid (_) := fun g c W hh => app_lit hh.out.2 hh.out.1 #[.int .u8 0, .int .u8 (n : Int)] [0, (n : Int)] rfl (m := 2) rfl (N := 0 + 4) rfl (by omega)
  have A3 : ∀ (g : Nat) (c : Nat) (W : World), Hid (Own W w1.heap.size 5 .u8 g c ([] ++ txtL { data := #[0, 1, 0, 0] } ++ [0, (n : Int)]) ∧ Below w1.heap.size w1 W) → Hid (_) := fun g c W hh => app_zeros hh.out.2 hh.out.1 6 (by omega) (n := 0 + 4 + 2) rfl (by omega)
  have HHD : Hid ([] ++ txtL { data := #[0, 1, 0, 0] } ++ [0, (n : Int)] ++ List.replicate 6 0 = headB n) := rfl
  have e8 : (n : Int) / 256 = 0 := by omega
  clear hV hSV O2 B2
  go_wp2_with (first
    | (at_builtin; refine wpList_app2 rfl (.tmp 32) (.const (.string { data := #[0, 1, 0, 0] })) 22 9 rfl rfl rfl A1.out ?_; rintro g3 c3 w3 hR1; have HR3 : Hid (_) := hR1; clear hR1; have A2' := A2 g3 c3 w3 HR3)
    | (at_builtin; refine wpList_app2 rfl (.tmp 34) (.tmp 42) 22 22 rfl rfl rfl A2'.out ?_; rintro g4 c4 w4 hR1; have HR4 : Hid (_) := hR1; clear hR1; have A3' := A3 g4 c4 w4 HR4)
    | (at_builtin; refine wpList_app2 rfl (.tmp 44) (.const (.int .i64 6)) 22 3 rfl rfl rfl A3'.out ?_; rintro g5 c5 w5 hR1; have HR5 : Hid (_) := hR1; clear hR1))
  have O5 := HR5.out.1
  have B5 := HR5.out.2
  rw [HHD.out] at O5
  have hz0 := hZ.symm
  clear A1 A2 A3 A2' A3' HR3 HR4 HR5 HHD e8 hmk hZ hz0
  go_loopw [7, 8, 48] (fun at' so i wq => ∃ (k g c : Nat), i = .int .i64 (k : Nat) ∧ k ≤ n ∧ at' = .int .i64 (A + sumN t k : Nat) ∧ so = .slice (some ⟨g, 0, none⟩) (12 + 16 * k) c ∧ Own wq w1.heap.size 5 .u8 g c (headB n ++ recsB s t A k) ∧ Below w1.heap.size w1 wq) (fun _ _ i _ => n - (intOf i).toNat)
  case atStart => exact ⟨0, g5, c5, rfl, by omega, rfl, rfl, by simpa [recsB] using O5, B5⟩
  case round =>
    clear O5 B5
    obtain ⟨k, g, c, rfl, hk, rfl, rfl, hO, hB⟩ := hrel
    have hrl := recsB_len (t := t) (o := A) h4 hk
    have hXL : (headB n ++ recsB s t A k).length = 12 + 16 * k := by rw [List.length_append, headB_len, hrl]
    by_cases hkn : k < n
    · have hkn' : (k : Int) < n := by omega
      have hkn2 : (k : Int) < cap := by omega
      obtain ⟨b, off, rfl, hb, hc⟩ := (h1.below hB (Nat.le_refl _)).spot (by omega)
      have c0 := hc k hkn
      have hlk := hl k hkn
      have hsk := sumN_le hl hk
      have hLk : (t k).l < 4294967296 := by omega
      have hAk : A + sumN t k < 4294967296 := by omega
      have A1 : Hid (_) := app_text hB hO (s k) (m := 4) (h4 k hkn) (by omega) (n := 12 + 16 * k) hXL (by omega)
      have HS : Hid (sumN t (k + 1) = sumN t k + (t k).l) := rfl
      obtain ⟨AT, hAT⟩ : ∃ AT, Hid (A + sumN t k = AT) := ⟨_, rfl⟩
      have HREC : Hid (headB n ++ recsB s t A k ++ txtL (s k) ++ zer4 ++ bigL (A + sumN t k) ++ bigL (t k).l = headB n ++ recsB s t A (k + 1)) := by
        show _ = _; rw [recsB]; simp only [List.append_assoc]
      rw [hAT.out] at hAk HREC ⊢
      have HXL : Hid ((headB n ++ recsB s t A k).length = 12 + 16 * k) := hXL
      have HT : Hid ((s k).size = 4) := h4 k hkn
      obtain ⟨tl, htl⟩ : ∃ q, Hid ((t k).l = q) := ⟨_, rfl⟩
      clear hc hO hXL hrl
      go_wp2_with (at_builtin; refine wpList_app2 rfl (.tmp 53) (.tmp 54) 22 9 rfl rfl rfl A1.out ?_; rintro g3 c3 w3 hR1; have HR3 : Hid (_) := hR1; clear hR1)
      have B3 := HR3.out.2
      refine (word0_any _).mono ?_
      rintro e w4 ⟨gw, rfl, hW, b4⟩
      have B4 := B3.trans (b4.mono B3.size)
      have O4 := HR3.out.1.below b4
      have A4 : Hid (_) := app_on B4 O4 (cm := 4) (hW.src' (n := 4) rfl) (N := 12 + 16 * k + 4) (by rw [List.length_append, HXL.out, txtL_len, HT.out]) (by rw [List.length_append, HXL.out, txtL_len, HT.out]; omega)
      clear O4 hW
      go_wp2_with (at_builtin; refine wpList_app2 rfl (.tmp 56) (.tmp 57) 22 22 rfl rfl rfl A4.out ?_; rintro g5 c5 w5 hR1; have HR5 : Hid (_) := hR1; clear hR1)
      have B5 := HR5.out.2.1
      refine (word_any AT hAk _).mono ?_
      rintro e w6 ⟨gw6, rfl, hW6, b6⟩
      have B6 := B5.trans (b6.mono B5.size)
      have O6 := HR5.out.1.below b6
      have A6 : Hid (_) := app_on B6 O6 (cm := 4) (hW6.src' (n := 4) rfl) (N := 12 + 16 * k + 4 + 4) (by rw [List.length_append, List.length_append, HXL.out, txtL_len, HT.out]; rfl) (by rw [List.length_append, List.length_append, HXL.out, txtL_len, HT.out]; simp [zer4]; omega)
      clear O6 hW6
      obtain ⟨b2, off2, e2, hb2, hc2⟩ := h21.spot (by omega)
      subst e2
      have DW : ∀ W, Below w1.heap.size w1 W → W.cell? ⟨b2, off2 + k, none⟩ = some (.slice (t k).a tl (t k).c) := fun W hBW => by
        rw [World.cell?_of_block (a := ⟨b2, off2 + k, none⟩) (hBW.block b2 hb2), hc2 k hkn, htl.out]
      rw [htl.out] at hLk hlk
      clear hc2
      go_wp2_with (at_builtin; refine wpList_app2 rfl (.tmp 59) (.tmp 61) 22 22 rfl rfl rfl A6.out ?_; rintro g7 c7 w7 hR1; have HR7 : Hid (_) := hR1; clear hR1; have d7 := DW w7 HR7.out.2.1)
      have B7 := HR7.out.2.1
      refine (word_any tl hLk _).mono ?_
      rintro e w8 ⟨gw8, rfl, hW8, b8⟩
      have B8 := B7.trans (b8.mono B7.size)
      have O8 := HR7.out.1.below b8
      have A8 : Hid (_) := app_on B8 O8 (cm := 4) (hW8.src' (n := 4) rfl) (N := 12 + 16 * k + 4 + 4 + 4) (by rw [List.length_append, List.length_append, List.length_append, HXL.out, txtL_len, HT.out]; rfl) (by rw [List.length_append, List.length_append, List.length_append, HXL.out, txtL_len, HT.out]; simp [zer4, bigL_len]; omega)
      clear O8 hW8 d7
      go_wp2_with (at_builtin; refine wpList_app2 rfl (.tmp 63) (.tmp 69) 22 22 rfl rfl rfl A8.out ?_; rintro g9 c9 w9 hR1; have HR9 : Hid (_) := hR1; clear hR1; have d9 := DW w9 HR9.out.2.1)
      have O9 := HR9.out.1
      rw [← htl.out] at O9
      refine ⟨⟨k + 1, g9, c9, by go_num, by omega, congrArg (Value.int .i64) (by rw [HS.out, htl.out]; have := hAT.out; omega), by rw [show 12 + 16 * (k + 1) = 12 + 16 * k + 4 + 4 + 4 + 4 by omega], by rw [← HREC.out]; exact O9, HR9.out.2.1⟩, by simp [intOf]; omega⟩
    · obtain rfl : k = n := by omega
      have hkn' : ¬ (k : Int) < k := by omega
      have hrl2 := hrl
      have HVq := HV.out.below hB
      obtain ⟨av', cv', ev, hSV⟩ := ownv_src HVq
      simp only [Value.slice.injEq] at ev
      obtain ⟨rfl, -, rfl⟩ := ev
      rw [bodyB_len, hS.out] at hSV
      have AF : Hid (_) := app_on hB hO (cm := cv) hSV (N := 12 + 16 * k) hXL (by rw [hXL]; omega)
      have HAk : Hid (headB k ++ recsB s t A k ++ bodyB t k = layB s t k) := by show _ = _; rw [HA.out]; rfl
      have HFN : Hid (12 + 16 * k + S = N) := by show _ = _; rw [← hN.out, hS.out]
      clear hSV HVq hO hXL hrl hrl2
      go_wp2_with (at_builtin; refine wpList_app2 rfl (.tmp 79) (.tmp 80) 22 22 rfl rfl rfl AF.out ?_; rintro g9 c9 w9 hR1; have HR9 : Hid (_) := hR1; clear hR1)
      go_ret2
      refine ⟨g9, c9, ?_, ?_, b1.trans (HR9.out.2.1.mono b1.size)⟩
      · rw [HLEN.out, ← HFN.out]; rfl
      · have := HR9.out.1
        rw [HAk.out] at this
        exact this.mono b1.size
end Go.Proofs.Ytdmfammajggfpaa
