/-
  zlib.Lay and the reference's Lay.
-/
import Derived.Test.YtahibacjaoohiaaDoorMrk
import Derived.Test.YtahibacjaoohiaaDoorRStd
namespace Go.Proofs.YtahibacjaoohiaaDoor
open Go.RowKit

/-- A frame about what is stored. -/
def layL (z : Nat → Nat) (n : Nat) : List Int := [120, 1] ++ stL z n 0 ++ bigL (adv z n)
theorem layL_len (z : Nat → Nat) (n : Nat) : (layL z n).length = (stL z n 0).length + 6 := by unfold layL; simp [bigL_len]
theorem two_byt : Byt [120, 1] := fun i => by rcases i with _ | _ | i <;> simp
theorem layL_byt {z : Nat → Nat} (hz : ∀ i, z i < 256) (n : Nat) : Byt (layL z n) := Byt.append (Byt.append two_byt (stL_byt hz n n 0 (by omega))) (bigL_byt (adv_lt z n))
theorem byt_bytes {S : List Int} (h : Byt S) {n : Nat} (hn : S.length = n) : byt (zb S) 0 n = S := by rw [← hn]; exact byt_zb h
/-- append, upon a row of the call's own. -/
theorem app_on {w w1 : World} {g c N : Nat} {xs ys : List Int} (hB : Below w.heap.size w w1) (hO : Own w1 w.heap.size 5 .u8 g c xs) {s : Option Addr} {m cm : Nat} (hL : SrcI w1 .u8 s m ys) (hN : xs.length = N) (hl : xs.length + m ≤ 100000000) :
    ∃ g' c' w', (Builtin.append_ #[23, 23] 23 #[.slice (some ⟨g, 0, none⟩) N c, .slice s m cm]).run Tryd.prog w1 = .ok (.slice (some ⟨g', 0, none⟩) (N + m) c') w' ∧ (Own w' w.heap.size 5 .u8 g' c' (xs ++ ys) ∧ Below w.heap.size w w' ∧ w1.grownBy w' (some g)) := by
  subst hN
  have hlen := hL.len
  obtain ⟨g', c', w', h1, h2, h3, _⟩ := hO.appendB hB.size (c := cm) hL (by omega)
  rw [List.length_append, hlen] at h1
  exact ⟨g', c', w', h1, h2, hB.grown h3 hB.size (fun k hk => by simp at hk; subst hk; exact hO.lt.1), h3⟩
theorem Own.src {w : World} {base g c : Nat} {xs : List Int} (h : Own w base 5 .u8 g c xs) : SrcI w .u8 (some ⟨g, 0, none⟩) xs.length xs :=
  ⟨rfl, fun _ => ⟨g, 0, rfl, fun j hj => by rw [Nat.zero_add]; exact h.cell hj⟩⟩
theorem Own.src' {w : World} {base g c n : Nat} {xs : List Int} (h : Own w base 5 .u8 g c xs) (hn : xs.length = n) : SrcI w .u8 (some ⟨g, 0, none⟩) n xs := by subst hn; exact h.src

set_option maxRecDepth 100000 in
set_option maxHeartbeats 1600000 in
theorem lay_any (a : Option Addr) (len cap : Nat) (z : Nat → Nat) (w : World) (h : Lies w a len cap z) (hl : len ≤ 10000000) :
    Calls Tryd.prog 16 #[.slice a len cap] w fun e w' => ∃ g c, e = .returned (.slice (some ⟨g, 0, none⟩) (layL z len).length c) ∧ Own w' w.heap.size 5 .u8 g c (layL z len) ∧ Below w.heap.size w w' := by
  have hNl := stL_len z len len 0 (by omega)
  obtain ⟨N, hN⟩ : ∃ N, Hid ((stL z len 0).length = N) := ⟨_, rfl⟩
  have hT : Hid ((layL z len).length = 2 + N + 4) := by show _ = _; rw [layL_len, hN.out]; omega
  have SG := stored_go a len cap z w h hl
  rw [hN.out] at hNl SG
  have hNb : N ≤ 20000005 := by omega
  obtain ⟨M, hM⟩ : ∃ M : Nat, (2 : Int) + N + 4 = M := ⟨2 + N + 4, by omega⟩
  have hMb : M ≤ 100000000 := by omega
  have hmk := make22c M hMb
  have hz := h.byte
  go_enter Tryd.func16, Tryd.ntmps16
  go_wp2_with fail
  refine SG.mono ?_
  rintro e w1 ⟨gs, cs, rfl, hS, b1⟩
  have bm : Below w.heap.size w (w1.alloc (.cells (arr M fun _ => .int .u8 0) 5)) := b1.alloc b1.size _
  have hO0 := own_made8 w1 w.heap.size M b1.size hMb
  have hS0 := hS.alloc (.cells (arr M fun _ => .int .u8 0) 5)
  obtain ⟨gm, hgm⟩ : ∃ gm, gm = w1.heap.size := ⟨_, rfl⟩
  have hne : gs ≠ gm := by have := hS.lt; omega
  obtain ⟨wm, hwm⟩ : ∃ wm, wm = w1.alloc (.cells (arr M fun _ => .int .u8 0) 5) := ⟨_, rfl⟩
  have bl : Below w.heap.size w (wm.alloc (.cells #[.int .u8 120, .int .u8 1] 5)) := by rw [hwm]; exact bm.alloc bm.size _
  rw [← hwm] at bm hO0 hS0
  rw [← hgm] at hO0
  have hO1 := hO0.alloc (.cells #[.int .u8 120, .int .u8 1] 5)
  have hS1 := hS0.alloc (.cells #[.int .u8 120, .int .u8 1] 5)
  have hLit : Own (wm.alloc (.cells #[.int .u8 120, .int .u8 1] 5)) w.heap.size 5 .u8 wm.heap.size 2 [120, 1] := own_lit wm w.heap.size 5 .u8 [120, 1] bm.size (by simp)
  have A1 : ∃ g' c' w', (Builtin.append_ #[23, 23] 23 #[.slice (some ⟨gm, 0, none⟩) 0 M, .slice (some ⟨wm.heap.size, 0, none⟩) 2 2]).run Tryd.prog (wm.alloc (.cells #[.int .u8 120, .int .u8 1] 5)) = .ok (.slice (some ⟨g', 0, none⟩) 2 c') w' ∧ _ := app_on bl hO1 (hLit.src' (n := 2) rfl) (N := 0) rfl (by simp)
  have HA1 : Hid (_) := A1
  have HWM : Hid (wm = _) := hwm
  have HGM : Hid (gm = w1.heap.size) := hgm
  have A2 : ∀ g1 c1 w2, (Own w2 w.heap.size 5 .u8 g1 c1 ([] ++ [120, 1]) ∧ Below w.heap.size w w2 ∧ (wm.alloc (.cells #[.int .u8 120, .int .u8 1] 5)).grownBy w2 (some gm)) → ∃ g' c' w', (Builtin.append_ #[23, 23] 23 #[.slice (some ⟨g1, 0, none⟩) 2 c1, .slice (some ⟨gs, 0, none⟩) N cs]).run Tryd.prog w2 = .ok (.slice (some ⟨g', 0, none⟩) (2 + N) c') w' ∧ (Own w' w.heap.size 5 .u8 g' c' ([] ++ [120, 1] ++ stL z len 0) ∧ Below w.heap.size w w' ∧ w2.grownBy w' (some g1)) := fun g1 c1 w2 hR =>
    app_on hR.2.1 hR.1 ((hS1.far hR.2.2 (by simpa using hne)).src' hN.out) rfl (by simp; omega)
  clear A1 hwm hgm hO0 hS0 hO1 hS1 hLit bl bm hS SG
  go_wp2_with (first
    | (rw [← HGM.out])
    | (rw [← HWM.out])
    | (at_builtin; refine wpList_append_ex rfl (.tmp 12) (.tmp 13) 23 rfl rfl rfl HA1.out ?_; rintro g1 c1 w2 hR1; have HR1 : Hid (_) := hR1; clear hR1)
    | (at_builtin; refine wpList_append_ex rfl (.tmp 15) (.tmp 16) 23 rfl rfl rfl (A2 _ _ _ HR1.out) ?_; rintro g2 c2 w3 hR2; have HR2 : Hid (_) := hR2; clear hR2))
  have h3 := h.below HR2.out.2.1 (Nat.le_refl _)
  refine (mark_any a len cap z _ h3).mono ?_
  rintro e w4 ⟨gk, rfl, hK, b4⟩
  have b3 := HR2.out.2.1
  have B4 := b3.trans (b4.mono b3.size)
  have O4 := HR2.out.1.below b4
  have A3 : ∃ g' c' w', (Builtin.append_ #[23, 23] 23 #[.slice (some ⟨g2, 0, none⟩) (2 + N) c2, .slice (some ⟨gk, 0, none⟩) 4 4]).run Tryd.prog w4 = .ok (.slice (some ⟨g', 0, none⟩) (2 + N + 4) c') w' ∧ _ := app_on B4 O4 (hK.src' (n := 4) rfl) (N := 2 + N) (by simp [hN.out]; omega) (by simp [hN.out]; omega)
  have HA3 : Hid (_) := A3
  clear A3 O4 hK b4 b3 h3 A2
  go_wp2_with (at_builtin; refine wpList_append_ex rfl (.tmp 18) (.tmp 20) 23 rfl rfl rfl HA3.out ?_; rintro g5 c5 w5 hR5; have HR5 : Hid (_) := hR5; clear hR5)
  go_ret
  exact ⟨g5, c5, by rw [hT.out]; rfl, HR5.out.1, HR5.out.2.1⟩

set_option maxRecDepth 100000 in
set_option maxHeartbeats 1600000 in
theorem rlay_any (a : Option Addr) (len cap : Nat) (z : Nat → Nat) (w : World) (h : Lies w a len cap z) (hl : len ≤ 10000000) :
    Calls Tryd.prog 20 #[.slice a len cap] w fun e w' => ∃ g c, e = .returned (.slice (some ⟨g, 0, none⟩) (layL z len).length c) ∧ Own w' w.heap.size 5 .u8 g c (layL z len) ∧ Below w.heap.size w w' := by
  have hNl := stL_len z len len 0 (by omega)
  obtain ⟨N, hN⟩ : ∃ N, Hid ((stL z len 0).length = N) := ⟨_, rfl⟩
  have hT : Hid ((layL z len).length = 2 + N + 4) := by show _ = _; rw [layL_len, hN.out]; omega
  have bl : Below w.heap.size w (w.alloc (.cells #[.int .u8 120, .int .u8 1] 5)) := (Below.refl _ _).alloc (Nat.le_refl _) _
  have hLit : Own (w.alloc (.cells #[.int .u8 120, .int .u8 1] 5)) w.heap.size 5 .u8 w.heap.size 2 [120, 1] := own_lit w w.heap.size 5 .u8 [120, 1] (Nat.le_refl _) (by simp)
  obtain ⟨gl, hgl⟩ : ∃ gm, gm = w.heap.size := ⟨_, rfl⟩
  obtain ⟨wl, hwl⟩ : ∃ wm, wm = w.alloc (.cells #[.int .u8 120, .int .u8 1] 5) := ⟨_, rfl⟩
  rw [← hwl] at bl hLit
  have SG := rstd_any a len cap z wl (h.below bl (Nat.le_refl _)) hl
  rw [hN.out] at hNl SG
  have hNb : N ≤ 20000005 := by omega
  have HWL : Hid (wl = _) := hwl
  have HGL : Hid (gl = w.heap.size) := hgl
  have hglt : gl < wl.heap.size := by rw [hwl, hgl]; simp
  have hLit' : Own wl w.heap.size 5 .u8 gl 2 [120, 1] := by rw [hgl]; exact hLit
  clear hwl hgl hLit
  go_enter Tryd.func20, Tryd.ntmps20
  go_wp2_with (first
    | (rw [← HWL.out])
    | (rw [← HGL.out]))
  refine SG.mono ?_
  rintro e w1 ⟨gs, cs, rfl, hS, b1⟩
  have B1 := bl.trans (b1.mono bl.size)
  have O1 := hLit'.below b1
  have h1 := h.below B1 (Nat.le_refl _)
  have A1 : ∃ g' c' w', (Builtin.append_ #[23, 23] 23 #[.slice (some ⟨gl, 0, none⟩) 2 2, .slice (some ⟨gs, 0, none⟩) N cs]).run Tryd.prog w1 = .ok (.slice (some ⟨g', 0, none⟩) (2 + N) c') w' ∧ _ := app_on B1 O1 (hS.src' hN.out) (N := 2) rfl (by simp; omega)
  have HA1 : Hid (_) := A1
  clear A1 O1 hS bl b1 SG hLit'
  go_wp2_with (first
    | (rw [← HGL.out])
    | (at_builtin; refine wpList_append_ex rfl (.tmp 3) (.tmp 5) 23 rfl rfl rfl HA1.out ?_; rintro g1 c1 w2 hR1; have HR1 : Hid (_) := hR1; clear hR1))
  have h2 := h.below HR1.out.2.1 (Nat.le_refl _)
  refine (radler_any a len cap z _ h2).mono ?_
  rintro e w3 ⟨rfl, rfl⟩
  have hs := adv_lt z len
  obtain ⟨s, hse⟩ : ∃ s, Hid (adv z len = s) := ⟨_, rfl⟩
  rw [hse.out] at hs ⊢
  go_wp2_with fail
  refine (big_any s hs _).mono ?_
  rintro e w4 ⟨gk, ck, rfl, hK, b4⟩
  have b3 := HR1.out.2.1
  have B4 := b3.trans (b4.mono b3.size)
  have O4 := HR1.out.1.below b4
  have A3 : ∃ g' c' w', (Builtin.append_ #[23, 23] 23 #[.slice (some ⟨g1, 0, none⟩) (2 + N) c1, .slice (some ⟨gk, 0, none⟩) 4 ck]).run Tryd.prog w4 = .ok (.slice (some ⟨g', 0, none⟩) (2 + N + 4) c') w' ∧ _ := app_on B4 O4 (hK.src' (n := 4) rfl) (N := 2 + N) (by simp [hN.out]; omega) (by simp [hN.out]; omega)
  have HA3 : Hid (_) := A3
  clear A3 O4 hK b4 b3 h2
  go_wp2_with (at_builtin; refine wpList_append_ex rfl (.tmp 6) (.tmp 9) 23 rfl rfl rfl HA3.out ?_; rintro g5 c5 w5 hR5; have HR5 : Hid (_) := hR5; clear hR5)
  go_ret
  refine ⟨g5, c5, by rw [hT.out]; rfl, ?_, HR5.out.2.1⟩
  have := HR5.out.1
  unfold layL
  rw [hse.out]
  exact this
end Go.Proofs.YtahibacjaoohiaaDoor
