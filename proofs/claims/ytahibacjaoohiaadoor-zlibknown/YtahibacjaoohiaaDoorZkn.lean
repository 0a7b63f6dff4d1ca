/-
  ZlibKnown's own walk.
-/
import Derived.Test.YtahibacjaoohiaaDoorZP
namespace Go.Proofs.YtahibacjaoohiaaDoor
open Go.RowKit

def hel : List Nat := [104, 101, 108, 108, 111]
def hem : List Nat := [104, 101, 109, 108, 111]
theorem hel_lt (i : Nat) : zl hel i < 256 := zl_lt hel (by decide) i
theorem hem_lt (i : Nat) : zl hem i < 256 := zl_lt hem (by decide) i
theorem hel_len : (layL (zl hel) 5).length = 16 := by rw [layL_len, stL_last _ (by omega), blkL_len]
theorem st5 (z : Nat → Nat) : (stL z 5 0).length = 10 := by rw [stL_last _ (by omega), blkL_len]
theorem hel_turned : (layL (zl hel) 5).set 9 109 = [120, 1] ++ stL (zl hem) 5 0 ++ bigL (adv (zl hel) 5) := by
  unfold layL
  rw [stL_last _ (by omega), stL_last _ (by omega)]
  rfl
theorem hel_nine : (layL (zl hel) 5).getD 9 0 = 108 := by
  unfold layL
  rw [stL_last _ (by omega)]
  rfl
theorem adv_ne : adv (zl hel) 5 ≠ adv (zl hem) 5 := by decide
/-- Four bytes behind a frame say another number. -/
theorem clov_other {y t : Nat → Nat} {n s : Nat} (hy : ∀ i, y i < 256) (hs : s < 4294967296) (h : ∀ i, i < 4 → y i = zb (bigL s) i) (hne : s ≠ adv t n) : clov y 4 t n = 5 := by
  have := (numbe_big hy hs).2 h
  unfold clov
  rw [if_neg (by omega), if_neg (by omega), if_neg (by rw [this]; exact hne)]
theorem ka9 : opnE (zb ((layL (zl hel) 5).set 9 109)) 16 99 = .error 5 := by
  rw [hel_turned]
  have hb := bigL_byt (adv_lt (zl hel) 5)
  have hF : Fram (zb ([120, 1] ++ stL (zl hem) 5 0 ++ bigL (adv (zl hel) 5))) (zl hem) 5 := fram_of hem_lt 5 (a := 120) (b := 1) (by omega) (by omega) hd1 hb
  have hc : clov (fun i => zb ([120, 1] ++ stL (zl hem) 5 0 ++ bigL (adv (zl hel) 5)) (2 + (10 + i))) 4 (zl hem) 5 = 5 := by
    have he : ∀ i, zb ([120, 1] ++ stL (zl hem) 5 0 ++ bigL (adv (zl hel) 5)) (2 + (10 + i)) = zb (bigL (adv (zl hel) 5)) i := fun i => by rw [← Nat.add_assoc]; exact zb_end (by rw [st5]; rfl)
    exact clov_other (fun i => by rw [he]; exact hb.zb_lt i) (adv_lt _ _) (fun i _ => he i) adv_ne
  rw [opn_end hF (by omega) (st5 _) (by omega), hc]; rfl
theorem kb9 : opnE (zb (layL (zl hel) 5 ++ [0])) 17 99 = .error 2 := by
  have e : layL (zl hel) 5 ++ [0] = [120, 1] ++ stL (zl hel) 5 0 ++ (bigL (adv (zl hel) 5) ++ [0]) := by unfold layL; simp
  rw [e]
  have hF : Fram (zb ([120, 1] ++ stL (zl hel) 5 0 ++ (bigL (adv (zl hel) 5) ++ [0]))) (zl hel) 5 := fram_of hel_lt 5 (a := 120) (b := 1) (by omega) (by omega) hd1 (Byt.append (bigL_byt (adv_lt _ _)) (fun i => by rcases i with _ | i <;> simp))
  have hc : clov (fun i => zb ([120, 1] ++ stL (zl hel) 5 0 ++ (bigL (adv (zl hel) 5) ++ [0])) (2 + (10 + i))) 5 (zl hel) 5 = 2 := by unfold clov; rw [if_neg (by omega), if_pos (by omega)]
  rw [opn_end hF (by omega) (st5 _) (by omega), hc]; rfl
theorem kc9 : opnE (zl [121, 1, 3, 0]) 4 99 = .error 2 := opn_no (by omega) (by decide)
theorem kd9 : opnE (zl [120, 2, 3, 0]) 4 99 = .error 2 := opn_no (by omega) (by decide)
theorem ke9 : opnE (zl [120, 32, 3, 0]) 4 99 = .error 2 := opn_no (by omega) (by decide)
theorem kf9 : opnE (zl [136, 28, 3, 0]) 4 99 = .error 2 := opn_no (by omega) (by decide)
theorem kg9 : opnE (zb (layL (zl hel) 5)) 16 4 = .error 4 := opn_big (fram_lay hel_lt 5) (by omega) (by rw [st5]; omega)
theorem kh9 (k : Nat) (hk : k < 16) : opnE (zb (layL (zl hel) 5)) k 99 = .error 3 := opn_lay_cut hel_lt 5 (by omega) (by rw [hel_len]; exact hk)

/-- What the closure sees: the variable z, and the frame that it holds. -/
structure Held (W : World) (gv g c : Nat) : Prop where
  lies : Lies W (some ⟨g, 0, none⟩) 16 c (zb (layL (zl hel) 5))
  var : W.heap[gv]? = some (.cells #[.slice (some ⟨g, 0, none⟩) 16 c] 23)
  tab : Tab W
theorem Held.below {W W' : World} {gv g c : Nat} (h : Held W gv g c) (hb : Below W.heap.size W W') : Held W' gv g c :=
  ⟨h.lies.below hb (Nat.le_refl _), (hb.block gv (blk_lt h.var)).trans h.var, h.tab.below hb h.tab.pos⟩
set_option maxRecDepth 100000 in
theorem cut_any (k : Nat) (hk : k < 16) (gv g c : Nat) (W : World) (h : Held W gv g c) :
    Calls Tryd.prog 18 #[.int .i64 (k : Nat), .pointer (some ⟨gv, 0, none⟩)] W fun e w' => e = .returned (.int .i64 3) ∧ Below W.heap.size W w' := by
  have hv : W.cell? ⟨gv, 0, none⟩ = some (.slice (some ⟨g, 0, none⟩) 16 c) := blk_cell h.var 0
  have hlc := h.lies.lc
  have hLk : Lies W (some ⟨g, 0, none⟩) k c (zb (layL (zl hel) 5)) := ⟨by omega, by omega, h.lies.byte, fun h0 => by
    obtain ⟨b, o, e, hb, hc⟩ := h.lies.spot (by omega)
    exact ⟨b, o, e, hb, fun i hi => hc i (by omega)⟩⟩
  have hT := h.tab
  have hkc : (k : Int) ≤ c := by omega
  have hk' : (k : Int) < 16 := by omega
  go_enter Tryd.func18, Tryd.ntmps18
  go_wp2_with fail
  refine (open_any _ k c (zb (layL (zl hel) 5)) 99 99 (by decide) (by omega) _ hLk hT).mono ?_
  intro e w1 h1
  obtain ⟨b1, rfl⟩ := h1.no (kh9 k hk)
  clear h1
  go_wp2
  go_ret
  exact ⟨rfl, b1⟩

set_option maxRecDepth 100000 in
set_option maxHeartbeats 6400000 in
theorem zlibKnown_walk (w : World) (hT : Tab w) : Calls Tryd.prog 4 #[] w fun e w' => e = .returned (.bool true) ∧ Below w.heap.size w w' := by
  have hmf : ∀ (fn : Fn) (first cap : Array Value) (w : World), (Instr.makeFunc fn first cap).run Tryd.prog w = .ok (.func fn first cap) w := fun _ _ _ _ => rfl
  have hxor : bits .xor .u8 108 1 = 109 := by decide
  have b0 : Below w.heap.size w (w.alloc (.cells #[.int .u8 104, .int .u8 101, .int .u8 108, .int .u8 108, .int .u8 111] 5 (5, 6))) := (Below.refl _ _).alloc (Nat.le_refl _) _
  have L0 : Lies (w.alloc (.cells #[.int .u8 104, .int .u8 101, .int .u8 108, .int .u8 108, .int .u8 111] 5 (5, 6))) (some ⟨w.heap.size, 0, none⟩) 5 5 (zl hel) := lies_lit (cs := hel) (by decide) (by decide) (blk_new w _)
  have kc : (convert 23 23 (.slice (some ⟨w.heap.size, 0, none⟩) 5 5)).run Tryd.prog (w.alloc (.cells #[.int .u8 104, .int .u8 101, .int .u8 108, .int .u8 108, .int .u8 111] 5)) = .ok (.slice (some ⟨w.heap.size, 0, none⟩) 5 5) (w.alloc (.cells #[.int .u8 104, .int .u8 101, .int .u8 108, .int .u8 108, .int .u8 111] 5 (5, 6))) := Lib.run_convert_bytes_const (P := Tryd.prog) w 23 5 #[.int .u8 104, .int .u8 101, .int .u8 108, .int .u8 108, .int .u8 111] 5 5 Tryd.underlying23 Tryd.underlying5
  go_enter Tryd.func4, Tryd.ntmps4
  go_wp2_with fail
  refine (lay_any _ 5 5 (zl hel) _ L0 (by omega)).mono ?_
  rintro e w1 ⟨g, c, rfl, hO1, b1⟩
  have L1 := hO1.liesB (layL_byt L0.byte 5) (by rw [hel_len]; omega)
  rw [hel_len] at L1 ⊢
  have B1 := b0.trans (b1.mono b0.size)
  have bv : Below w1.heap.size w1 (w1.alloc (.cells #[.slice (some ⟨g, 0, none⟩) 16 c] 23)) := (Below.refl _ _).alloc (Nat.le_refl _) _
  have H2 : Held (w1.alloc (.cells #[.slice (some ⟨g, 0, none⟩) 16 c] 23)) w1.heap.size g c := ⟨L1.below bv (Nat.le_refl _), blk_new w1 _, (hT.below B1 hT.pos).below bv (by have := hT.pos; have := B1.size; omega)⟩
  have B2 := B1.trans (bv.mono B1.size)
  obtain ⟨gv, hgv⟩ : ∃ gv, gv = w1.heap.size := ⟨_, rfl⟩
  obtain ⟨W2, hW2⟩ : ∃ W2, W2 = w1.alloc (.cells #[.slice (some ⟨g, 0, none⟩) 16 c] 23) := ⟨_, rfl⟩
  rw [← hW2, ← hgv] at H2
  rw [← hW2] at B2
  have HGV : Hid (gv = w1.heap.size) := hgv
  have HW2 : Hid (W2 = _) := hW2
  clear kc L0 b0 b1 hO1 L1 B1 bv hgv hW2
  go_wp2_with fail
  rw [← HW2.out, ← HGV.out]
  refine (known9_any _ H2.tab).mono ?_
  rintro e W3 ⟨rfl, b3⟩
  have H3 := H2.below b3
  have B3 := B2.trans (b3.mono B2.size)
  have hv3 : W3.cell? ⟨gv, 0, none⟩ = some (.slice (some ⟨g, 0, none⟩) 16 c) := blk_cell H3.var 0
  have A1 := app1 (base := w.heap.size) B3.size (layL (zl hel) 5) H3.lies (layL_byt hel_lt 5) hel_len (by omega)
  have HA1 : Hid (_) := A1
  have bz3 : Below W3.heap.size W3 (W3.alloc (.cells #[] 5)) := (Below.refl _ _).alloc (Nat.le_refl _) _
  have hv4 : (W3.alloc (.cells #[] 5)).cell? ⟨gv, 0, none⟩ = some (.slice (some ⟨g, 0, none⟩) 16 c) := blk_cell (H3.below bz3).var 0
  clear b3 H2 B2 A1 HW2
  obtain ⟨S, hS⟩ : ∃ S, Hid (layL (zl hel) 5 = S) := ⟨_, rfl⟩
  have hSl : Hid (S.length = 16) := by show _ = _; rw [← hS.out]; exact hel_len
  have hSb : Hid (Byt S) := by show Byt S; rw [← hS.out]; exact layL_byt hel_lt 5
  have hS9 : Hid (S.getD 9 0 = 108) := by show _ = _; rw [← hS.out]; exact hel_nine
  have KA : Hid (opnE (zb (S.set 9 109)) 16 99 = .error 5) := by show _ = _; rw [← hS.out]; exact ka9
  have KB : Hid (opnE (zb (S ++ [0])) 17 99 = .error 2) := by show _ = _; rw [← hS.out]; exact kb9
  have KG : Hid (opnE (zb S) 16 4 = .error 4) := by show _ = _; rw [← hS.out]; exact kg9
  have HTB : Hid (Byt (S.set 9 109)) := by
    show Byt _
    rw [← hS.out, hel_turned]
    exact Byt.append (Byt.append two_byt (stL_byt hem_lt 5 5 0 (by omega))) (bigL_byt (adv_lt _ _))
  rw [hS.out] at HA1
  go_wp2_with (first
    | (at_builtin; refine wpList_append_ex rfl (.tmp 29) (.tmp 30) 23 rfl rfl rfl HA1.out ?_; rintro gt ct W4 hR4; obtain ⟨hO4, b4, hgt⟩ := hR4; have cell9 := hO4.cell (j := 9) (by rw [hSl.out]; omega); rw [hS9.out] at cell9; have fr9 := hO4.free 9; have hO5 := hO4.set 9 109; have b5 := b4.setCell (p := ⟨gt, 9, none⟩) hgt (.int .u8 109); obtain ⟨W5, hW5⟩ : ∃ W5, W5 = W4.setCell ⟨gt, 9, none⟩ (.int .u8 109) := ⟨_, rfl⟩; rw [← hW5] at hO5 b5; have HO5 : Hid (Own W5 w.heap.size 5 .u8 gt ct (S.set 9 109)) := hO5; have HB5 : Hid (_) := b5; have HW5 : Hid (W5 = _) := hW5; clear hW5 hO5 b5 hO4 b4 hgt)
    | (rw [← HW5.out]))
  clear hv3 hv4 hxor HA1
  have b5 := HB5.out
  have H5 := H3.below b5
  have B5 := B3.trans (b5.mono B3.size)
  have L5 := HO5.out.liesB HTB.out (by simp [hSl.out])
  rw [List.length_set, hSl.out] at L5
  clear HO5 HB5 H3 B3 b5 HW5
  refine (open_any _ 16 ct (zb (S.set 9 109)) 99 99 (by decide) (by omega) _ L5 H5.tab).mono ?_
  intro e W6 h6
  obtain ⟨b6, rfl⟩ := h6.no KA.out
  have H6 := H5.below b6
  have B6 := B5.trans (b6.mono B5.size)
  clear h6 L5 H5 B5 b6 cell9 fr9
  have bz6 : Below W6.heap.size W6 (W6.alloc (.cells #[] 5)) := (Below.refl _ _).alloc (Nat.le_refl _) _
  have hv6 : W6.cell? ⟨gv, 0, none⟩ = some (.slice (some ⟨g, 0, none⟩) 16 c) := blk_cell H6.var 0
  have hv7 : (W6.alloc (.cells #[] 5)).cell? ⟨gv, 0, none⟩ = some (.slice (some ⟨g, 0, none⟩) 16 c) := blk_cell (H6.below bz6).var 0
  have A7 := app1 (base := w.heap.size) B6.size S (by rw [← hS.out]; exact H6.lies) hSb.out hSl.out (by omega)
  have HA7 : Hid (_) := A7
  have A8 : ∀ g7 c7 W7, (Own W7 w.heap.size 5 .u8 g7 c7 S ∧ Below W6.heap.size W6 W7 ∧ W6.heap.size ≤ g7) → ∃ g' c' w', (Builtin.append_ #[23, 23] 23 #[.slice (some ⟨g7, 0, none⟩) 16 c7, .slice (some ⟨W7.heap.size, 0, none⟩) 1 1]).run Tryd.prog (W7.alloc (.cells #[.int .u8 0] 5)) = .ok (.slice (some ⟨g', 0, none⟩) 17 c') w' ∧ (Own w' w.heap.size 5 .u8 g' c' (S ++ [0]) ∧ Below w.heap.size w w' ∧ (W7.alloc (.cells #[.int .u8 0] 5)).grownBy w' (some g7)) := fun g7 c7 W7 hR => by
    have B7 := B6.trans (hR.2.1.mono B6.size)
    have hl : Own (W7.alloc (.cells #[.int .u8 0] 5)) w.heap.size 5 .u8 W7.heap.size 1 [0] := own_lit W7 w.heap.size 5 .u8 [0] B7.size (by simp)
    exact app_on (B7.alloc B7.size _) (hR.1.alloc _) (hl.src' (n := 1) rfl) hSl.out (by rw [hSl.out]; omega)
  clear A7 bz6
  go_wp2_with (first
    | (at_builtin; refine wpList_append_ex rfl (.tmp 43) (.tmp 44) 23 rfl rfl rfl HA7.out ?_; rintro g7 c7 W7 hR7; have HR7 : Hid (_) := hR7; have HA8 : Hid (_) := A8 _ _ _ hR7; clear hR7)
    | (at_builtin; refine wpList_append_ex rfl (.tmp 45) (.tmp 46) 23 rfl rfl rfl HA8.out ?_; rintro g8 c8 W8 hR8; have HR8 : Hid (_) := hR8; clear hR8))
  have b8 : Below W6.heap.size W6 W8 := by
    have h1 := HR7.out
    have h2 : Below W6.heap.size W6 (W7.alloc (.cells #[.int .u8 0] 5)) := h1.2.1.alloc h1.2.1.size _
    exact h2.grown HR8.out.2.2 h2.size (fun k hk => by simp at hk; subst hk; exact h1.2.2)
  have H8 := H6.below b8
  have B8 := HR8.out.2.1
  have HO8 : Own W8 w.heap.size 5 .u8 g8 c8 (S ++ [0]) := HR8.out.1
  have L8 := HO8.liesB (Byt.append hSb.out (fun i => by rcases i with _ | i <;> simp)) (by simp [hSl.out])
  rw [List.length_append, hSl.out] at L8
  clear HO8
  clear HA7 A8 hv6 hv7 HR7 HR8 HA8 b8 H6 B6
  refine (open_any _ 17 c8 (zb (S ++ [0])) 99 99 (by decide) (by omega) _ L8 H8.tab).mono ?_
  intro e W9 h9
  obtain ⟨b9, rfl⟩ := h9.no KB.out
  have H9 := H8.below b9
  have B9 := B8.trans (b9.mono B8.size)
  clear h9 L8 H8 B8 b9
  have bl : Below W9.heap.size W9 (W9.alloc (.cells #[.int .u8 121, .int .u8 1, .int .u8 3, .int .u8 0] 5)) := (Below.refl _ _).alloc (Nat.le_refl _) _
  have LL : Lies (W9.alloc (.cells #[.int .u8 121, .int .u8 1, .int .u8 3, .int .u8 0] 5)) (some ⟨W9.heap.size, 0, none⟩) 4 4 (zl [121, 1, 3, 0]) := lies_lit (cs := [121, 1, 3, 0]) (by decide) (by decide) (blk_new W9 _)
  go_wp2_with fail
  refine (open_any _ 4 4 (zl [121, 1, 3, 0]) 99 99 (by decide) (by omega) _ LL (H9.below bl).tab).mono ?_
  intro e W10 h
  obtain ⟨b, rfl⟩ := h.no kc9
  have H10 := (H9.below bl).below b
  have B10 := B9.trans ((bl.trans (b.mono bl.size)).mono B9.size)
  clear h LL b bl H9 B9
  have bl : Below W10.heap.size W10 (W10.alloc (.cells #[.int .u8 120, .int .u8 2, .int .u8 3, .int .u8 0] 5)) := (Below.refl _ _).alloc (Nat.le_refl _) _
  have LL : Lies (W10.alloc (.cells #[.int .u8 120, .int .u8 2, .int .u8 3, .int .u8 0] 5)) (some ⟨W10.heap.size, 0, none⟩) 4 4 (zl [120, 2, 3, 0]) := lies_lit (cs := [120, 2, 3, 0]) (by decide) (by decide) (blk_new W10 _)
  go_wp2_with fail
  refine (open_any _ 4 4 (zl [120, 2, 3, 0]) 99 99 (by decide) (by omega) _ LL (H10.below bl).tab).mono ?_
  intro e W11 h
  obtain ⟨b, rfl⟩ := h.no kd9
  have H11 := (H10.below bl).below b
  have B11 := B10.trans ((bl.trans (b.mono bl.size)).mono B10.size)
  clear h LL b bl H10 B10
  have bl : Below W11.heap.size W11 (W11.alloc (.cells #[.int .u8 120, .int .u8 32, .int .u8 3, .int .u8 0] 5)) := (Below.refl _ _).alloc (Nat.le_refl _) _
  have LL : Lies (W11.alloc (.cells #[.int .u8 120, .int .u8 32, .int .u8 3, .int .u8 0] 5)) (some ⟨W11.heap.size, 0, none⟩) 4 4 (zl [120, 32, 3, 0]) := lies_lit (cs := [120, 32, 3, 0]) (by decide) (by decide) (blk_new W11 _)
  go_wp2_with fail
  refine (open_any _ 4 4 (zl [120, 32, 3, 0]) 99 99 (by decide) (by omega) _ LL (H11.below bl).tab).mono ?_
  intro e W12 h
  obtain ⟨b, rfl⟩ := h.no ke9
  have H12 := (H11.below bl).below b
  have B12 := B11.trans ((bl.trans (b.mono bl.size)).mono B11.size)
  clear h LL b bl H11 B11
  have bl : Below W12.heap.size W12 (W12.alloc (.cells #[.int .u8 136, .int .u8 28, .int .u8 3, .int .u8 0] 5)) := (Below.refl _ _).alloc (Nat.le_refl _) _
  have LL : Lies (W12.alloc (.cells #[.int .u8 136, .int .u8 28, .int .u8 3, .int .u8 0] 5)) (some ⟨W12.heap.size, 0, none⟩) 4 4 (zl [136, 28, 3, 0]) := lies_lit (cs := [136, 28, 3, 0]) (by decide) (by decide) (blk_new W12 _)
  go_wp2_with fail
  refine (open_any _ 4 4 (zl [136, 28, 3, 0]) 99 99 (by decide) (by omega) _ LL (H12.below bl).tab).mono ?_
  intro e W13 h
  obtain ⟨b, rfl⟩ := h.no kf9
  have H13 := (H12.below bl).below b
  have B13 := B12.trans ((bl.trans (b.mono bl.size)).mono B12.size)
  clear h LL b bl H12 B12
  have hv13 : W13.cell? ⟨gv, 0, none⟩ = some (.slice (some ⟨g, 0, none⟩) 16 c) := blk_cell H13.var 0
  go_wp2_with fail
  refine (open_any _ 16 c (zb S) 4 4 (by decide) (by omega) _ (by rw [← hS.out]; exact H13.lies) H13.tab).mono ?_
  intro e W14 h
  obtain ⟨b, rfl⟩ := h.no KG.out
  have H14 := H13.below b
  have B14 := B13.trans (b.mono B13.size)
  clear h b H13 B13 hv13
  go_wp2_with fail
  refine (cut_any 0 (by omega) gv g c _ H14).mono ?_
  rintro e W15 ⟨rfl, b⟩
  have H15 := H14.below b
  have B15 := B14.trans (b.mono B14.size)
  clear b H14 B14
  go_wp2_with fail
  refine (cut_any 1 (by omega) gv g c _ H15).mono ?_
  rintro e W16 ⟨rfl, b⟩
  have H16 := H15.below b
  have B16 := B15.trans (b.mono B15.size)
  clear b H15 B15
  go_wp2_with fail
  refine (cut_any 9 (by omega) gv g c _ H16).mono ?_
  rintro e W17 ⟨rfl, b⟩
  have H17 := H16.below b
  have B17 := B16.trans (b.mono B16.size)
  clear b H16 B16
  go_wp2_with fail
  refine (cut_any 14 (by omega) gv g c _ H17).mono ?_
  rintro e W18 ⟨rfl, b⟩
  have H18 := H17.below b
  have B18 := B17.trans (b.mono B17.size)
  clear b H17 B17
  go_wp2
  go_ret
  exact ⟨rfl, B18⟩
end Go.Proofs.YtahibacjaoohiaaDoor
