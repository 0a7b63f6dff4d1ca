/-
  SfntKnown's own walk.
-/
import Derived.Test.YtdmfammajggfpaaKno
import Derived.Test.YtdmfammajggfpaaOpn
import Derived.Lib.BufferWrite
namespace Go.Proofs.Ytdmfammajggfpaa
open Go.RowKit

/-- copy of a text into a row of the call's own. -/
theorem copy_own {w : World} {base g c : Nat} {xs : List Int} (h : Own w base 5 .u8 g c xs) (o dLen dCap : Nat) (s : ByteArray) (hd : s.size ≤ dLen) (ho : o + s.size ≤ xs.length) :
    ∃ w', (Builtin.copy_ #[22, 9] 3 #[.slice (some ⟨g, o, none⟩) dLen dCap, .string s]).run Try.prog w = .ok (goInt s.size) w' ∧ Own w' base 5 .u8 g c (xs.take o ++ txtL s ++ xs.drop (o + s.size)) ∧ Below g w w' := by
  rcases h.2 with ⟨h', _⟩ | ⟨g', cap', cur, hv, h1, h2, h3, h4, h5, h6⟩
  · simp at h'
  · simp only [Value.slice.injEq, Option.some.injEq, Addr.mk.injEq, and_true, true_and] at hv
    obtain ⟨rfl, rfl⟩ := hv
    rw [Nat.mul_one] at h6
    have hl : (txtL s).length = s.size := txtL_len s
    have hcs : (Go.Lib.byteCells s.data.toList) = (txtL s).map fun x => Value.int .u8 x := by
      unfold Go.Lib.byteCells txtL
      rw [List.map_map]; rfl
    have hr := Go.Lib.run_copy_row_string (P := Try.prog) w 22 9 3 5 g o dLen dCap s cur 5 Try.underlying22 size5 h2 hd (by omega)
    refine ⟨_, hr, ⟨by simp, .inr ⟨g, c, _, ?_, h1, setRow_heap w g cur _ 5 _ h2, ?_, h4, ?_, ?_⟩⟩, below_setRow (Below.refl _ _) (Nat.le_refl _) _⟩
    · simp only [List.length_append, List.length_take, List.length_drop, hl]
    · simp only [List.length_append, List.length_take, List.length_drop, hl]; omega
    · simp only [List.size_toArray, List.length_append, List.length_take, List.length_drop, Array.length_toList, hcs, List.length_map, hl]; omega
    · have e1 : cur.toList.take o = (xs.take o).map fun x => Value.int .u8 x := by rw [List.map_take, ← h6, List.take_take, Nat.min_eq_left (by omega)]
      have e2 : (cur.toList.drop (o + s.size)).take (xs.length - (o + s.size)) = (xs.drop (o + s.size)).map fun x => Value.int .u8 x := by
        rw [List.map_drop, ← h6, List.drop_take]
      have hlen : (xs.take o ++ txtL s ++ xs.drop (o + s.size)).length = xs.length := by
        simp only [List.length_append, List.length_take, List.length_drop, hl]; omega
      rw [hlen, Nat.mul_one, hcs]
      simp only [List.map_append]
      rw [← e1, ← e2]
      have hl1 : (cur.toList.take o ++ (txtL s).map fun x => Value.int .u8 x).length = o + s.size := by
        simp only [List.length_append, List.length_take, Array.length_toList, List.length_map, hl]; omega
      rw [List.take_append, List.take_of_length_le (by omega), hl1]

/-- The law's closure: the font with a byte turned, opened. -/
theorem why_any (bb g cc : Nat) (at' c : Nat) (hat : at' < 47) (hc : c < 256) (w : World) (hb : w.cell? ⟨bb, 0, none⟩ = some (.slice (some ⟨g, 0, none⟩) 47 cc)) (hL : Lies w (some ⟨g, 0, none⟩) 47 cc (zb l47)) :
    Calls Try.prog 9 #[.int .i64 (at' : Nat), .int .u8 (c : Nat), .pointer (some ⟨bb, 0, none⟩)] w fun e w' => e = .returned (.int .i64 (opnv (zb (l47.set at' (c : Int))) 47 : Nat)) ∧ Below w.heap.size w w' := by
  have hbl := blk_lt_of_cell hb
  have hb1 : (w.alloc (.cells #[] 5)).cell? ⟨bb, 0, none⟩ = some (.slice (some ⟨g, 0, none⟩) 47 cc) := (World.cell?_of_block (a := ⟨bb, 0, none⟩) (Below.heap_alloc w _ bb hbl)).trans hb
  have HA : Hid (_) := few_src hL (Nat.le_refl _) (by omega)
  have hby : byt (zb l47) 0 47 = l47 := byt_bytes l47_byt rfl
  rw [hby] at HA
  have hat' : (at' : Int) < 47 := by omega
  have hbs : Byt (l47.set at' (c : Int)) := byt_set l47_byt at' c hc
  have hls : (l47.set at' (c : Int)).length = 47 := by rw [List.length_set]; rfl
  have OPN := fun (g1 c1 : Nat) (W : World) (h : Own W w.heap.size 5 .u8 g1 c1 (l47.set at' (c : Int))) => open_any (some ⟨g1, 0, none⟩) 47 c1 (zb (l47.set at' (c : Int))) W (by have := h.liesB hbs (by rw [hls]; omega); rwa [hls] at this) (by omega)
  obtain ⟨E, hE⟩ : ∃ E, Hid (opnv (zb (l47.set at' (c : Int))) 47 = E) := ⟨_, rfl⟩
  unfold TellsF at OPN
  rw [hE.out] at OPN ⊢
  clear hb hL hby hls hbs
  go_enter Try.func9, Try.ntmps9
  go_wp2_with (at_builtin; refine wpList_append_ex rfl (.tmp 9) (.tmp 10) 22 rfl rfl rfl HA.out ?_; rintro g1 c1 w1 hR1; have HR : Hid (_) := hR1; have cl := hR1.1.cell (j := at') (by show _ < 47; omega); have fr := hR1.1.free at'; clear hR1)
  obtain ⟨W, hW⟩ : ∃ W, W = w1.setCell ⟨g1, at', none⟩ (.int .u8 (c : Nat)) := ⟨_, rfl⟩
  rw [← hW]
  have hO : Own W w.heap.size 5 .u8 g1 c1 (l47.set at' (c : Int)) := by rw [hW]; exact HR.out.1.set at' (c : Int)
  have hB : Below w.heap.size w W := by rw [hW]; exact HR.out.2.setCell (p := ⟨g1, at', none⟩) HR.out.1.lt.1 _
  clear hW cl fr
  refine (OPN g1 c1 W hO).mono ?_
  rintro e w2 ⟨b2, ⟨_, rfl⟩ | ⟨h0, p, rfl, _⟩⟩
  · have B2 := hB.trans (b2.mono hB.size)
    clear OPN
    go_wp2
    go_ret
    exact ⟨rfl, B2⟩
  · have B2 := hB.trans (b2.mono hB.size)
    clear OPN
    go_wp2
    go_ret
    exact ⟨by rw [h0.out]; rfl, B2⟩

/-- The law's font, and where it is held. -/
structure Bv (w : World) (bb g cc : Nat) : Prop where
  cell : w.cell? ⟨bb, 0, none⟩ = some (.slice (some ⟨g, 0, none⟩) 47 cc)
  lies : Lies w (some ⟨g, 0, none⟩) 47 cc (zb l47)
theorem Bv.below {w w' : World} {bb g cc : Nat} (h : Bv w bb g cc) (hb : Below w.heap.size w w') : Bv w' bb g cc :=
  ⟨(World.cell?_of_block (a := ⟨bb, 0, none⟩) (hb.block bb (blk_lt_of_cell h.cell))).trans h.cell, h.lies.below hb (Nat.le_refl _)⟩
theorem Bv.some {w : World} {bb g cc : Nat} (h : Bv w bb g cc) {n : Nat} (hn : n ≤ 47) : Lies w (.some ⟨g, 0, none⟩) n cc (zb l47) :=
  ⟨by have := h.lies.lc; omega, by omega, h.lies.byte, fun h0 => by
    obtain ⟨b, o, e, hb, hc⟩ := h.lies.spot (by omega)
    exact ⟨b, o, e, hb, fun i hi => hc i (by omega)⟩⟩
theorem open_bad {a : Option Addr} {len cap v : Nat} {z : Nat → Nat} (hv : opnv z len = v) (h0 : v ≠ 0) (hl : len ≤ 1000) {w : World} (h : Lies w a len cap z) :
    Calls Try.prog 10 #[.slice a len cap] w fun e w' => e = .returned (.tuple #[.pointer none, .int .i64 (v : Nat)]) ∧ Below w.heap.size w w' := by
  refine (open_any a len cap z w h (by omega)).mono ?_
  rintro e w' ⟨b, ⟨_, rfl⟩ | ⟨h1, _⟩⟩
  · exact ⟨by rw [hv], b⟩
  · exact (h0 (hv.symm.trans h1.out)).elim
theorem open_fine {a : Option Addr} {len cap : Nat} {z : Nat → Nat} (hv : opnv z len = 0) (hl : len ≤ 1000) {w : World} (h : Lies w a len cap z) :
    Calls Try.prog 10 #[.slice a len cap] w fun e w' => ∃ p, e = .returned (.tuple #[.pointer (some ⟨p, 0, none⟩), .int .i64 0]) ∧ Below w.heap.size w w' := by
  refine (open_any a len cap z w h (by omega)).mono ?_
  rintro e w' ⟨b, ⟨h1, _⟩ | ⟨_, p, rfl, _⟩⟩
  · exact (h1.out hv).elim
  · exact ⟨p, rfl, b⟩
def l12 : List Int := [0, 1, 0, 0, 0, 0, 0, 0, 0, 0, 0, 0]
theorem lay12 : layB s2 (t2 0 0) 0 = l12 := by kernel_rfl
theorem l12_byt : Byt l12 := by
  intro i
  have h : ∀ i : Fin 12, 0 ≤ l12.getD i.val 0 ∧ l12.getD i.val 0 < 256 := by decide +kernel
  by_cases hi : i < 12
  · exact h ⟨i, hi⟩
  · rw [List.getD_eq_getElem?_getD, List.getElem?_eq_none (by show 12 ≤ i; omega)]; simp
theorem o12 : opnv (zb l12) 12 = 0 := by kernel_rfl
theorem o11 : opnv (zb l47) 11 = 3 := by kernel_rfl
theorem o46 : opnv (zb l47) 46 = 3 := by kernel_rfl
theorem o40 : opnv (zb l47) 40 = 3 := by kernel_rfl
def l47s : List Int := l47.take 28 ++ txtL { data := #[97, 98, 99, 100] } ++ l47.drop (28 + 4)
theorem l47s_byt : Byt l47s := by
  intro i
  have h : ∀ i : Fin 47, 0 ≤ l47s.getD i.val 0 ∧ l47s.getD i.val 0 < 256 := by decide +kernel
  by_cases hi : i < 47
  · exact h ⟨i, hi⟩
  · rw [List.getD_eq_getElem?_getD, List.getElem?_eq_none (by show 47 ≤ i; omega)]; simp
theorem o47s : opnv (zb l47s) 47 = 2 := by kernel_rfl
theorem y0 : opnv (zb (l47.set 0 ((1 : Nat) : Int))) 47 = 2 := by kernel_rfl
theorem y5a : opnv (zb (l47.set 5 ((65 : Nat) : Int))) 47 = 4 := by kernel_rfl
theorem y5b : opnv (zb (l47.set 5 ((3 : Nat) : Int))) 47 = 3 := by kernel_rfl
theorem y20 : opnv (zb (l47.set 20 ((255 : Nat) : Int))) 47 = 3 := by kernel_rfl
theorem y27 : opnv (zb (l47.set 27 ((40 : Nat) : Int))) 47 = 3 := by kernel_rfl
theorem y16 : opnv (zb (l47.set 16 ((9 : Nat) : Int))) 47 = 0 := by kernel_rfl
theorem why_is {at' c v : Nat} (hv : opnv (zb (l47.set at' (c : Int))) 47 = v) (hat : at' < 47) (hc : c < 256) {bb g cc : Nat} {w : World} (h : Bv w bb g cc) :
    Calls Try.prog 9 #[.int .i64 (at' : Nat), .int .u8 (c : Nat), .pointer (some ⟨bb, 0, none⟩)] w fun e w' => e = .returned (.int .i64 (v : Nat)) ∧ Below w.heap.size w w' := by
  have := why_any bb g cc at' c hat hc w h.cell h.lies
  rwa [hv] at this
/-- Texts that are written out. -/
theorem strs_lit {w : World} (cs : Array Value) (s : Nat → ByteArray) (n : Nat) (hn : n ≤ 100) (hs : ∀ i, i < n → cs[i]? = some (.string (s i))) : Strs (w.alloc (.cells cs 9)) (some ⟨w.heap.size, 0, none⟩) n n s :=
  ⟨Nat.le_refl _, by omega, fun _ => ⟨_, 0, rfl, by simp, fun i hi => by rw [blk_cell (blk_new w _), Nat.zero_add]; exact hs i hi⟩⟩

set_option maxRecDepth 100000 in
set_option maxHeartbeats 3200000 in
theorem sfntKnown_walk (w : World) : Calls Try.prog 3 #[] w fun e w' => e = .returned (.bool true) ∧ Below w.heap.size w w' := by
  obtain ⟨W, hW⟩ : ∃ W, W = (((w.alloc (.cells #[.string { data := #[97, 98, 99, 100] }, .string { data := #[101, 102, 103, 104] }] 9)).alloc (.cells #[.int .u8 1, .int .u8 2] 5)).alloc (.cells #[.int .u8 3] 5)).alloc (.cells #[.slice (some ⟨w.heap.size + 1, 0, none⟩) 2 2, .slice (some ⟨w.heap.size + 1 + 1, 0, none⟩) 1 1] 22) := ⟨_, rfl⟩
  obtain ⟨hS, hT, bW⟩ := laid2 w hW
  have L := lay_yes _ 2 2 s2 _ 2 (t2 (w.heap.size + 1) (w.heap.size + 1 + 1)) W hS hT (by omega) ok2 (fun k hk => t2_le _ _ hk)
  rw [lay47] at L
  rw [show l47.length = 47 from rfl] at L
  have HW : Hid (W = _) := hW
  have hmf : ∀ (fn : Fn) (first cap : Array Value) (w : World), (Instr.makeFunc fn first cap).run Try.prog w = .ok (.func fn first cap) w := fun _ _ _ _ => rfl
  clear hW hS hT
  go_enter Try.func3, Try.ntmps3
  go_wp2_with fail
  rw [← HW.out]
  refine L.mono ?_
  rintro e w1 ⟨g, c, rfl, hO, b1⟩
  have B1 := bW.trans (b1.mono bW.size)
  have LB : Lies w1 (some ⟨g, 0, none⟩) 47 c (zb l47) := hO.liesB l47_byt (by show 47 ≤ _; omega)
  have hc47 := LB.lc
  have c11 : (11 : Int) ≤ c := by omega
  have c46 : (46 : Int) ≤ c := by omega
  have c40 : (40 : Int) ≤ c := by omega
  have c28 : ¬ c = 28 := by omega
  obtain ⟨bb, hbb⟩ : ∃ bb, bb = w1.heap.size := ⟨_, rfl⟩
  obtain ⟨V1, hV1⟩ : ∃ V, V = w1.alloc (.cells #[.slice (some ⟨g, 0, none⟩) 47 c] 22) := ⟨_, rfl⟩
  have BV1 : Bv V1 bb g c := by
    rw [hV1, hbb]
    exact ⟨by rw [blk_cell (blk_new w1 _)]; rfl, LB.below ((Below.refl _ _).alloc (Nat.le_refl _) _) (Nat.le_refl _)⟩
  have D1 : Below w.heap.size w V1 := by rw [hV1]; exact B1.alloc B1.size _
  have HV1 : Hid (V1 = _) := hV1
  have HBB : Hid (bb = _) := hbb
  have LY := lay_yes none 0 0 s2 none 0 (t2 0 0) V1 (Strs.none _ _) (Tabs.none _ _) (by omega) rfl (fun k hk => by omega)
  rw [lay12, show l12.length = 12 from rfl] at LY
  clear L hO LB hV1 hbb
  go_wp2_with fail
  rw [← HV1.out, ← HBB.out]
  refine LY.mono ?_
  rintro e w2 ⟨g2, cc2, rfl, hO2, b2⟩
  have D2 := D1.trans (b2.mono D1.size)
  have BV2 := BV1.below b2
  have L2 : Lies w2 (some ⟨g2, 0, none⟩) 12 cc2 (zb l12) := hO2.liesB l12_byt (by show 12 ≤ _; omega)
  clear LY hO2
  go_wp2_with fail
  refine (known_any _).mono ?_
  rintro e w3 ⟨rfl, b3⟩
  have D3 := D2.trans (b3.mono D2.size)
  have BV3 := BV2.below b3
  have L3 := L2.below b3 (Nat.le_refl _)
  have k3 := BV3.cell
  go_wp2_with fail
  refine (open_fine o12 (by omega) L3).mono ?_
  rintro e w4 ⟨p4, rfl, b4⟩
  have D4 := D3.trans (b4.mono D3.size)
  have BV4 := BV3.below b4
  have k4 := BV4.cell
  clear k3 L2 L3
  go_wp2_with fail
  refine (open_bad o11 (by omega) (by omega) (BV4.some (n := 11) (by omega))).mono ?_
  rintro e w5 ⟨rfl, b5⟩
  have D5 := D4.trans (b5.mono D4.size)
  have BV5 := BV4.below b5
  have k5 := BV5.cell
  clear k4
  go_wp2_with fail
  refine (open_bad o46 (by omega) (by omega) (BV5.some (n := 46) (by omega))).mono ?_
  rintro e w6 ⟨rfl, b6⟩
  have D6 := D5.trans (b6.mono D5.size)
  have BV6 := BV5.below b6
  have k6 := BV6.cell
  clear k5
  go_wp2_with fail
  refine (open_bad o40 (by omega) (by omega) (BV6.some (n := 40) (by omega))).mono ?_
  rintro e w7 ⟨rfl, b7⟩
  have D7 := D6.trans (b7.mono D6.size)
  have BV7 := BV6.below b7
  have E8 := BV7.below ((Below.refl _ _).alloc (Nat.le_refl _) (.cells #[.string { data := #[97, 98, 99, 100] }] 9))
  have D8 := D7.alloc D7.size (.cells #[.string { data := #[97, 98, 99, 100] }] 9)
  obtain ⟨V8, hV8⟩ : ∃ V, V = w7.alloc (.cells #[.string { data := #[97, 98, 99, 100] }] 9) := ⟨_, rfl⟩
  have S8 : Strs V8 (some ⟨w7.heap.size, 0, none⟩) 1 1 (fun _ => { data := #[97, 98, 99, 100] }) := by rw [hV8]; exact strs_lit _ _ 1 (by omega) (fun i hi => by obtain rfl : i = 0 := (by omega); rfl)
  have HV8 : Hid (V8 = _) := hV8
  rw [← hV8] at E8 D8
  clear hV8 k6
  go_wp2_with fail
  rw [← HV8.out]
  refine (lay_no _ 1 1 _ none 0 0 V8 S8 (by omega) (fun e => by omega)).mono ?_
  rintro e w8 ⟨rfl, rfl⟩
  have BV8 := E8
  have E9 := (BV8.below ((Below.refl _ _).alloc (Nat.le_refl _) (.cells #[.string { data := #[97, 98, 99] }] 9))).below ((Below.refl _ _).alloc (Nat.le_refl _) (.cells #[.slice none 0 0] 22))
  have D9 := (D8.alloc D8.size (.cells #[.string { data := #[97, 98, 99] }] 9)).alloc (by have := D8.size; simp; omega) (.cells #[.slice none 0 0] 22)
  obtain ⟨V9, hV9⟩ : ∃ V, V = (w8.alloc (.cells #[.string { data := #[97, 98, 99] }] 9)).alloc (.cells #[.slice none 0 0] 22) := ⟨_, rfl⟩
  have S9 : Strs V9 (some ⟨w8.heap.size, 0, none⟩) 1 1 (fun _ => { data := #[97, 98, 99] }) := by
    rw [hV9]
    exact (strs_lit (w := w8) #[.string { data := #[97, 98, 99] }] _ 1 (by omega) (fun i hi => by obtain rfl : i = 0 := (by omega); rfl)).below ((Below.refl _ _).alloc (Nat.le_refl _) _) (Nat.le_refl _)
  have HV9 : Hid (V9 = _) := hV9
  rw [← hV9] at E9 D9
  clear hV9
  go_wp2_with fail
  rw [← HV9.out]
  refine (lay_no _ 1 1 _ _ 1 1 V9 S9 (by omega) (fun e => by have := e.2.2; revert this; decide +kernel)).mono ?_
  rintro e w9 ⟨rfl, rfl⟩
  have E10 := (E9.below ((Below.refl _ _).alloc (Nat.le_refl _) (.cells #[.string { data := #[97, 98, 99, 100] }, .string { data := #[97, 98, 99, 100] }] 9))).below ((Below.refl _ _).alloc (Nat.le_refl _) (.cells #[.slice none 0 0, .slice none 0 0] 22))
  have D10 := (D9.alloc D9.size (.cells #[.string { data := #[97, 98, 99, 100] }, .string { data := #[97, 98, 99, 100] }] 9)).alloc (by have := D9.size; simp; omega) (.cells #[.slice none 0 0, .slice none 0 0] 22)
  obtain ⟨VA, hVA⟩ : ∃ V, V = (w9.alloc (.cells #[.string { data := #[97, 98, 99, 100] }, .string { data := #[97, 98, 99, 100] }] 9)).alloc (.cells #[.slice none 0 0, .slice none 0 0] 22) := ⟨_, rfl⟩
  have S10 : Strs VA (some ⟨w9.heap.size, 0, none⟩) 2 2 (fun _ => { data := #[97, 98, 99, 100] }) := by
    rw [hVA]
    exact (strs_lit (w := w9) #[.string { data := #[97, 98, 99, 100] }, .string { data := #[97, 98, 99, 100] }] _ 2 (by omega) (fun i hi => by rcases (show i = 0 ∨ i = 1 by omega) with rfl | rfl <;> rfl)).below ((Below.refl _ _).alloc (Nat.le_refl _) _) (Nat.le_refl _)
  have HVA : Hid (VA = _) := hVA
  rw [← hVA] at E10 D10
  clear hVA
  go_wp2_with fail
  rw [← HVA.out]
  refine (lay_no _ 2 2 _ _ 2 2 VA S10 (by omega) (fun e => by have := e.2.2; revert this; decide +kernel)).mono ?_
  rintro e w10 ⟨rfl, rfl⟩
  have HA : Hid (_) := few_src E10.lies (Nat.le_refl _) (by omega)
  rw [show byt (zb l47) 0 47 = l47 from byt_bytes l47_byt rfl] at HA
  have k10 := (E10.below ((Below.refl _ _).alloc (Nat.le_refl _) (.cells #[] 5))).cell
  have CP := fun (g1 c1 : Nat) (W : World) (h : Own W w10.heap.size 5 .u8 g1 c1 l47) => copy_own h 28 19 (c1 - 28) { data := #[97, 98, 99, 100] } (by show 4 ≤ 19; omega) (by show 28 + 4 ≤ 47; omega)
  clear S8 S9 S10 BV1 BV2 BV3 BV4 BV5 BV6 BV7 BV8 E8 E9 D1 D2 D3 D4 D5 D6 D7 D8 D9
  have NE1 : ∀ (g1 c1 : Nat) (W : World), Own W w10.heap.size 5 .u8 g1 c1 l47 → ¬ c1 = 28 := fun g1 c1 W h => by
    have h1 := h.lc.1
    have h2 : l47.length = 47 := rfl
    omega
  go_wp2_with (at_builtin; refine wpList_append_ex rfl (.tmp 88) (.tmp 89) 22 rfl rfl rfl HA.out ?_; rintro g1 c1 w11 hR1; have HR : Hid (_) := hR1; have hne1 := NE1 g1 c1 w11 hR1.1; obtain ⟨w12, hcp, hO12, hB12⟩ := CP g1 c1 w11 hR1.1; have HO12 : Hid (Own w12 w10.heap.size 5 .u8 g1 c1 l47s) := hO12; have HB12 : Hid (Below g1 w11 w12) := hB12; clear hO12 hB12 hR1)
  have B12 : Below w10.heap.size w10 w12 := HR.out.2.trans (HB12.out.mono HR.out.1.lt.1)
  have L12 := HO12.out.liesB l47s_byt (by show 47 ≤ _; omega)
  rw [show l47s.length = 47 by rfl] at L12
  have D12 := D10.trans (B12.mono D10.size)
  have BV12 := E10.below B12
  clear CP NE1 HA hcp
  refine (open_bad o47s (by omega) (by omega) L12).mono ?_
  rintro e w13 ⟨rfl, b13⟩
  have D13 := D12.trans (b13.mono D12.size)
  have BV13 := BV12.below b13
  clear L12
  go_wp2_with fail
  refine (why_is y0 (by omega) (by omega) BV13).mono ?_
  rintro e w14 ⟨rfl, b14⟩
  have D14 := D13.trans (b14.mono D13.size)
  have BV14 := BV13.below b14
  go_wp2_with fail
  refine (why_is y5a (by omega) (by omega) BV14).mono ?_
  rintro e w15 ⟨rfl, b15⟩
  have D15 := D14.trans (b15.mono D14.size)
  have BV15 := BV14.below b15
  go_wp2_with fail
  refine (why_is y5b (by omega) (by omega) BV15).mono ?_
  rintro e w16 ⟨rfl, b16⟩
  have D16 := D15.trans (b16.mono D15.size)
  have BV16 := BV15.below b16
  go_wp2_with fail
  refine (why_is y20 (by omega) (by omega) BV16).mono ?_
  rintro e w17 ⟨rfl, b17⟩
  have D17 := D16.trans (b17.mono D16.size)
  have BV17 := BV16.below b17
  go_wp2_with fail
  refine (why_is y27 (by omega) (by omega) BV17).mono ?_
  rintro e w18 ⟨rfl, b18⟩
  have D18 := D17.trans (b18.mono D17.size)
  have BV18 := BV17.below b18
  go_wp2_with fail
  refine (why_is y16 (by omega) (by omega) BV18).mono ?_
  rintro e w19 ⟨rfl, b19⟩
  have D19 := D18.trans (b19.mono D18.size)
  go_wp2
  go_ret
  exact ⟨rfl, D19⟩
end Go.Proofs.Ytdmfammajggfpaa
