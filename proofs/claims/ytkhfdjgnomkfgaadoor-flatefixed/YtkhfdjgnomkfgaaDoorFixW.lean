/-
  FlateFixed, walked.
-/
import Derived.Test.YtkhfdjgnomkfgaaDoorFxd
import Derived.Test.YtkhfdjgnomkfgaaDoorKnW
namespace Go.Proofs.YtkhfdjgnomkfgaaDoor
open Go.RowKit

/-- append(.., behind...), where what came in may be as long as a slice may be. -/
theorem Own.appendG {w : World} {base : Nat} {g cap : Nat} {xs : List Int} (h : Own w base 5 .u8 g cap xs) (hbase : base ≤ w.heap.size) {s : Option Addr} {m c : Nat} {ys : List Int} (hs : SrcI w .u8 s m ys) (hlen : xs.length + ys.length ≤ 140737488355328) :
    ∃ g' cap' w', (Builtin.append_ #[22, 22] 22 #[.slice (some ⟨g, 0, none⟩) xs.length cap, .slice s m c]).run Tryd.prog w = .ok (.slice (some ⟨g', 0, none⟩) (xs ++ ys).length cap') w' ∧ (Own w' base 5 .u8 g' cap' (xs ++ ys) ∧ w.grownBy w' (some g) ∧ (g' = g ∨ g' = w.heap.size)) := by
  obtain ⟨i, hi', h1, h2, h3⟩ := info_of info5
  obtain ⟨hsl, hsa⟩ := hs
  by_cases h0 : m = 0
  · subst h0
    have : ys = [] := List.length_eq_zero_iff.1 hsl
    subst this
    refine ⟨g, cap, w, ?_, by simpa using h, World.grownBy.refl _ _, .inl rfl⟩
    rw [List.append_nil]
    refine run_append_nothing w 22 22 22 5 i Tryd.underlying22 hi' _ _ _ h.lc.1 _ ?_
    cases s with
    | none => exact Src.ofNil w Tryd.underlying22 c
    | some x => exact Src.ofSlice w Tryd.underlying22 x 0 c [] (by simp) (by simp) (by simp)
  · obtain ⟨b, off, rfl, hc⟩ := hsa (by omega)
    obtain ⟨g', cap', w', hr, ho, hg, hat, _⟩ := run_append_lies (P := Tryd.prog) w 22 22 base 5 i (.int .u8 0) 1 1 Tryd.underlying22 hi' h1 h3 h2 rfl (by omega) (.slice (some ⟨g, 0, none⟩) xs.length cap) xs.length _ h ⟨b, off, none⟩ m c (ys.map fun y => .int .u8 y) (by simp [hsl])
      (fun j u hj => by
        have hj' : j < ys.length := by have := (List.getElem?_eq_some_iff.1 hj).1; simpa using this
        rw [add_none, hc j (by omega), ← hj]
        simp [hj'])
      (by intro u hu; obtain ⟨y, _, rfl⟩ := List.mem_map.1 hu; rfl) (by omega) (by unfold maxLen; omega) (by omega) hbase w.heap.size rfl
    refine ⟨g', cap', w', ?_, ?_, hg, ?_⟩
    · rw [hr, List.length_append, hsl]
    · unfold Own; rw [List.length_append, List.map_append, hsl]; exact ho
    · rcases hat with h | h
      · left; simpa [Value.ownBlock, eq_comm] using h
      · exact .inr h
theorem Own.liesG {w : World} {base g cap : Nat} {bs : List Int} (h : Own w base 5 .u8 g cap bs) (hb : Byt bs) (hl : bs.length ≤ 200000000000000) : Lies w (some ⟨g, 0, none⟩) bs.length cap (zb bs) := by
  have hbz : ∀ q, zb bs q < 256 := fun q => by have := hb q; unfold zb; omega
  refine ⟨h.lc.1, by omega, hbz, fun _ => ⟨g, 0, rfl, h.lt.2, fun i hi => ?_⟩⟩
  rw [Nat.zero_add, h.cell hi]
  have := hb i
  unfold zb
  congr 2
  omega
/-- append(append([]byte{}, z...), behind...): the first of the two. -/
theorem appG1 {w3 : World} {base : Nat} (hb : base ≤ w3.heap.size) (S : List Int) {sa : Option Addr} {c N : Nat} (hL : Lies w3 sa N c (zb S)) (hS : Byt S) (hN : S.length = N) (hs : N ≤ 100000) :
    ∃ g' cap' w', (Builtin.append_ #[22, 22] 22 #[.slice (some ⟨w3.heap.size, 0, none⟩) 0 0, .slice sa N c]).run Tryd.prog (w3.alloc (.cells #[] 5)) = .ok (.slice (some ⟨g', 0, none⟩) N cap') w' ∧ (Own w' base 5 .u8 g' cap' S ∧ Below w3.heap.size w3 w' ∧ w3.heap.size ≤ g') := by
  subst hN
  have EB := blk_new w3 (.cells #[] 5)
  have be : Below w3.heap.size w3 (w3.alloc (.cells #[] 5)) := (Below.refl _ _).alloc (Nat.le_refl _) _
  have OE : Own (w3.alloc (.cells #[] 5)) base 5 .u8 w3.heap.size 0 [] := ⟨rfl, .inr ⟨w3.heap.size, 0, #[], rfl, hb, EB, Nat.le_refl _, by unfold maxLen; omega, rfl, rfl⟩⟩
  obtain ⟨g', cap', w', h1, h2, h3, h4⟩ := OE.appendG (by simp; omega) (c := c) (Own.srcB (hL.below be (Nat.le_refl _))) (by rw [byt_len]; simp; omega)
  rw [byt_zb hS] at h1 h2
  refine ⟨g', cap', w', h1, h2, be.grown h3 be.size (fun k hk => by simp at hk; omega), ?_⟩
  rcases h4 with h4 | h4
  · omega
  · rw [h4]; simp
theorem appG2 {w w3 : World} (hB : Below w.heap.size w w3) {a2 : Option Addr} {l2 c2 : Nat} {z2 : Nat → Nat} (h2 : Lies w a2 l2 c2 z2) (S : List Int) {N : Nat} (hN : S.length = N) (hs : N ≤ 4000) (hl2 : l2 ≤ 140737488351232) (g1 c1 : Nat) (w1 : World)
    (hR : Own w1 w.heap.size 5 .u8 g1 c1 S ∧ Below w3.heap.size w3 w1 ∧ w3.heap.size ≤ g1) :
    Hid (∃ g' cap' w', (Builtin.append_ #[22, 22] 22 #[.slice (some ⟨g1, 0, none⟩) N c1, .slice a2 l2 c2]).run Tryd.prog w1 = .ok (.slice (some ⟨g', 0, none⟩) (N + l2) cap') w' ∧ (Own w' w.heap.size 5 .u8 g' cap' (S ++ byt z2 0 l2) ∧ Below w3.heap.size w3 w')) := by
  subst hN
  obtain ⟨hO, b1, hg⟩ := hR
  have B1 : Below w.heap.size w w1 := hB.trans (b1.mono hB.size)
  obtain ⟨g', cap', w', h1, h3, h4, _⟩ := hO.appendG B1.size (c := c2) (Own.srcB (h2.below B1 (Nat.le_refl _))) (by rw [byt_len]; omega)
  rw [List.length_append, byt_len] at h1
  exact ⟨g', cap', w', h1, h3, b1.grown h4 b1.size (fun k hk => by simp at hk; omega)⟩
theorem agree_front {bs ys : List Int} {at' : Nat} (hi : InvB bs at') (h : ∀ i, i < bs.length → zb (bs ++ ys) i = zb bs i) : Agree (zb (bs ++ ys)) bs at' := fun p hp => by
  refine bit_congr (h _ ?_)
  have := hi.len
  omega
theorem zb_app {bs ys : List Int} {i : Nat} (hi : i < bs.length) : zb (bs ++ ys) i = zb bs i := by
  unfold zb
  rw [List.getD_eq_getElem?_getD, List.getD_eq_getElem?_getD, List.getElem?_append_left hi]
theorem bstr_size (z : Nat → Nat) (n : Nat) : (bstr z n).size = n := by simp [bstr, ByteArray.size]

theorem SaysAll.no {bs O : List Int} {at' : Nat} (h : SaysAll false bs at' O) {z : Nat → Nat} {n most : Nat} (ha : Agree z bs at') (hl : at' ≤ 8 * n) (hm : O.length ≤ most) : inflE z n most = .error 2 := by
  have h1 := h z (8 * n) most ha hl
  exact h1 hm
theorem SaysAll.yes {bs O : List Int} {at' : Nat} (h : SaysAll true bs at' O) {z : Nat → Nat} {n most : Nat} (ha : Agree z bs at') (hl : at' ≤ 8 * n) (hm : O.length ≤ most) : inflE z n most = .ok (at', O) := by
  have h1 := h z (8 * n) most ha hl
  exact h1.1 hm
theorem SaysAll.most {bs O : List Int} {at' : Nat} (h : SaysAll true bs at' O) {z : Nat → Nat} {n most : Nat} (ha : Agree z bs at') (hl : at' ≤ 8 * n) (hm : most < O.length) : inflE z n most = .error 4 := by
  have h1 := h z (8 * n) most ha hl
  exact h1.2 hm
set_option maxRecDepth 100000 in
set_option maxHeartbeats 3200000 in
theorem fixed_walk (w : World) (a : Option Addr) (l c0 : Nat) (f : Nat → Nat → Int) (a2 : Option Addr) (l2 c2' : Nat) (z2 : Nat → Nat) (hR : Raws w a l c0 f) (h2 : Lies w a2 l2 c2' z2) (hl2 : l2 ≤ 140737488351232) (hT : Tab w) :
    Calls Tryd.prog 5 #[.slice a l c0, .slice a2 l2 c2'] w fun e w' => e = .returned (.bool true) ∧ Below w.heap.size w w' := by
  go_enter Tryd.func5, Tryd.ntmps5
  go_wp2_with fail
  refine (fixed_any w a l c0 f hR).mono ?_
  rintro e w3 ⟨v, bs, at', ok, O, rfl, hO3, B3, hinv, hSay, hBy, hOl, hat, hat2⟩
  have hbs : Byt bs := hinv.byte
  obtain ⟨sa, c, rfl, LZ⟩ := hO3.liesB hbs (by rw [hinv.len]; omega)
  obtain ⟨N, hN⟩ : ∃ N, Hid (bs.length = N) := ⟨_, rfl⟩
  have hNl : N = (at' + 7) / 8 := by rw [← hN.out]; exact hinv.len
  rw [hN.out] at LZ ⊢
  have HNL : Hid (N = (at' + 7) / 8) := hNl
  have hNs : N ≤ 4000 := by omega
  clear hNl
  have A1 := appG1 B3.size bs LZ hbs hN.out (by omega)
  have H2 := fun g1 c1 w1 hR => appG2 B3 h2 bs hN.out hNs hl2 g1 c1 w1 hR
  have HA1 : Hid (_) := A1
  have HLZ : Hid (Lies w3 sa N c (zb bs)) := LZ
  have HB3 : Hid (Below w.heap.size w w3) := B3
  have HBS : Hid (Byt bs) := hbs
  have HINV : Hid (InvB bs at') := hinv
  have hsz := bstr_size (zb O) O.length
  obtain ⟨ST, hST⟩ : ∃ ST, Hid (bstr (zb O) O.length = ST) := ⟨_, rfl⟩
  rw [hST.out] at hsz ⊢
  have hrl := h2.reach
  clear A1 LZ B3 hO3 hbs hinv hR
  go_wp2_with (first
    | (at_builtin; refine wpList_append_ex rfl (.tmp 21) (.tmp 22) 22 rfl rfl rfl HA1.out ?_; rintro g1 c1 w4 hR1; have HR1 := H2 g1 c1 w4 hR1; clear hR1)
    | (at_builtin; refine wpList_append_ex rfl (.tmp 23) (.tmp 24) 22 rfl rfl rfl HR1.out ?_; rintro g2 c2 w5 hR2; have HR2 : Hid (_) := hR2; clear hR2))
  obtain ⟨O5, b5⟩ := HR2.out
  have bw5 : Below w.heap.size w w5 := HB3.out.trans (b5.mono HB3.out.size)
  have hby5 : Byt (bs ++ byt z2 0 l2) := HBS.out.append (byt_of h2.byte)
  have hlen5 : (bs ++ byt z2 0 l2).length = N + l2 := by rw [List.length_append, byt_len, hN.out]
  have L5 := O5.liesG hby5 (by rw [hlen5]; omega)
  rw [hlen5] at L5
  have hag5 : Agree (zb (bs ++ byt z2 0 l2)) bs at' := agree_front HINV.out (fun i hi => zb_app hi)
  have HS5 : Hid (_) := hag5
  clear hag5 hby5 hlen5 HA1 H2 HR1 HR2 O5
  refine (inflate_any _ (N + l2) c2 (zb (bs ++ byt z2 0 l2)) (O.length : Nat) O.length (by rw [if_neg (by omega)]) (by omega) _ L5 (hT.below bw5 hT.pos)).mono ?_
  intro e w6 h6
  have b6 := h6.1
  have B6 : Below w.heap.size w w6 := bw5.trans (b6.mono bw5.size)
  have b36 : Below w3.heap.size w3 w6 := b5.trans (b6.mono b5.size)
  cases ok with
  | false =>
    have hE : inflE (zb (bs ++ byt z2 0 l2)) (N + l2) O.length = .error 2 := hSay.out.no HS5.out (by have := HNL.out; omega) (Nat.le_refl _)
    obtain ⟨_, rfl⟩ := h6.no hE
    clear h6 hE HS5 L5 bw5 b5 b6 b36
    go_wp2_with fail
    refine (known_any _ (hT.below B6 hT.pos)).mono ?_
    rintro e w7 ⟨rfl, b7⟩
    have B7 : Below w.heap.size w w7 := B6.trans (b7.mono B6.size)
    go_wp2
    go_ret
    exact ⟨rfl, B7⟩
  | true =>
    have hE : inflE (zb (bs ++ byt z2 0 l2)) (N + l2) O.length = .ok (at', O) := hSay.out.yes HS5.out (by have := HNL.out; omega) (Nat.le_refl _)
    obtain ⟨_, ra, rc, rfl, L6⟩ := h6.yes hE (by omega)
    have hu : (at' + 7) / 8 = N := HNL.out.symm
    rw [hu]
    clear h6 hE HS5 L5 bw5 b5 b6 hu
    go_wp2_with fail
    refine (known_any _ (hT.below B6 hT.pos)).mono ?_
    rintro e w7 ⟨rfl, b7⟩
    have B7 : Below w.heap.size w w7 := B6.trans (b7.mono B6.size)
    have b37 : Below w3.heap.size w3 w7 := b36.trans (b7.mono b36.size)
    have cv := conv_string (L6.below b7 (Nat.le_refl _))
    rw [hST.out] at cv
    have L7 := HLZ.out.below b37 (Nat.le_refl _)
    obtain ⟨mo, hmo⟩ : ∃ mo : Int, (O.length : Int) - 1 = mo := ⟨_, rfl⟩
    have hmo' : Hid ((O.length : Int) - 1 = mo) := hmo
    clear b7 b36 B6 L6
    go_wp2_with fail
    clear hmo cv
    refine (inflate_any _ N c (zb bs) mo (O.length - 1) (by have := hmo'.out; split <;> omega) (by omega) _ L7 (hT.below B7 hT.pos)).mono ?_
    intro e w8 h8
    have b8 := h8.1
    have B8 : Below w.heap.size w w8 := B7.trans (b8.mono B7.size)
    by_cases h0 : O.length = 0
    · have h8' : ∃ (r8 : Value) (u8 : Int) (k8 : Nat), e = .returned (.tuple #[r8, .int .i64 u8, .int .i64 (k8 : Nat)]) := by
        rcases h8.2 with ⟨k, _, _, rfl⟩ | ⟨q, o, r, _, rfl, _⟩
        · exact ⟨_, _, k, rfl⟩
        · exact ⟨_, _, 0, rfl⟩
      obtain ⟨r8, u8, k8, rfl⟩ := h8'
      have h0' : ((O.length : Int) == 0) = true := by rw [h0]; rfl
      have H0 : Hid (O.length = 0) := h0
      clear h0 h8
      go_wp2
      go_ret
      exact ⟨rfl, B8⟩
    · have hE : inflE (zb bs) N (O.length - 1) = .error 4 := hSay.out.most (fun _ _ => rfl) (by have := HNL.out; omega) (by omega)
      obtain ⟨_, rfl⟩ := h8.no hE
      have h0' : ((O.length : Int) == 0) = false := by rw [beq_eq_false_iff_ne]; omega
      clear h8 hE
      go_wp2
      go_ret
      exact ⟨rfl, B8⟩
end Go.Proofs.YtkhfdjgnomkfgaaDoor
