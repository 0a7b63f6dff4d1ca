/-
  versallaw7.lengths as a contract.
-/
import Derived.Test.YtlpehejadedkkaaKraft
import Derived.Test.YtlpehejadedkkaaPick
namespace Go.Proofs.Ytlpehejadedkkaa
open Go.RowKit

theorem pick_any' (n : Int) (m : Nat) (hm : 0 < m) (hm2 : m ≤ 1000000) {v : Int} (hv : v = (m : Nat)) (w : World) :
    Calls Try.prog 19 #[.int .i64 n, .int .i64 v] w fun e w' => e = .returned (.int .i64 (pickv n m : Nat)) ∧ w' = w := by
  subst hv; exact pick_any n m hm hm2 w

theorem grown_below {B : Nat} {a w w' : World} {g : Nat} (h : Below B a w) (hg : w.grownBy w' (some g)) (hB : B ≤ w.heap.size) (hr : B ≤ g) : Below B a w' :=
  h.grown hg hB (fun k hk => by simp at hk; omega)

/-- append([]int{}, ys[:k]...). -/
theorem app1 {w : World} {base gy cy G k : Nat} {ys : List Int} (ho : Own w base 3 .i64 gy cy ys) (hG : w.heap[G]? = some (.cells #[] 3)) (hb : base ≤ G) (hne : gy ≠ G) (hk : k ≤ ys.length) (hl : ys.length ≤ 1000) :
    ∃ g' cap' w', (Builtin.append_ #[33, 33] 33 #[.slice (some ⟨G, 0, none⟩) 0 0, .slice (some ⟨gy, 0, none⟩) k cy]).run Try.prog w = .ok (.slice (some ⟨g', 0, none⟩) k cap') w' ∧ (Own w' base 3 .i64 g' cap' (ys.take k) ∧ w.grownBy w' (some G) ∧ Own w' base 3 .i64 gy cy ys ∧ (g' = G ∨ g' = w.heap.size)) := by
  have hG0 : Own w base 3 .i64 G 0 [] := ⟨rfl, .inr ⟨G, 0, #[], rfl, hb, hG, Nat.le_refl _, by unfold maxLen; omega, rfl, rfl⟩⟩
  have hlt := blk_lt hG
  obtain ⟨g', cap', w', hr, h1, h2, h3⟩ := hG0.append33 (by omega) (s := some ⟨gy, 0, none⟩) (m := k) (c := cy) (ys := ys.take k) ⟨by simp; omega, fun _ => ⟨gy, 0, rfl, fun j hj => by
    rw [Nat.zero_add, ho.cell (by omega)]
    simp [hj]⟩⟩ (by simp; omega)
  have hlen : (ys.take k).length = k := by simp; omega
  rw [List.nil_append] at hr h1
  rw [hlen] at hr
  exact ⟨g', cap', w', hr, h1, h2, ho.far h2 (by simpa using hne), h3⟩
/-- append(.., 0). -/
theorem app2 {w : World} {base gy cy g c L0 n : Nat} {ys zs : List Int} (ho : Own w base 3 .i64 g c zs) (hy : Own w base 3 .i64 gy cy ys) (hne : gy ≠ g) (hL : w.heap[L0]? = some (.cells #[.int .i64 0] 3)) (hn : zs.length = n) (hl : n ≤ 1000) :
    ∃ g' cap' w', (Builtin.append_ #[33, 33] 33 #[.slice (some ⟨g, 0, none⟩) n c, .slice (some ⟨L0, 0, none⟩) 1 1]).run Try.prog w = .ok (.slice (some ⟨g', 0, none⟩) (n + 1) cap') w' ∧ (Own w' base 3 .i64 g' cap' (zs ++ [0]) ∧ w.grownBy w' (some g) ∧ Own w' base 3 .i64 gy cy ys ∧ (g' = g ∨ g' = w.heap.size)) := by
  subst hn
  have hlt := ho.lt
  obtain ⟨g', cap', w', hr, h1, h2, h3⟩ := ho.append33 (by omega) (s := some ⟨L0, 0, none⟩) (m := 1) (c := 1) (ys := [0]) ⟨rfl, fun _ => ⟨L0, 0, rfl, fun j hj => by
    obtain rfl : j = 0 := by omega
    rw [blk_cell hL]; rfl⟩⟩ (by simp; omega)
  exact ⟨g', cap', w', by rw [hr, List.length_append]; rfl, h1, h2, hy.far h2 (by simpa using hne), h3⟩
/-- append(.., ys[k:]...). -/
theorem app3 {w : World} {base gy cy g c n k m c' : Nat} {ys us : List Int} (ho : Own w base 3 .i64 g c us) (hy : Own w base 3 .i64 gy cy ys) (hn : us.length = n) (hk : k ≤ ys.length) (hm : m = ys.length - k) (hl : n + ys.length ≤ 10000) :
    ∃ g' cap' w', (Builtin.append_ #[33, 33] 33 #[.slice (some ⟨g, 0, none⟩) n c, .slice (some ⟨gy, k, none⟩) m c']).run Try.prog w = .ok (.slice (some ⟨g', 0, none⟩) (n + m) cap') w' ∧ (Own w' base 3 .i64 g' cap' (us ++ ys.drop k) ∧ w.grownBy w' (some g)) := by
  subst hn hm
  have hlt := ho.lt
  obtain ⟨g', cap', w', hr, h1, h2, h3⟩ := ho.append33 (by omega) (s := some ⟨gy, k, none⟩) (m := ys.length - k) (c := c') (ys := ys.drop k) ⟨by simp, fun _ => ⟨gy, k, rfl, fun j hj => by
    rw [hy.cell (by omega)]
    simp⟩⟩ (by simp; omega)
  exact ⟨g', cap', w', by rw [hr, List.length_append, List.length_drop], h1, h2⟩
theorem app3' {w : World} {base g c n m c' : Nat} {us : List Int} {s : Option Addr} (ho : Own w base 3 .i64 g c us) (hn : us.length = n) (hm : m = 0) (hl : n ≤ 10000) :
    ∃ g' cap' w', (Builtin.append_ #[33, 33] 33 #[.slice (some ⟨g, 0, none⟩) n c, .slice s m c']).run Try.prog w = .ok (.slice (some ⟨g', 0, none⟩) (n + m) cap') w' ∧ (Own w' base 3 .i64 g' cap' us ∧ w.grownBy w' (some g)) := by
  subst hn hm
  have hlt := ho.lt
  obtain ⟨g', cap', w', hr, h1, h2, h3⟩ := ho.append33 (by omega) (s := s) (m := 0) (c := c') (ys := []) ⟨rfl, fun h => by omega⟩ (by simp; omega)
  rw [List.append_nil] at hr h1
  exact ⟨g', cap', w', hr, h1, h2⟩

theorem Own.ints {w : World} {base g cap : Nat} {xs : List Int} (h : Own w base 3 .i64 g cap xs) (hl : xs.length ≤ 1000) (hx : ∀ x ∈ xs, -100 ≤ x ∧ x ≤ 100) : Ints w (some ⟨g, 0, none⟩) xs.length cap (fun i => xs.getD i 0) := by
  refine ⟨h.lc.1, by omega, fun i => ?_, fun _ => ⟨g, 0, rfl, h.lt.2, fun i hi => by rw [Nat.zero_add]; exact h.cell hi⟩⟩
  rw [List.getD_eq_getElem?_getD]
  cases e : xs[i]? with
  | none => simp
  | some y => simp; have := hx y (List.mem_of_getElem? e); omega
theorem Own.ints_take {w : World} {base g cap : Nat} {xs : List Int} (h : Own w base 3 .i64 g cap xs) (hl : xs.length ≤ 1000) (hx : ∀ x ∈ xs, -100 ≤ x ∧ x ≤ 100) {k : Nat} (hk : k ≤ xs.length) : Ints w (some ⟨g, 0, none⟩) (xs.take k).length cap (fun i => (xs.take k).getD i 0) := by
  have hi := h.ints hl hx
  have hkl : (xs.take k).length = k := by simp; omega
  rw [hkl]
  refine ⟨by have := hi.lc; omega, by omega, fun i => ?_, fun h0 => ?_⟩
  · rw [List.getD_eq_getElem?_getD]
    cases e : (xs.take k)[i]? with
    | none => simp
    | some y => simp; have := hx y (List.mem_of_mem_take (List.mem_of_getElem? e)); omega
  · obtain ⟨b, off, e, hb, hc⟩ := hi.spot (by omega)
    refine ⟨b, off, e, hb, fun i hi' => ?_⟩
    rw [hc i (by omega)]
    simp [hi']

set_option maxRecDepth 100000 in
set_option maxHeartbeats 3200000 in
theorem lengths_any (w : World) (a : Option Addr) (len cap : Nat) (f : Nat → Int) (bend : Int) (h : Ints w a len cap f) (hbend : -9223372036854775808 ≤ bend ∧ bend ≤ 9223372036854775807) :
    Calls Try.prog 14 #[.slice a len cap, .int .i64 bend] w fun e w' => ∃ (xs : List Int) (a' : Option Addr) (cap' : Nat), e = .returned (.slice a' xs.length cap') ∧ Ints w' a' xs.length cap' (fun i => xs.getD i 0) ∧ xs.length ≤ 66 ∧ Below w.heap.size w w' ∧ (pickv bend 9 < 7 → Whole xs ∧ 0 < xs.length) := by
  have hr := h.reach
  have hfit := h.fit
  obtain ⟨hbend1, hbend2⟩ := hbend
  go_enter Try.func14, Try.ntmps14
  go_wp2_with fail
  have o0 : Own (w.alloc (.cells #[.int .i64 0] 3)) w.heap.size 3 .i64 w.heap.size 1 [0] := own_lit w w.heap.size 3 .i64 [0] (Nat.le_refl _) (by simp)
  have b0 : Below w.heap.size w (w.alloc (.cells #[.int .i64 0] 3)) := (Below.refl _ _).alloc (Nat.le_refl _) _
  obtain ⟨W, hW⟩ : ∃ W, W = w.alloc (.cells #[.int .i64 0] 3) := ⟨_, rfl⟩
  rw [← hW] at o0 b0 ⊢
  clear hW
  go_loopw [5, 6] (fun v j wq => ∃ (i : Nat) (xs : List Int) (g cap : Nat), i ≤ 60 ∧ j = .int .i64 i ∧ v = .slice (some ⟨g, 0, none⟩) xs.length cap ∧ Own wq w.heap.size 3 .i64 g cap xs ∧ xs.length ≤ i + 1 ∧ 0 < xs.length ∧ Tree xs ∧ Below w.heap.size w wq) (fun _ j _ => 60 - (intOf j).toNat)
  case atStart => exact ⟨0, [0], w.heap.size, 1, by omega, rfl, rfl, o0, by simp, by simp, .inl rfl, b0⟩
  case round =>
    clear o0 b0 W
    obtain ⟨i, xs, g, cap1, hi, rfl, rfl, ho, hxl, hx0, hT, hbel⟩ := hrel
    have hgl := ho.lt
    have hlc := ho.lc
    by_cases hgo : i < len ∧ i < 60
    · obtain ⟨hil, h60⟩ := hgo
      have hil' : (i : Int) < (len : Int) := by omega
      have h60' : (i : Int) < 60 := by omega
      obtain ⟨b, off, rfl, hb, hc⟩ := h.spot (by omega)
      have hci : wr.cell? ⟨b, off + i, none⟩ = some (.int .i64 (f i)) := by
        rw [World.cell?_of_block (a := ⟨b, off + i, none⟩) (hbel.block b hb)]; exact hc i hil
      go_wp2_with fail
      refine (pick_any (f i) xs.length hx0 (by omega) _).mono ?_
      rintro e w' ⟨rfl, rfl⟩
      have hkl := pickv_lt (f i) xs.length hx0
      obtain ⟨k, hk⟩ : ∃ k, Hid (pickv (f i) xs.length = k) := ⟨_, rfl⟩
      rw [hk.out] at hkl ⊢
      clear hk hci
      have hcell := ho.cell hkl
      have hbd := hT.bd k
      obtain ⟨x, hx⟩ : ∃ x, Hid (xs.getD k 0 = x) := ⟨_, rfl⟩
      rw [hx.out] at hcell hbd
      have hfr := ho.free k
      by_cases hx15 : x < 15
      · have hT2 := hT.split hkl hx.out hx15
        have ho1 := ho.set k (x + 1)
        have ho2 := ho1.alloc (.cells #[.int .i64 (x + 1)] 3)
        have hsrc : SrcI ((w'.setCell ⟨g, k, none⟩ (.int .i64 (x + 1))).alloc (.cells #[.int .i64 (x + 1)] 3)) .i64 (some ⟨w'.heap.size, 0, none⟩) 1 [x + 1] := ⟨rfl, fun _ => ⟨_, _, rfl, fun j hj => by
          obtain rfl : j = 0 := by omega
          have := blk_cell (blk_new (w'.setCell ⟨g, k, none⟩ (.int .i64 (x + 1))) (.cells #[.int .i64 (x + 1)] 3)) 0
          simpa using this⟩⟩
        have hap := ho2.append33 (by simp; omega) hsrc (c := 1) (by simp; omega)
        rw [List.length_set, List.length_append, List.length_set] at hap
        have hb1 : Below w.heap.size w ((w'.setCell ⟨g, k, none⟩ (.int .i64 (x + 1))).alloc (.cells #[.int .i64 (x + 1)] 3)) := (hbel.setCell hgl.1 _).alloc (by simp; omega) _
        have HAP : Hid _ := hap
        have HO : Hid _ := hT2
        clear hap ho1 ho2 hT2 hsrc hT ho
        go_wp2_with (at_builtin; refine wpList_append_ex rfl (.tmp 43) (.tmp 45) 33 rfl rfl rfl HAP.out ?_; rintro g2 cap2 w2 ⟨own3, hgr, hat⟩)
        exact ⟨⟨i + 1, xs.set k (x + 1) ++ [x + 1], g2, cap2, by omega, by go_num, by rw [List.length_append, List.length_set]; rfl, own3, by simp; omega, by simp, HO.out, grown_below hb1 hgr (by simp; omega) hgl.1⟩, by simp [intOf]; omega⟩
      · have hx15' : ¬ x < 15 := hx15
        go_wp2
        exact ⟨⟨i + 1, xs, g, cap1, by omega, by go_num, rfl, ho, by omega, hx0, hT, hbel⟩, by simp [intOf]; omega⟩
    · rcases (show (i < len ∧ ¬ i < 60) ∨ ¬ i < len by omega) with ⟨hil, h60⟩ | hil
      all_goals
        first | have h1 : (i : Int) < (len : Int) := by omega | have h1 : ¬ (i : Int) < (len : Int) := by omega
        first | have h2 : (i : Int) < 60 := by omega | have h2 : ¬ (i : Int) < 60 := by omega | skip
        have hT := hT.whole
        have hxl : xs.length ≤ 61 := by omega
        go_wp2_with fail
        clear hil h1 hgo hgl hlc
        go_loopw [5, 9] (fun v j wq => ∃ (i : Nat) (xs : List Int) (g cap : Nat), i ≤ 5 ∧ j = .int .i64 i ∧ v = .slice (some ⟨g, 0, none⟩) xs.length cap ∧ Own wq w.heap.size 3 .i64 g cap xs ∧ xs.length ≤ i + 61 ∧ 0 < xs.length ∧ Whole xs ∧ Below w.heap.size w wq) (fun _ j _ => 5 - (intOf j).toNat)
        case atStart => exact ⟨0, xs, g, cap1, by omega, rfl, rfl, ho, by omega, hx0, hT, hbel⟩
        case round =>
          clear ho hxl hx0 hT hbel
          obtain ⟨n, ys, gy, cy, hn, rfl, rfl, ho, hxl, hx0, hT, hbel⟩ := hrel
          have hgl := ho.lt
          have hlc := ho.lc
          by_cases hgo : n < len ∧ n < 5
          · obtain ⟨hil, h5⟩ := hgo
            have hil' : (n : Int) < (len : Int) := by omega
            have h5' : (n : Int) < 5 := by omega
            obtain ⟨b, off, rfl, hb, hc⟩ := h.spot (by omega)
            have hci := hc n hil
            rw [← World.cell?_of_block (a := ⟨b, off + n, none⟩) (hbel.block b hb)] at hci
            have hfn := hfit n
            by_cases h3 : (f n).tmod 3 = 0
            · have h3' : ((f n).tmod 3 == 0) = true := by simpa using h3
              go_wp2_with fail
              refine (pick_any' _ (ys.length + 1) (by omega) (by omega) (by omega) _).mono ?_
              rintro e w' ⟨rfl, rfl⟩
              have hkl := pickv_lt ((f n).tdiv 3) (ys.length + 1) (by omega)
              obtain ⟨k, hk⟩ : ∃ k, Hid (pickv ((f n).tdiv 3) (ys.length + 1) = k) := ⟨_, rfl⟩
              rw [hk.out] at hkl ⊢
              clear hk hci
              go_wp2_with fail
              have e1 : (0 : Int) ≤ (k : Int) := by omega
              have e2 : (k : Int) ≤ (ys.length : Int) := by omega
              have e3 : (ys.length : Int) ≤ (cy : Int) := by omega
              have e4 : (k : Int) ≤ (cy : Int) := by omega
              have e5 : k ≤ ys.length := by omega
              have e6 : k ≤ cy := by omega
              have LB : ∀ w1 : World, (((w'.alloc (.cells #[] 3)).alloc (.cells #[.int .i64 0] 3)).drew).grownBy w1 (some w'.heap.size) → w1.heap[w'.heap.size + 1]? = some (.cells #[.int .i64 0] 3) := fun w1 gr => (gr.block (w'.heap.size + 1) (by show _ < ((w'.alloc _).alloc _).heap.size; simp) (by simp)).trans (by have := blk_new (w'.alloc (.cells #[] 3)) (.cells #[.int .i64 0] 3); rwa [World.size_alloc] at this)
              have LC : ∀ w1 : World, (((w'.alloc (.cells #[.int .i64 0] 3)).alloc (.cells #[] 3)).drew).grownBy w1 (some (w'.heap.size + 1)) → w1.heap[w'.heap.size]? = some (.cells #[.int .i64 0] 3) := fun w1 gr => (gr.block w'.heap.size (by show _ < ((w'.alloc _).alloc _).heap.size; simp; omega) (by simp)).trans (blk_alloc (blk_new w' _) _)
              have GA : (w'.alloc (.cells #[] 3)).drew.heap[w'.heap.size]? = some (.cells #[] 3) := blk_new w' _
              have GB : ((w'.alloc (.cells #[] 3)).alloc (.cells #[.int .i64 0] 3)).drew.heap[w'.heap.size]? = some (.cells #[] 3) := blk_alloc (blk_new w' _) _
              have GC : ((w'.alloc (.cells #[.int .i64 0] 3)).alloc (.cells #[] 3)).drew.heap[w'.heap.size + 1]? = some (.cells #[] 3) := by have := blk_new (w'.alloc (.cells #[.int .i64 0] 3)) (.cells #[] 3); rwa [World.size_alloc] at this
              by_cases hkc : cy = k
              · subst hkc
                go_region_held3 (fun _ => True) (exact trivial) (first
                  | (refine step_append_ex (by rfl) (.tmp 72) (.tmp 75) 33 (by rfl) (by rfl) (by rfl) (app1 (ys := ys) (by first | exact (ho.alloc _).drew | exact ((ho.alloc _).alloc _).drew) (by first | exact GA | exact GB | exact GC) (by omega) (by omega) e5 (by omega)) ?_
                     rintro g1 c1 w1 ⟨own1, gr1, oy1, at1⟩
                     have n1 : gy ≠ g1 := by rcases at1 with h | h <;> first | omega | (simp at h; omega)
                     have bb1 : Below w.heap.size w w1 := grown_below (by first | exact (hbel.alloc hbel.size _).drew | exact ((hbel.alloc hbel.size _).alloc (Nat.le_trans hbel.size (by simp)) _).drew) gr1 (Nat.le_trans hbel.size (by first | (simp; done) | (simp; omega))) (by omega)
                     have hg1 := own1.lt.1)
                  | (refine step_append_ex (by rfl) (.tmp 76) (.tmp 77) 33 (by rfl) (by rfl) (by rfl) (app2 (n := cy) (by first | exact own1 | exact own1.alloc _ | exact (own1.alloc _).drew) (by first | exact oy1 | exact oy1.alloc _ | exact (oy1.alloc _).drew) n1 (by first | exact blk_new w1 _ | exact LB _ gr1 | exact LC _ gr1) (by simp; omega) (by omega)) ?_
                     rintro g2 c2 w2 ⟨own2, gr2, oy2, at2⟩
                     have bb2 : Below w.heap.size w w2 := grown_below (by first | exact bb1 | exact bb1.alloc bb1.size _ | exact (bb1.alloc bb1.size _).drew) gr2 (Nat.le_trans bb1.size (by first | (simp; done) | (simp; omega))) hg1
                     have hg2 := own2.lt.1)
                  | (refine step_append_ex (by rfl) (.tmp 78) (.tmp 81) 33 (by rfl) (by rfl) (by rfl) (app3' (n := cy + 1) own2 (by simp; omega) (by omega) (by omega)) ?_
                     rintro g3 c3 w3 ⟨own3, gr3⟩
                     have bb3 : Below w.heap.size w w3 := grown_below bb2 gr3 bb2.size hg2))
                all_goals
                  have hnw := hT.insert cy
                  have HLN : Hid ((ys.take cy ++ [0] ++ ys.drop cy).length = cy + 1 + (ys.length - cy)) := by show _ = _; simp; omega
                  have hdr : ys.drop cy = [] := List.drop_eq_nil_of_le (by omega)
                  replace own3 : Own w3 w.heap.size 3 .i64 g3 c3 (ys.take cy ++ [0] ++ ys.drop cy) := by rw [hdr, List.append_nil]; exact own3
                  clear hdr
                  clear LB LC GA GB GC own1 own2 oy1 oy2 gr1 gr2 gr3 at1 at2 ho
                  go_wp2
                  exact ⟨⟨n + 1, ys.take cy ++ [0] ++ ys.drop cy, g3, c3, by omega, by go_num, congrArg (fun m => Value.slice (some ⟨g3, 0, none⟩) m c3) (by have := HLN.out; omega), own3, by rw [HLN.out]; omega, by rw [HLN.out]; omega, hnw, bb3⟩, by simp [intOf]; omega⟩
              · go_region_held3 (fun _ => True) (exact trivial) (first
                  | (refine step_append_ex (by rfl) (.tmp 72) (.tmp 75) 33 (by rfl) (by rfl) (by rfl) (app1 (ys := ys) (by first | exact (ho.alloc _).drew | exact ((ho.alloc _).alloc _).drew) (by first | exact GA | exact GB | exact GC) (by omega) (by omega) e5 (by omega)) ?_
                     rintro g1 c1 w1 ⟨own1, gr1, oy1, at1⟩
                     have n1 : gy ≠ g1 := by rcases at1 with h | h <;> first | omega | (simp at h; omega)
                     have bb1 : Below w.heap.size w w1 := grown_below (by first | exact (hbel.alloc hbel.size _).drew | exact ((hbel.alloc hbel.size _).alloc (Nat.le_trans hbel.size (by simp)) _).drew) gr1 (Nat.le_trans hbel.size (by first | (simp; done) | (simp; omega))) (by omega)
                     have hg1 := own1.lt.1)
                  | (refine step_append_ex (by rfl) (.tmp 76) (.tmp 77) 33 (by rfl) (by rfl) (by rfl) (app2 (n := k) (by first | exact own1 | exact own1.alloc _ | exact (own1.alloc _).drew) (by first | exact oy1 | exact oy1.alloc _ | exact (oy1.alloc _).drew) n1 (by first | exact blk_new w1 _ | exact LB _ gr1 | exact LC _ gr1) (by simp; omega) (by omega)) ?_
                     rintro g2 c2 w2 ⟨own2, gr2, oy2, at2⟩
                     have bb2 : Below w.heap.size w w2 := grown_below (by first | exact bb1 | exact bb1.alloc bb1.size _ | exact (bb1.alloc bb1.size _).drew) gr2 (Nat.le_trans bb1.size (by first | (simp; done) | (simp; omega))) hg1
                     have hg2 := own2.lt.1)
                  | (refine step_append_ex (by rfl) (.tmp 78) (.tmp 81) 33 (by rfl) (by rfl) (by rfl) (app3 (n := k + 1) (k := k) own2 oy2 (by simp; omega) e5 rfl (by omega)) ?_
                     rintro g3 c3 w3 ⟨own3, gr3⟩
                     have bb3 : Below w.heap.size w w3 := grown_below bb2 gr3 bb2.size hg2))
                all_goals
                  have hnw := hT.insert k
                  have HLN : Hid ((ys.take k ++ [0] ++ ys.drop k).length = k + 1 + (ys.length - k)) := by show _ = _; simp; omega
                  clear LB LC GA GB GC own1 own2 oy1 oy2 gr1 gr2 gr3 at1 at2 ho
                  go_wp2
                  exact ⟨⟨n + 1, ys.take k ++ [0] ++ ys.drop k, g3, c3, by omega, by go_num, congrArg (fun m => Value.slice (some ⟨g3, 0, none⟩) m c3) (by have := HLN.out; omega), own3, by rw [HLN.out]; omega, by rw [HLN.out]; omega, hnw, bb3⟩, by simp [intOf]; omega⟩
            · have h3' : ((f n).tmod 3 == 0) = false := by simpa using h3
              go_wp2
              exact ⟨⟨n + 1, ys, gy, cy, by omega, by go_num, rfl, ho, by omega, hx0, hT, hbel⟩, by simp [intOf]; omega⟩
          · rcases (show (n < len ∧ ¬ n < 5) ∨ ¬ n < len by omega) with ⟨hil, h5⟩ | hil
            all_goals
              first | have h1 : (n : Int) < (len : Int) := by omega | have h1 : ¬ (n : Int) < (len : Int) := by omega
              first | have h2 : (n : Int) < 5 := by omega | have h2 : ¬ (n : Int) < 5 := by omega | skip
              have hel : ∀ x ∈ ys, -100 ≤ x ∧ x ≤ 100 := fun x hx => by have := hT.1 x hx; omega
              have HEL : Hid (∀ x ∈ ys, -100 ≤ x ∧ x ≤ 100) := hel
              clear hel
              go_wp2_with fail
              refine (pick9 _ _).mono ?_
              rintro e w' ⟨rfl, rfl⟩
              have h9 := pickv_lt bend 9 (by omega)
              obtain ⟨q, hq⟩ : ∃ q, Hid (pickv bend 9 = q) := ⟨_, rfl⟩
              rw [hq.out] at h9 ⊢
              by_cases h7 : q = 7
              · subst h7
                go_wp2_with fail
                refine (pick_any' _ ys.length hx0 (by omega) rfl _).mono ?_
                rintro e w' ⟨rfl, rfl⟩
                have hkl := pickv_lt (bend.tdiv 9) ys.length hx0
                obtain ⟨k, hk⟩ : ∃ k, Hid (pickv (bend.tdiv 9) ys.length = k) := ⟨_, rfl⟩
                rw [hk.out] at hkl ⊢
                go_wp2_with fail
                refine (pick18 _ _).mono ?_
                rintro e w' ⟨rfl, rfl⟩
                have h18 := pickv_lt (bend.tdiv 81) 18 (by omega)
                obtain ⟨m, hm⟩ : ∃ m, Hid (pickv (bend.tdiv 81) 18 = m) := ⟨_, rfl⟩
                rw [hm.out] at h18 ⊢
                have hcell := ho.cell hkl
                have hfr := ho.free k
                have ho2 := ho.set k ((m : Int) - 1)
                have HO2 : Hid _ := ho2
                have bb2 : Below w.heap.size w (w'.setCell ⟨gy, k, none⟩ (.int .i64 ((m : Int) - 1))) := hbel.setCell hgl.1 _
                clear ho2 hm hk
                go_wp2
                go_ret
                refine ⟨ys.set k ((m : Int) - 1), some ⟨gy, 0, none⟩, cy, by rw [List.length_set]; rfl, Own.ints (base := w.heap.size) (g := gy) (cap := cy) (xs := ys.set k ((m : Int) - 1)) HO2.out (by simp; omega) (fun x hx => ?_), by simp; omega, bb2, fun h => by have := hq.out; omega⟩
                rcases List.mem_or_eq_of_mem_set hx with h | h
                · exact HEL.out x h
                · omega
              · by_cases h8 : q = 8
                · subst h8
                  go_wp2_with fail
                  refine (pick_any' _ (ys.length + 1) (by omega) (by omega) (by omega) _).mono ?_
                  rintro e w' ⟨rfl, rfl⟩
                  have hkl := pickv_lt (bend.tdiv 9) (ys.length + 1) (by omega)
                  obtain ⟨k, hk⟩ : ∃ k, Hid (pickv (bend.tdiv 9) (ys.length + 1) = k) := ⟨_, rfl⟩
                  rw [hk.out] at hkl ⊢
                  have hkl2 : Hid ((ys.take k).length = k) := by show _ = _; simp; omega
                  go_wp2
                  go_ret
                  exact ⟨ys.take k, some ⟨gy, 0, none⟩, cy, by rw [hkl2.out]; rfl, ho.ints_take (by omega) HEL.out (by omega), by rw [hkl2.out]; omega, hbel, fun h => by have := hq.out; omega⟩
                · have h7' : ¬ (q : Int) = 7 := by omega
                  have h8' : ¬ (q : Int) = 8 := by omega
                  go_wp2
                  go_ret
                  exact ⟨ys, some ⟨gy, 0, none⟩, cy, rfl, ho.ints (by omega) HEL.out, by omega, hbel, fun _ => ⟨hT, hx0⟩⟩
end Go.Proofs.Ytlpehejadedkkaa
