/-
  The reference's Stored: the same blocks. versalhand.Few, at most so many; Pick among many; a byte turned; appends upon a row of the call's own; what both Inflates answer, told by one function.
-/
import Derived.Test.YtahibacjaoohiaaDoorKnW
import Derived.Test.YtahibacjaoohiaaDoorFxd
namespace Go.Proofs.YtahibacjaoohiaaDoor
open Go.RowKit

/-- The first of a block's two appends, upon a row that may be nil. -/
theorem sto_firstV {w wr : World} {v : Value} {acc : List Int} (hO : OwnV wr w.heap.size 5 .u8 v acc) (hB : Below w.heap.size w wr) (x0 x1 x2 x3 x4 : Int) (hl : acc.length ≤ 149000000000000) :
    ∃ N1, Hid (N1 = (acc ++ [x0, x1, x2, x3, x4]).length) ∧ Hid (∃ g' cap' w', (Builtin.append_ #[23, 23] 23 #[v, .slice (some ⟨wr.heap.size, 0, none⟩) 5 5]).run Tryd.prog (wr.alloc (.cells #[.int .u8 x0, .int .u8 x1, .int .u8 x2, .int .u8 x3, .int .u8 x4] 5)) = .ok (.slice (some ⟨g', 0, none⟩) N1 cap') w' ∧
      (Own w' w.heap.size 5 .u8 g' cap' (acc ++ [x0, x1, x2, x3, x4]) ∧ Below w.heap.size w w')) := by
  refine ⟨_, rfl, ?_⟩
  have hb := hB.size
  have hblk := blk_new wr (.cells #[.int .u8 x0, .int .u8 x1, .int .u8 x2, .int .u8 x3, .int .u8 x4] 5)
  have hO2 := hO.alloc (.cells #[.int .u8 x0, .int .u8 x1, .int .u8 x2, .int .u8 x3, .int .u8 x4] 5)
  have hB2 : Below w.heap.size w (wr.alloc (.cells #[.int .u8 x0, .int .u8 x1, .int .u8 x2, .int .u8 x3, .int .u8 x4] 5)) := hB.alloc hB.size _
  obtain ⟨g', cap', w', hr, ho, hg⟩ := run_append_w hO2 ⟨wr.heap.size, 0, none⟩ 5 5 [.int .u8 x0, .int .u8 x1, .int .u8 x2, .int .u8 x3, .int .u8 x4] rfl
    (fun j u hj => World.news_of_block hblk j u (by simpa using hj))
    (by intro u hu; simp at hu; rcases hu with rfl | rfl | rfl | rfl | rfl <;> rfl) (by omega) (by omega) (by simp; omega)
  refine ⟨g', cap', w', ?_, ?_, hO2.grown hB2 hg (Nat.le_refl _) (Nat.le_refl _)⟩
  · rw [hr, List.length_append]; rfl
  · unfold Own; rw [List.length_append, List.map_append]; exact ho
/-- The second. -/
theorem sto_secondV {w w1 : World} {g1 c1 n c' off : Nat} {acc : List Int} {a' : Option Addr} {z : Nat → Nat} (b1 : Below w.heap.size w w1) (hO : Own w1 w.heap.size 5 .u8 g1 c1 acc) (hL : Lies w a' n c' fun i => z (off + i)) (hl : acc.length + n ≤ 149000000000000) (N1 : Nat) (hN1 : Hid (N1 = acc.length)) :
    ∃ N2, Hid (N2 = (acc ++ (List.range n).map fun i => ((z (off + i) : Nat) : Int)).length) ∧ Hid (∃ g' cap' w', (Builtin.append_ #[23, 23] 23 #[.slice (some ⟨g1, 0, none⟩) N1 c1, .slice a' n c']).run Tryd.prog w1 = .ok (.slice (some ⟨g', 0, none⟩) N2 cap') w' ∧
      (Own w' w.heap.size 5 .u8 g' cap' (acc ++ (List.range n).map fun i => ((z (off + i) : Nat) : Int)) ∧ Below w.heap.size w w')) := by
  refine ⟨_, rfl, ?_⟩
  have hN := hN1.out
  subst hN
  have L1 := hL.below b1 (Nat.le_refl _)
  obtain ⟨g', cap', w', h1, h2, h3⟩ := hO.appendB b1.size (s := a') (m := n) (c := c') (ys := (List.range n).map fun i => ((z (off + i) : Nat) : Int)) ⟨by simp, fun h0 => by
    obtain ⟨b, o, e, _, hc⟩ := L1.spot h0
    exact ⟨b, o, e, fun j hj => by rw [hc j hj]; simp [hj]⟩⟩ (by simp; omega)
  exact ⟨g', cap', w', h1, h2, b1.grown h3 b1.size (fun k hk => by simp at hk; subst hk; exact hO.lt.1)⟩

set_option maxRecDepth 100000 in
set_option maxHeartbeats 3200000 in
theorem rstd_any (a : Option Addr) (len cap : Nat) (z : Nat → Nat) (w : World) (h : Lies w a len cap z) (hl : len ≤ 140737488351232) :
    Calls Tryd.prog 15 #[.slice a len cap] w fun e w' => ∃ g c, e = .returned (.slice (some ⟨g, 0, none⟩) (stL z len 0).length c) ∧ Own w' w.heap.size 5 .u8 g c (stL z len 0) ∧ Below w.heap.size w w' := by
  go_enter Tryd.func15, Tryd.ntmps15
  go_wp2_with fail
  go_loopw [0, 3] (fun sb so wq => ∃ (acc : List Int) (a' : Option Addr) (l' c' off : Nat), OwnV wq w.heap.size 5 .u8 so acc ∧ Below w.heap.size w wq ∧ sb = .slice a' l' c' ∧ off + l' = len ∧ Lies w a' l' c' (fun i => z (off + i)) ∧ Hid (acc ++ stL z len off = stL z len 0) ∧ 13107 * acc.length ≤ 13108 * off) (fun sb _ _ => stM sb (.bool false))
  case atStart => exact ⟨[], a, len, cap, 0, ownv_nil _ _ _ _, Below.refl _ _, rfl, by omega, by simpa using h, by show _ = _; simp, by simp⟩
  case round =>
    obtain ⟨acc, a', l', c', off, hO, hB, rfl, hoff, hL, HST, hal⟩ := hrel
    obtain ⟨ao, co, rfl⟩ := hO.form
    have hlc := hL.lc
    by_cases hbig : 65535 < l'
    · have hbig' : (65535 : Int) < l' := by omega
      have hne : ¬ (65535 : Int) = l' := by omega
      obtain ⟨ab, ap, rfl, hab, hcl⟩ := hL.spot (by omega)
      have hL1 : Lies w (some ⟨ab, ap, none⟩) 65535 c' (fun i => z (off + i)) := ⟨by omega, by omega, hL.byte, fun _ => ⟨ab, ap, rfl, hab, fun i hi => hcl i (by omega)⟩⟩
      have hL2 : Lies w (some ⟨ab, ap + 65535, none⟩) (l' - 65535) (c' - 65535) (fun i => z (off + 65535 + i)) := ⟨by omega, by have := hL.reach; omega, fun i => by have := hL.byte (65535 + i); rwa [← Nat.add_assoc] at this, fun _ => ⟨ab, ap + 65535, rfl, hab, fun i hi => by have := hcl (65535 + i) (by omega); rwa [← Nat.add_assoc, ← Nat.add_assoc] at this⟩⟩
      have hoff' : Hid (off + l' = len) := hoff
      obtain ⟨N1, hN1, HAP⟩ := sto_firstV hO hB 0 255 255 0 0 (by omega)
      have H2 := fun g1 c1 w1 (hR : Own w1 w.heap.size 5 .u8 g1 c1 (acc ++ [0, 255, 255, 0, 0]) ∧ Below w.heap.size w w1) => sto_secondV hR.2 hR.1 hL1 (by simp; omega) N1 hN1
      have HL2 : Hid (Lies w (some ⟨ab, ap + 65535, none⟩) (l' - 65535) (c' - 65535) (fun i => z (off + 65535 + i))) := hL2
      have EQ : Hid (acc ++ [0, 255, 255, 0, 0] ++ ((List.range 65535).map fun i => ((z (off + i) : Nat) : Int)) ++ stL z len (off + 65535) = stL z len 0) := by
        show _ = _
        rw [← HST.out, stL_more z (off := off) (by have := hoff'.out; omega)]
        unfold blkL
        simp only [List.append_assoc]
        rfl
      have HAL : Hid (13107 * acc.length ≤ 13108 * off) := hal
      clear hoff hO hL hL1 hL2 hcl hal
      go_wp2_with (first
        | (at_builtin; refine wpList_append_ex rfl (.tmp 13) (.tmp 28) 23 rfl rfl rfl HAP.out ?_; rintro g1 c1 w1 hR1; obtain ⟨N2, hN2, HA2⟩ := H2 g1 c1 w1 hR1; clear hR1)
        | (at_builtin; refine wpList_append_ex rfl (.tmp 30) (.tmp 33) 23 rfl rfl rfl HA2.out ?_; rintro g2 c2 w2 hR2; have HR2 : Hid (_) := hR2; clear hR2))
      refine ⟨⟨_, _, _, _, off + 65535, own_v HR2.out.1 hN2.out, HR2.out.2, rfl, by have := hoff'.out; omega, HL2.out, EQ, by have := HAL.out; simp; omega⟩, ?_⟩
      simp [stM]; omega
    · have hbig' : ¬ (65535 : Int) < l' := by omega
      obtain ⟨lo, hlo⟩ : ∃ lo : Nat, Hid (l' % 256 = lo) := ⟨_, rfl⟩
      obtain ⟨hi, hhi⟩ : ∃ hi : Nat, Hid (l' / 256 = hi) := ⟨_, rfl⟩
      have q1 : (l' : Int) % 256 = (lo : Nat) := by have := hlo.out; omega
      have q2 : (l' : Int) / 256 = (hi : Nat) := by have := hhi.out; omega
      have q3 : lo < 256 := by have := hlo.out; omega
      have q4 : hi < 256 := by have := hhi.out; omega
      obtain ⟨nlo, hnlo⟩ : ∃ n : Nat, Hid (255 - lo = n) := ⟨_, rfl⟩
      obtain ⟨nhi, hnhi⟩ : ∃ n : Nat, Hid (255 - hi = n) := ⟨_, rfl⟩
      have q5 : (255 : Int) - (lo : Int) = (nlo : Nat) := by have := hnlo.out; omega
      have q6 : (255 : Int) - (hi : Int) = (nhi : Nat) := by have := hnhi.out; omega
      have q7 : nlo < 256 := by have := hnlo.out; omega
      have q8 : nhi < 256 := by have := hnhi.out; omega
      have hoff' : Hid (off + l' = len) := hoff
      obtain ⟨N1, hN1, HAP⟩ := sto_firstV hO hB 1 (lo : Nat) (hi : Nat) (nlo : Nat) (nhi : Nat) (by omega)
      have H2 := fun g1 c1 w1 (hR : Own w1 w.heap.size 5 .u8 g1 c1 (acc ++ [1, ((lo : Nat) : Int), ((hi : Nat) : Int), ((nlo : Nat) : Int), ((nhi : Nat) : Int)]) ∧ Below w.heap.size w w1) => sto_secondV hR.2 hR.1 hL (by simp; omega) N1 hN1
      have EQ : Hid (acc ++ [1, ((lo : Nat) : Int), ((hi : Nat) : Int), ((nlo : Nat) : Int), ((nhi : Nat) : Int)] ++ ((List.range l').map fun i => ((z (off + i) : Nat) : Int)) = stL z len 0) := by
        show _ = _
        rw [← HST.out, stL_last z (by have := hoff'.out; omega), show len - off = l' by have := hoff'.out; omega]
        unfold blkL
        rw [hlo.out, hhi.out, hnlo.out, hnhi.out, ← List.append_assoc]; rfl
      obtain ⟨a1, ha1⟩ : ∃ a1, a' = a1 := ⟨_, rfl⟩
      clear hoff hO hal
      rcases Nat.eq_zero_or_pos l' with h0 | h0
      · have HZ : Hid (l' = 0) := h0
        clear h0
        rcases a1 with _ | ad
        · subst ha1
          go_wp2_with (first
            | (at_builtin; refine wpList_append_ex rfl (.tmp 13) (.tmp 28) 23 rfl rfl rfl HAP.out ?_; rintro g1 c1 w1 hR1; obtain ⟨N2, hN2, HA2⟩ := H2 g1 c1 w1 hR1; clear hR1)
            | (at_builtin; refine wpList_append_ex rfl (.tmp 30) (.tmp 33) 23 rfl rfl rfl HA2.out ?_; rintro g2 c2 w2 hR2; have HR2 : Hid (_) := hR2; clear hR2))
          all_goals
            go_ret
            have h2 := HR2.out
            rw [EQ.out] at h2 hN2
            exact ⟨g2, c2, by rw [hN2.out]; rfl, h2.1, h2.2⟩
        · subst ha1
          go_wp2_with (first
            | (at_builtin; refine wpList_append_ex rfl (.tmp 13) (.tmp 28) 23 rfl rfl rfl HAP.out ?_; rintro g1 c1 w1 hR1; obtain ⟨N2, hN2, HA2⟩ := H2 g1 c1 w1 hR1; clear hR1)
            | (at_builtin; refine wpList_append_ex rfl (.tmp 30) (.tmp 33) 23 rfl rfl rfl HA2.out ?_; rintro g2 c2 w2 hR2; have HR2 : Hid (_) := hR2; clear hR2))
          all_goals
            go_ret
            have h2 := HR2.out
            rw [EQ.out] at h2 hN2
            exact ⟨g2, c2, by rw [hN2.out]; rfl, h2.1, h2.2⟩
      · obtain ⟨ab, ap, e, hab, _⟩ := hL.spot h0
        subst e
        clear ha1
        go_wp2_with (first
          | (at_builtin; refine wpList_append_ex rfl (.tmp 13) (.tmp 28) 23 rfl rfl rfl HAP.out ?_; rintro g1 c1 w1 hR1; obtain ⟨N2, hN2, HA2⟩ := H2 g1 c1 w1 hR1; clear hR1)
          | (at_builtin; refine wpList_append_ex rfl (.tmp 30) (.tmp 33) 23 rfl rfl rfl HA2.out ?_; rintro g2 c2 w2 hR2; have HR2 : Hid (_) := hR2; clear hR2))
        all_goals
          go_ret
          have h2 := HR2.out
          rw [EQ.out] at h2 hN2
          exact ⟨g2, c2, by rw [hN2.out]; rfl, h2.1, h2.2⟩
/-- append, upon a row of the call's own. -/
theorem app_on {w w1 : World} {g c N : Nat} {xs ys : List Int} (hB : Below w.heap.size w w1) (hO : Own w1 w.heap.size 5 .u8 g c xs) {s : Option Addr} {m cm : Nat} (hL : SrcI w1 .u8 s m ys) (hN : xs.length = N) (hl : xs.length + m ≤ 150000000000000) :
    ∃ g' c' w', (Builtin.append_ #[23, 23] 23 #[.slice (some ⟨g, 0, none⟩) N c, .slice s m cm]).run Tryd.prog w1 = .ok (.slice (some ⟨g', 0, none⟩) (N + m) c') w' ∧ (Own w' w.heap.size 5 .u8 g' c' (xs ++ ys) ∧ Below w.heap.size w w' ∧ w1.grownBy w' (some g)) := by
  subst hN
  have hlen := hL.len
  obtain ⟨g', c', w', h1, h2, h3⟩ := hO.appendB hB.size (c := cm) hL (by omega)
  rw [List.length_append, hlen] at h1
  exact ⟨g', c', w', h1, h2, hB.grown h3 hB.size (fun k hk => by simp at hk; subst hk; exact hO.lt.1), h3⟩
theorem Own.src {w : World} {base g c : Nat} {xs : List Int} (h : Own w base 5 .u8 g c xs) : SrcI w .u8 (some ⟨g, 0, none⟩) xs.length xs :=
  ⟨rfl, fun _ => ⟨g, 0, rfl, fun j hj => by rw [Nat.zero_add]; exact h.cell hj⟩⟩
theorem Own.src' {w : World} {base g c n : Nat} {xs : List Int} (h : Own w base 5 .u8 g c xs) (hn : xs.length = n) : SrcI w .u8 (some ⟨g, 0, none⟩) n xs := by subst hn; exact h.src

set_option maxHeartbeats 400000 in
/-- Pick among many. -/
theorem pick_big (n : Int) (m : Nat) (hm : 0 < m) (hm2 : m ≤ 1500000000000000) (w : World) :
    Calls Tryd.prog 10 #[.int .i64 n, .int .i64 (m : Nat)] w fun e w' => e = .returned (.int .i64 (pickv n m : Nat)) ∧ w' = w := by
  have hb := tmod_bd n m (by omega)
  have h2 := Int.emod_nonneg n (by omega : (m : Int) ≠ 0)
  have hk : ((pickv n m : Nat) : Int) = n % (m : Int) := by unfold pickv; omega
  have hne : ¬ (m : Int) = 0 := by omega
  by_cases hz : n.tmod m < 0
  · have e := pick_neg n m (by omega) hz
    have E : Hid (n.tmod m + m = n % m) := e
    have HK : Hid (((pickv n m : Nat) : Int) = n % m) := hk
    clear e h2 hk
    go_enter Tryd.func10, Tryd.ntmps10
    go_wp2
    go_ret
    exact ⟨ret_int (by rw [HK.out, ← E.out]), rfl⟩
  · have e := pick_pos n m (by omega) (by omega)
    have E : Hid (n.tmod m = n % m) := e
    have HK : Hid (((pickv n m : Nat) : Int) = n % m) := hk
    clear e h2 hk
    go_enter Tryd.func10, Tryd.ntmps10
    go_wp2
    go_ret
    exact ⟨ret_int (by rw [HK.out, ← E.out]), rfl⟩
theorem xor_u8 (x y : Nat) (hx : x < 256) (hy : y < 256) : ∃ X : Nat, bits .xor .u8 (x : Int) (y : Int) = (X : Nat) ∧ X < 256 ∧ (X = x ↔ y = 0) := by
  have hlt : x ^^^ y < 2 ^ 8 := Nat.xor_lt_two_pow (by omega) (by omega)
  refine ⟨x ^^^ y, ?_, by omega, ?_⟩
  · have h1 : (BitVec.ofInt 8 (x : Int) ^^^ BitVec.ofInt 8 (y : Int)).toNat = x ^^^ y := by
      rw [BitVec.toNat_xor]
      congr 1 <;> simp <;> omega
    show IntKind.wrap .u8 (((BitVec.ofInt 8 (x : Int) ^^^ BitVec.ofInt 8 (y : Int)).toNat : Nat) : Int) = _
    rw [h1]
    simp [IntKind.wrap, IntKind.signed, IntKind.bits]
    omega
  · constructor
    · intro h
      have h2 : x ^^^ (x ^^^ y) = x ^^^ x := by rw [h]
      rwa [← Nat.xor_assoc, Nat.xor_self, Nat.zero_xor] at h2
    · intro h; rw [h, Nat.xor_zero]
theorem byt_set {xs : List Int} (h : Byt xs) (j X : Nat) (hX : X < 256) : Byt (xs.set j ((X : Nat) : Int)) := fun i => by
  rw [List.getD_eq_getElem?_getD, List.getElem?_set]
  by_cases e : j = i
  · subst e
    by_cases hl : j < xs.length
    · simp [hl]; omega
    · simp [hl]
  · rw [if_neg e, ← List.getD_eq_getElem?_getD]; exact h i
theorem Own.take {w : World} {base g c k : Nat} {xs : List Int} (h : Own w base 5 .u8 g c xs) (hk : k ≤ xs.length) : Own w base 5 .u8 g c (xs.take k) := by
  refine ⟨by simp, .inr ?_⟩
  rcases h.2 with ⟨h', _⟩ | ⟨g', cap', cur, h', h1, h2, h3, h4, h5, h6⟩
  · simp at h'
  · simp only [Value.slice.injEq, Option.some.injEq, Addr.mk.injEq, and_true, true_and] at h'
    obtain ⟨rfl, rfl⟩ := h'
    refine ⟨g, c, cur, rfl, h1, h2, by simp; omega, h4, h5, ?_⟩
    rw [Nat.mul_one] at h6 ⊢
    rw [List.length_take, Nat.min_eq_left hk, List.map_take, ← h6, List.take_take, Nat.min_eq_left hk]
theorem byt_take {xs : List Int} (h : Byt xs) (k : Nat) : Byt (xs.take k) := fun i => by
  rw [List.getD_eq_getElem?_getD, List.getElem?_take]
  split
  · rw [← List.getD_eq_getElem?_getD]; exact h i
  · simp
theorem few_src {w : World} {a : Option Addr} {len cap k : Nat} {z : Nat → Nat} (h : Lies w a len cap z) (hk : k ≤ len) (hl : k ≤ 150000000000000) :
    ∃ g' cap' w', (Builtin.append_ #[23, 23] 23 #[.slice (some ⟨w.heap.size, 0, none⟩) 0 0, .slice a k cap]).run Tryd.prog (w.alloc (.cells #[] 5)) = .ok (.slice (some ⟨g', 0, none⟩) k cap') w' ∧ (Own w' w.heap.size 5 .u8 g' cap' (byt z 0 k) ∧ Below w.heap.size w w') := by
  have be : Below w.heap.size w (w.alloc (.cells #[] 5)) := (Below.refl _ _).alloc (Nat.le_refl _) _
  have hb := h.below be (Nat.le_refl _)
  have hk' : Lies (w.alloc (.cells #[] 5)) a k cap z := ⟨by have := hb.lc; omega, by have := hb.reach; omega, hb.byte, fun h0 => by
    obtain ⟨b, o, e, h1, h2⟩ := hb.spot (by omega)
    exact ⟨b, o, e, h1, fun i hi => h2 i (by omega)⟩⟩
  have EB := blk_new w (.cells #[] 5)
  have OE : Own (w.alloc (.cells #[] 5)) w.heap.size 5 .u8 w.heap.size 0 [] := ⟨rfl, .inr ⟨w.heap.size, 0, #[], rfl, Nat.le_refl _, EB, Nat.le_refl _, by unfold maxLen; omega, rfl, rfl⟩⟩
  obtain ⟨g', c', w', h1, h2, h3, h4⟩ := app_on (N := 0) (cm := cap) be OE (Own.srcB hk') rfl (by simp; omega)
  rw [Nat.zero_add] at h1
  exact ⟨g', c', w', h1, h2, h3⟩
set_option maxRecDepth 100000 in
set_option maxHeartbeats 800000 in
theorem few_up (a : Option Addr) (len cap m k : Nat) (z : Nat → Nat) (w : World) (h : Lies w a len cap z) (hl : len ≤ 150000000000000) (hm : m ≤ 150000000000000) (hk : k = min len m) :
    Calls Tryd.prog 8 #[.slice a len cap, .int .i64 (m : Nat)] w fun e w' => ∃ g c, e = .returned (.slice (some ⟨g, 0, none⟩) k c) ∧ Own w' w.heap.size 5 .u8 g c (byt z 0 k) ∧ Below w.heap.size w w' := by
  have hlc := h.lc
  have hkl : k ≤ len := by omega
  have HA : Hid (_) := few_src h hkl (by omega)
  by_cases hml : m < len
  · obtain rfl : k = m := by omega
    have hml' : (k : Int) < len := by omega
    have hkc : (k : Int) ≤ cap := by omega
    obtain ⟨b, o, rfl, _⟩ := h.spot (by omega)
    clear hk h
    go_enter Tryd.func8, Tryd.ntmps8
    go_wp2_with (at_builtin; refine wpList_append_ex rfl (.tmp 5) (.tmp 11) 23 rfl rfl rfl HA.out ?_; rintro g1 c1 w1 hR1; have HR : Hid (_) := hR1; clear hR1)
    go_ret
    exact ⟨g1, c1, rfl, HR.out.1, HR.out.2⟩
  · obtain rfl : k = len := by omega
    have hml' : ¬ (m : Int) < k := by omega
    clear hk
    rcases a with _ | ad
    · have hl0 : k = 0 := by
        rcases Nat.eq_zero_or_pos k with h0 | h0
        · exact h0
        · obtain ⟨b, o, e, _⟩ := h.spot h0; cases e
      subst hl0
      clear h
      go_enter Tryd.func8, Tryd.ntmps8
      go_wp2_with (at_builtin; refine wpList_append_ex rfl (.tmp 5) (.tmp 11) 23 rfl rfl rfl HA.out ?_; rintro g1 c1 w1 hR1; have HR : Hid (_) := hR1; clear hR1)
      go_ret
      exact ⟨g1, c1, rfl, HR.out.1, HR.out.2⟩
    · clear h
      go_enter Tryd.func8, Tryd.ntmps8
      go_wp2_with (at_builtin; refine wpList_append_ex rfl (.tmp 5) (.tmp 11) 23 rfl rfl rfl HA.out ?_; rintro g1 c1 w1 hR1; have HR : Hid (_) := hR1; clear hR1)
      go_ret
      exact ⟨g1, c1, rfl, HR.out.1, HR.out.2⟩
def outI (E : Except Nat St) : List Int := match E with | .ok st => st.2 | .error _ => []
def numI (E : Except Nat St) : Nat := match E with | .ok st => (st.1 + 7) / 8 | .error _ => 0
def errI (E : Except Nat St) : Nat := match E with | .ok _ => 0 | .error k => k
/-- What an Inflate tells, by one function. -/
theorem TellsI.told {most : Nat} {E : Except Nat St} {w w' : World} {e : Ending} (h : TellsI most E w e w') (hm : most ≤ 150000000000000) : Below w.heap.size w w' ∧ ∃ a c, e = .returned (.tuple #[.slice a (outI E).length c, .int .i64 (numI E : Nat), .int .i64 (errI E : Nat)]) ∧ Lies w' a (outI E).length c (zb (outI E)) := by
  refine ⟨h.1, ?_⟩
  rcases h.2 with ⟨k', h1, _, rfl⟩ | ⟨q, o', r, h1, rfl, hO, hb, hf⟩
  · rw [h1.out]
    exact ⟨none, 0, rfl, Lies.none _ _ (fun i => by unfold zb outI; simp)⟩
  · obtain ⟨a, c, rfl, hL⟩ := hO.liesB hb.out (by omega)
    rw [h1.out]
    exact ⟨a, c, rfl, hL⟩
end Go.Proofs.YtahibacjaoohiaaDoor
