/-
  slices.Clone, sfnt.recordsIn, sfnt.Open as contracts.
-/
import Derived.Test.YtninhcnpjadjpaaRec
import Derived.Test.YtninhcnpjadjpaaApx
namespace Go.Proofs.Ytninhcnpjadjpaa
open Go.RowKit

set_option maxRecDepth 100000 in
theorem clone_any (b off len cap : Nat) (z : Nat → Nat) (w : World) (h : Lies w (some ⟨b, off, none⟩) len cap z) (hl : len ≤ 150000000000000) :
    Calls Try.prog 36 #[.slice (some ⟨b, off, none⟩) len cap] w fun e w' => ∃ g c, e = .returned (.slice (some ⟨g, 0, none⟩) len c) ∧ Own w' w.heap.size 5 .u8 g c (byt z 0 len) ∧ Below w.heap.size w w' := by
  have HA : Hid (_) := few_src h (Nat.le_refl _) hl
  have hne : ∀ W : World, (binOp .eql 29 (.slice (some ⟨b, off, none⟩) len cap) (.slice none 0 0)).run Try.prog W = .ok (.bool false) W := fun W => by kernel_rfl
  clear h
  go_enter Try.func36, Try.ntmps36
  go_wp2_with (at_builtin; refine wpList_append_ex rfl (.tmp 5) (.tmp 6) 29 rfl rfl rfl HA.out ?_; rintro g1 c1 w1 hR1; have HR : Hid (_) := hR1; clear hR1)
  go_ret
  exact ⟨g1, c1, rfl, HR.out.1, HR.out.2⟩

theorem made_size (zs : Array Value) (n : Nat) : (madeCells zs n).size = n := by simp [madeCells]
theorem make57 (n : Nat) (hn : n ≤ 64) : ∃ cur : Array Value, cur.size = n * 3 ∧ ∀ W : World, (Instr.makeSlice 65 (.int .i64 0) (.int .i64 n)).run Try.prog W = .ok (.slice (some ⟨W.heap.size, 0, none⟩) 0 n) (W.alloc (.cells cur 70)) := by
  obtain ⟨i, hi, h1, h2, h3⟩ := info_of E57.hi
  refine ⟨madeCells (Value.agg #[.string ⟨#[]⟩, .int .i64 0, .int .i64 0]).cells (n * 3), made_size _ _, fun W => ?_⟩
  have h := run_make (P := Try.prog) W 65 70 i _ Try.underlying65 hi h1 .i64 .i64 0 n (by omega) (by omega) (by rw [h2]; omega) (by omega)
  rw [h, h3, Int.toNat_natCast]; rfl

theorem numv_from (z : Nat → Nat) (p q : Nat) : ∀ k, numv (fun i => z (p + i)) q k = numv z (p + q) k
  | 0 => rfl
  | k + 1 => by simp only [numv, numv_from z p q k, Nat.add_assoc]

/-- What recordsIn tells. -/
def recE (z : Nat → Nat) (len n : Nat) : Nat := if len < 12 + 16 * n then 3 else fbv z len n

set_option maxRecDepth 100000 in
set_option maxHeartbeats 1600000 in
theorem records_any (a : Option Addr) (len cap : Nat) (z : Nat → Nat) (n : Nat) (w : World) (h : Lies w a len cap z) (hn : n ≤ 64) :
    Calls Try.prog 35 #[.slice a len cap, .int .i64 (n : Nat)] w fun e w' => Below w.heap.size w w' ∧ ((Hid (recE z len n ≠ 0) ∧ e = .returned (.tuple #[.slice none 0 0, .int .i64 (recE z len n : Nat)])) ∨
      (Hid (recE z len n = 0) ∧ ∃ g c, e = .returned (.tuple #[.slice (some ⟨g, 0, none⟩) n c, .int .i64 0]) ∧ w.heap.size ≤ g ∧ Recs w' (some ⟨g, 0, none⟩) n c (tgv z) (atv z) (szv z))) := by
  have hr := h.reach
  have hlc := h.lc
  have q0 : (n : Int) * 16 = ((n * 16 : Nat) : Int) := by omega
  by_cases hsh : len < 12 + 16 * n
  · have HE : Hid (recE z len n = 3) := by show _ = _; unfold recE; rw [if_pos hsh]
    have C := part_no a len cap z 12 (n * 16) w h (by omega) (by omega)
    rw [← q0] at C
    clear q0
    go_enter Try.func35, Try.ntmps35
    go_wp2_with fail
    refine C.mono ?_
    rintro e w' ⟨a', c', rfl, b1⟩
    go_wp2
    go_ret2
    exact ⟨b1, .inl ⟨by show _ ≠ _; rw [HE.out]; omega, by rw [HE.out]; rfl⟩⟩
  · have HE : Hid (recE z len n = fbv z len n) := by show _ = _; unfold recE; rw [if_neg hsh]
    have C := part_yes a len cap z 12 (n * 16) w h (by omega)
    rw [← q0] at C
    clear q0
    obtain ⟨cur, hcs, hmk⟩ := make57 n hn
    go_enter Try.func35, Try.ntmps35
    go_wp2_with fail
    refine C.mono ?_
    rintro e w1 ⟨la, lc, rfl, hL, b1⟩
    have hO := World.ownsRow_made (base := w1.heap.size) (e := 70) (size := 3) w1 cur n (Nat.le_refl _) (by unfold maxLen; omega) hcs
    have bm : Below w1.heap.size w1 (w1.alloc (.cells cur 70)) := (Below.refl _ _).alloc (Nat.le_refl _) _
    clear C
    go_wp2_with fail
    go_loopw [8, 23] (fun rs i wq => ∃ (k g c : Nat), i = .int .i64 (k : Nat) ∧ k ≤ n ∧ rs = .slice (some ⟨g, 0, none⟩) k c ∧ wq.ownsRow w1.heap.size 70 3 (.slice (some ⟨g, 0, none⟩) k c) k (recL (tgv z) (atv z) (szv z) k) ∧ Below w1.heap.size w1 wq ∧ Hid (∀ j, j < k → chkv z len j = 0)) (fun _ i _ => n - (intOf i).toNat)
    case atStart => exact ⟨0, w1.heap.size, n, rfl, by omega, rfl, hO, bm, fun j hj => by omega⟩
    case round =>
      clear hO bm hmk
      obtain ⟨k, g, c, rfl, hk, rfl, hO, hB, hch⟩ := hrel
      have hb1s := b1.size
      by_cases hkn : k < n
      · have hkn' : (k : Int) < n := by omega
        have LW := hL.below hB (Nat.le_refl _)
        have R := record_any la (n * 16) lc (fun i => z (12 + i)) (k * 16) wr LW (by omega)
        rw [numv_from, numv_from, show ((k * 16 : Nat) : Int) = (k : Int) * 16 by omega, show 12 + (k * 16 + 8) = 12 + 16 * k + 8 by omega, show 12 + (k * 16 + 12) = 12 + 16 * k + 12 by omega] at R
        have ht : (fun i => z (12 + (k * 16 + i))) = fun i => z (12 + 16 * k + i) := funext fun i => by rw [show 12 + (k * 16 + i) = 12 + 16 * k + i by omega]
        simp only [ht] at R
        have a1 := numv_lt4 z h.byte (12 + 16 * k + 8) 4 (by omega)
        have a2 := numv_lt4 z h.byte (12 + 16 * k + 12) 4 (by omega)
        have HA : Hid (atv z k = numv z (12 + 16 * k + 8) 4) := rfl
        have HZ : Hid (szv z k = numv z (12 + 16 * k + 12) 4) := rfl
        have HT : Hid (tgv z k = bstr (fun i => z (12 + 16 * k + i)) 4) := rfl
        rw [← HA.out, ← HZ.out, ← HT.out] at R
        rw [← HA.out] at a1
        rw [← HZ.out] at a2
        have HC : Hid (chkv z len k = if hadn (tgv z) (tgv z k) k = true then 2 else if atv z k + szv z k ≤ len then 0 else 3) := rfl
        obtain ⟨T, hT⟩ : ∃ T, Hid (tgv z k = T) := ⟨_, rfl⟩
        obtain ⟨A, hA⟩ : ∃ A, Hid (atv z k = A) := ⟨_, rfl⟩
        obtain ⟨S, hS⟩ : ∃ S, Hid (szv z k = S) := ⟨_, rfl⟩
        rw [hT.out] at R HC
        rw [hA.out] at R HC a1
        rw [hS.out] at R HC a2
        clear LW ht
        go_wp2_with fail
        refine R.mono ?_
        rintro e w2 ⟨rfl, b2⟩
        have B2 := hB.trans (b2.mono hB.size)
        have O2 := ownr_below hO b2
        obtain ⟨rb, hrb⟩ : ∃ rb, rb = w2.heap.size := ⟨_, rfl⟩
        obtain ⟨w3, hw3⟩ : ∃ w3, w3 = w2.alloc (.cells #[.string T, .int .i64 (A : Nat), .int .i64 (S : Nat)] 70) := ⟨_, rfl⟩
        have B3 : Below w1.heap.size w1 w3 := by rw [hw3]; exact B2.alloc B2.size _
        have O3 : w3.ownsRow w1.heap.size 70 3 (.slice (some ⟨g, 0, none⟩) k c) k (recL (tgv z) (atv z) (szv z) k) := by rw [hw3]; exact O2.alloc _
        have K3 : w3.heap[rb]? = some (.cells #[.string T, .int .i64 (A : Nat), .int .i64 (S : Nat)] 70 (0, 0)) := by rw [hw3, hrb]; exact blk_new _ _
        obtain ⟨r, hf⟩ := isF_ex (tgv z) T k
        have P := place_any (some ⟨g, 0, none⟩) k c (tgv z) (atv z) (szv z) T r w3 (ownr_recs O3 (by omega)) hf
        have hd := hf.had
        have HW3 : Hid (w3 = _) := hw3
        have HRB : Hid (rb = w2.heap.size) := hrb
        have c30 := blk_cell K3 0
        rw [hw3] at P
        rw [hw3, hrb] at c30
        clear hw3 hrb R hO O2
        go_wp2_with fail
        refine P.mono ?_
        rintro e w4 ⟨rfl, b4⟩
        rw [← HW3.out] at b4
        have B4 := B3.trans (b4.mono B3.size)
        have O4 := ownr_below O3 b4
        have K4 := (b4.block rb (blk_lt K3)).trans K3
        rw [HRB.out] at K4
        have k0 := blk_cell K4 0
        have k1 := blk_cell K4 1
        have k2 := blk_cell K4 2
        have B04 : Below w.heap.size w w4 := b1.trans (B4.mono hb1s)
        simp only [List.getElem?_toArray, List.getElem?_cons_zero, List.getElem?_cons_succ] at k0 k1 k2
        by_cases hrk : r < k
        · have HV : Hid (fndv r k = (r : Int)) := by show _ = _; unfold fndv; rw [if_pos hrk]
          have HC2 : Hid (recE z len n = 2) := by
            have hk2 : chkv z len k = 2 := by rw [HC.out, hd, decide_eq_true hrk]; rfl
            show _ = _; rw [HE.out, fbv_hit hch.out (by omega) hkn, hk2]
          rw [HV.out]
          clear hf hd P
          go_wp2
          go_ret2
          exact ⟨B04, .inl ⟨by show _ ≠ _; rw [HC2.out]; omega, by rw [HC2.out]; rfl⟩⟩
        · have HV : Hid (fndv r k = -1) := by show _ = _; unfold fndv; rw [if_neg hrk]
          rw [HV.out]
          have hC3 : chkv z len k = if A + S ≤ len then 0 else 3 := by rw [HC.out, hd, decide_eq_false hrk]; rfl
          by_cases hfit : A + S ≤ len
          · have HC0 : Hid (chkv z len k = 0) := by show _ = _; rw [hC3, if_pos hfit]
            have hfit' : ¬ ((len : Int) - A < S) := by omega
            clear hC3 hf hd P
            have HAP : Hid (_) := app_one E57 (w0 := w1) (w := w4.alloc (.cells #[.string T, .int .i64 (A : Nat), .int .i64 (S : Nat)] 70)) (World.ownsRow.alloc O4 _) (B4.alloc B4.size _) (by have := B4.size; simp; omega) (blk_new w4 (.cells #[.string T, .int .i64 (A : Nat), .int .i64 (S : Nat)] 70)) (news := [.string T, .int .i64 (A : Nat), .int .i64 (S : Nat)]) rfl (by intro u hu; simp at hu; rcases hu with rfl | rfl | rfl <;> rfl) (by omega)
            go_wp2_with (at_builtin; refine wpList_append_ex rfl (.tmp 43) (.tmp 45) 65 rfl rfl rfl HAP.out ?_; rintro g6 c6 w6 hR1; have HR : Hid (_) := hR1; clear hR1)
            refine ⟨⟨k + 1, g6, c6, by go_num, by omega, rfl, ?_, HR.out.2.1, ?_⟩, by simp [intOf]; omega⟩
            · have := HR.out.1
              rw [← hT.out, ← hA.out, ← hS.out] at this
              exact this
            · intro j hj
              rcases Nat.lt_or_ge j k with h1 | h1
              · exact hch.out j h1
              · obtain rfl : j = k := by omega
                exact HC0.out
          · have hfit' : (len : Int) - A < S := by omega
            have HC2 : Hid (recE z len n = 3) := by
              show _ = _; rw [HE.out, fbv_hit hch.out (by rw [hC3, if_neg hfit]; omega) hkn, hC3, if_neg hfit]
            clear hC3 hf hd P
            go_wp2
            go_ret2
            exact ⟨B04, .inl ⟨by show _ ≠ _; rw [HC2.out]; omega, by rw [HC2.out]; rfl⟩⟩
      · obtain rfl : k = n := by omega
        have hkn' : ¬ (k : Int) < k := by omega
        have hg := (World.ownsRow.lt hO g rfl).1
        go_wp2
        go_ret2
        have HC2 : Hid (recE z len k = 0) := by show _ = _; rw [HE.out]; exact fbv_ok.2 hch.out
        have RR := ownr_recs hO hn
        exact ⟨b1.trans (hB.mono hb1s), .inr ⟨HC2, g, c, rfl, by omega, RR⟩⟩

/-- What Open answers. -/
def TellsF (z : Nat → Nat) (len : Nat) (w : World) (e : Ending) (w' : World) : Prop :=
  Below w.heap.size w w' ∧ ((Hid (opnv z len ≠ 0) ∧ e = .returned (.tuple #[.pointer none, .int .i64 (opnv z len : Nat)])) ∨
    (Hid (opnv z len = 0) ∧ ∃ p, e = .returned (.tuple #[.pointer (some ⟨p, 0, none⟩), .int .i64 0]) ∧ w.heap.size ≤ p ∧ Fnt w' p len (cntv z) z (tgv z) (atv z) (szv z)))

set_option maxRecDepth 100000 in
set_option maxHeartbeats 800000 in
theorem open_any (a : Option Addr) (len cap : Nat) (z : Nat → Nat) (w : World) (h : Lies w a len cap z) (hl : len ≤ 150000000000000) :
    Calls Try.prog 23 #[.slice a len cap] w (TellsF z len w) := by
  have C := count_any a len cap z w h
  have HN : Hid (cntN z len = if cntE z len = 0 then cntv z else 0) := rfl
  by_cases hE : cntE z len = 0
  · obtain ⟨h12, hmk, h64, hop⟩ := cntE_ok hE
    have hN : cntN z len = cntv z := by rw [HN.out, if_pos hE]
    have HOP : Hid (opnv z len = recE z len (cntv z)) := hop
    obtain ⟨b, off, rfl, hb, _⟩ := h.spot (by omega)
    rw [hE, hN] at C
    clear hE hN HN hop
    go_enter Try.func23, Try.ntmps23
    go_wp2_with fail
    refine C.mono ?_
    rintro e w1 ⟨rfl, b1⟩
    have h1 := h.below b1 (Nat.le_refl _)
    go_wp2_with fail
    refine (records_any (some ⟨b, off, none⟩) len cap z (cntv z) _ h1 h64).mono ?_
    rintro e w2 ⟨b2, ⟨hne, rfl⟩ | ⟨h0, g, c, rfl, hg, hR⟩⟩
    · have hE2 : ¬ ((recE z len (cntv z) : Nat) : Int) = 0 := by have := hne.out; omega
      have hE3 : (((recE z len (cntv z) : Nat) : Int) != 0) = true := by rw [bne_iff_ne]; exact hE2
      have B2 := b1.trans (b2.mono b1.size)
      go_wp2
      go_ret2
      exact ⟨B2, .inl ⟨by show _ ≠ _; rw [HOP.out]; exact hne.out, by rw [HOP.out]; rfl⟩⟩
    · have B2 := b1.trans (b2.mono b1.size)
      have h2 := h1.below b2 (Nat.le_refl _)
      go_wp2_with fail
      refine (clone_any b off len cap z _ h2 hl).mono ?_
      rintro e w3 ⟨g3, c3, rfl, hO3, b3⟩
      have B3 := B2.trans (b3.mono B2.size)
      have L3 := hO3.liesB (byt_of h.byte) (by rw [byt_len]; omega)
      rw [byt_len] at L3
      have hR3 := hR.below b3 (Nat.le_refl _)
      go_wp2
      go_ret2
      refine ⟨B3.alloc B3.size _, .inr ⟨by show _ = _; rw [HOP.out]; exact h0.out, w3.heap.size, rfl, B3.size, ⟨⟨_, _, _, _, blk_new _ _, ?_, hR3.below ((Below.refl _ _).alloc (Nat.le_refl _) _) (Nat.le_refl _)⟩⟩⟩⟩
      have L4 := L3.below ((Below.refl _ _).alloc (Nat.le_refl _) (.cells #[.slice (some ⟨g3, 0, none⟩) len c3, .slice (some ⟨g, 0, none⟩) (cntv z) c] 67)) (Nat.le_refl _)
      refine ⟨L4.lc, L4.reach, h.byte, fun h0 => ?_⟩
      obtain ⟨b', o', e', hb', hc'⟩ := L4.spot h0
      exact ⟨b', o', e', hb', fun i hi => by
        rw [hc' i hi]
        congr 2
        unfold zb byt
        rw [List.getD_eq_getElem?_getD]
        simp [hi]⟩
  · have hN : cntN z len = 0 := by rw [HN.out, if_neg hE]
    have HOP : Hid (opnv z len = cntE z len) := opnv_head hE
    have HE : Hid (cntE z len ≠ 0) := hE
    have hE2 : ¬ ((cntE z len : Nat) : Int) = 0 := by omega
    have hE3 : (((cntE z len : Nat) : Int) != 0) = true := by rw [bne_iff_ne]; exact hE2
    rw [hN] at C
    clear hE hN HN
    go_enter Try.func23, Try.ntmps23
    go_wp2_with fail
    refine C.mono ?_
    rintro e w1 ⟨rfl, b1⟩
    go_wp2
    go_ret2
    exact ⟨b1, .inl ⟨by show _ ≠ _; rw [HOP.out]; exact HE.out, by rw [HOP.out]; rfl⟩⟩
end Go.Proofs.Ytninhcnpjadjpaa
