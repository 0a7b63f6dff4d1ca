/-
  CodesTells, walked.
-/
import Derived.Test.YtlpehejadedkkaaRNew
import Derived.Test.YtlpehejadedkkaaLen
import Derived.Test.YtlpehejadedkkaaAll
namespace Go.Proofs.Ytlpehejadedkkaa
open Go.RowKit

set_option maxRecDepth 100000 in
set_option maxHeartbeats 6400000 in
theorem tells_any (w : World) (a : Option Addr) (len cap : Nat) (f : Nat → Int) (bend : Int) (ab : Option Addr) (lenb capb : Nat) (z : Nat → Nat) (raw : Bool) (hI : Ints w a len cap f) (hbend : -9223372036854775808 ≤ bend ∧ bend ≤ 9223372036854775807) (hL : Lies w ab lenb capb z) :
    Calls Try.prog 4 #[.slice a len cap, .int .i64 bend, .slice ab lenb capb, .bool raw] w fun e w' => e = .returned (.bool true) ∧ Below w.heap.size w w' := by
  have hrb := hL.reach
  cases raw
  · go_enter Try.func4, Try.ntmps4
    go_wp2_with fail
    refine (lengths_any _ a len cap f bend hI hbend).mono ?_
    rintro e w0 ⟨xs, ax, cx, rfl, hIx, hxl, BB, _⟩
    have hrx := hIx.reach
    go_wp2_with fail
    refine (new_any ax xs.length cx (fun i => xs.getD i 0) _ hIx).mono ?_
    rintro e w1 ⟨k1, hnew⟩
    have hIx1 := hIx.below k1 (Nat.le_refl _)
    have B1 := below_plain BB (Nat.le_refl _) k1
    rcases hnew with ⟨hbad, rfl⟩ | ⟨hgood, o, gw, gs, _, _, _, rfl, hC⟩
    · have HB : Hid (¬ GoodL (fun i => xs.getD i 0) xs.length) := hbad
      clear hbad
      go_wp2_with fail
      refine (rnew_any ax xs.length cx (fun i => xs.getD i 0) _ hIx1).mono ?_
      rintro e w2 ⟨k2, ⟨_, rfl⟩ | ⟨hg, _⟩⟩
      · have B2 := below_plain B1 (Nat.le_refl _) k2
        go_wp2_with fail
        refine (known_any _).mono ?_
        rintro e w3 ⟨rfl, k3⟩
        have B3 := below_plain B2 (Nat.le_refl _) k3
        clear k1 k2 k3 B1 B2
        go_wp2
        go_ret
        exact ⟨rfl, B3⟩
      · exact absurd hg HB.out
    · have hfew := hgood.few
      have HB : Hid (GoodL (fun i => xs.getD i 0) xs.length) := hgood
      clear hgood
      go_wp2_with fail
      refine (rnew_any ax xs.length cx (fun i => xs.getD i 0) _ hIx1).mono ?_
      rintro e w2 ⟨k2, ⟨hb, _⟩ | ⟨_, rc, gc, gl, capl, _, _, _, rfl, hR⟩⟩
      · exact absurd HB.out hb
      obtain ⟨L, hLL⟩ : ∃ L : Nat → Nat, Hid ((fun i => ((fun i => xs.getD i 0) i).toNat) = L) := ⟨_, rfl⟩
      rw [hLL.out] at hC hR
      have B2 := below_plain B1 (Nat.le_refl _) k2
      replace hC := hC.below k2
      go_wp2_with fail
      refine (known_any _).mono ?_
      rintro e w3 ⟨rfl, k3⟩
      have B3 := below_plain B2 (Nat.le_refl _) k3
      replace hC := hC.below k3
      replace hR := hR.below k3
      clear k1 k2 k3 B1 B2 hIx hIx1 BB
      go_wp2_with fail
      go_loopw [60] (fun j wq => ∃ i : Nat, i ≤ xs.length ∧ j = .int .i64 i ∧ CodeAt wq o gw gs xs.length L ∧ RCode wq rc gc gl capl xs.length L ∧ Below w.heap.size w wq) (fun j _ => xs.length - (intOf j).toNat)
      case atStart => exact ⟨0, by omega, rfl, hC, hR, B3⟩
      case round =>
        clear hC hR B3
        obtain ⟨i, hi, rfl, hC, hR, BB⟩ := hrel
        have hlc := hR.lcap
        by_cases hil : i < xs.length
        · have hil' : (i : Int) < (xs.length : Int) := by omega
          go_wp2_with fail
          refine (of_any o gw gs xs.length L i hil _ hC).mono ?_
          rintro e w4 ⟨rfl, k4⟩
          replace hC := hC.below k4
          replace hR := hR.below k4
          replace BB := below_plain BB (Nat.le_refl _) k4
          have e1 := hR.l i hil
          have e2 := hR.c i hil
          have e3 := hR.cs
          have e4 := hR.ls
          clear k4
          go_wp2
          exact ⟨⟨i + 1, by omega, by go_num, hC, hR, BB⟩, by simp [intOf]; omega⟩
        · have hil' : ¬ (i : Int) < (xs.length : Int) := by omega
          have hL4 := hL.below BB (Nat.le_refl _)
          go_wp2_with fail
          refine (newbits_any ab lenb capb z _ hL4).mono ?_
          rintro e w5 ⟨b0, g0, rfl, hB, hb0, hg0, k5⟩
          have ho := hC.lo
          have hgw := hC.lw
          have hgs := hC.ls
          have hrc := hR.lo
          have hgc := hR.lc
          have hgl := hR.ll
          have hws := BB.size
          replace hC := hC.below k5
          replace hR := hR.below k5
          have hL5 := hL4.below k5 (Nat.le_refl _)
          replace BB := below_plain BB (Nat.le_refl _) k5
          have hb5 := blk_lt hB.obj
          have hg5 := blk_lt hB.row
          have hlb : 0 < lenb → ∀ b off, ab = some ⟨b, off, none⟩ → b < w.heap.size := fun h0 b off e => by
            obtain ⟨b', off', e', hb', _⟩ := hL.spot h0
            rw [e] at e'
            simp at e'
            omega
          have HLB : Hid (0 < lenb → ∀ b off, ab = some ⟨b, off, none⟩ → b < w.heap.size) := hlb
          clear k5 hL4 hlb
          go_wp2_with fail
          obtain ⟨sb, hsb⟩ : ∃ sb, sb = w5.heap.size := ⟨_, rfl⟩
          have kal : Below w5.heap.size w5 (w5.alloc (.cells #[.slice ab lenb capb, .int .i64 0] 45)) := (Below.refl _ _).alloc (Nat.le_refl _) _
          have hRB : RBits (w5.alloc (.cells #[.slice ab lenb capb, .int .i64 0] 45)) sb ab lenb capb z 0 := ⟨by rw [hsb]; exact blk_new w5 _, hL5.below kal (Nat.le_refl _), by omega, fun h0 b off e => by have := HLB.out h0 b off e; have := BB.size; omega⟩
          have hws5 := BB.size
          replace BB := below_plain BB (Nat.le_refl _) kal
          replace hC := hC.below kal
          replace hR := hR.below kal
          replace hB := hB.below kal
          obtain ⟨W, hW⟩ : ∃ W, W = w5.alloc (.cells #[.slice ab lenb capb, .int .i64 0] 45) := ⟨_, rfl⟩
          rw [← hsb, ← hW]
          rw [← hW] at hRB BB hC hR hB
          clear kal hW hL5
          have n1 : o ≠ b0 := by omega
          have n2 : gw ≠ b0 := by omega
          have n3 : gs ≠ b0 := by omega
          have n4 : rc ≠ b0 := by omega
          have n5 : gc ≠ b0 := by omega
          have n6 : gl ≠ b0 := by omega
          have n7 : o ≠ sb := by omega
          have n8 : gw ≠ sb := by omega
          have n9 : gs ≠ sb := by omega
          have n10 : rc ≠ sb := by omega
          have n11 : gc ≠ sb := by omega
          have n12 : gl ≠ sb := by omega
          have n13 : b0 ≠ sb := by omega
          have n14 : g0 ≠ sb := by omega
          have n15 : w.heap.size ≤ b0 := by omega
          have n16 : w.heap.size ≤ sb := by omega
          clear ho hgw hgs hrc hgc hgl hb5 hg5 hsb hb0 hg0
          obtain ⟨wz, hwz⟩ : ∃ wz, wz = wr := ⟨_, rfl⟩
          subst hwz
          go_loopw [19] (fun j wq => ∃ t p : Nat, t ≤ 60 ∧ j = .int .i64 t ∧ BitsAt wq b0 g0 lenb z p ∧ RBits wq sb ab lenb capb z p ∧ CodeAt wq o gw gs xs.length L ∧ RCode wq rc gc gl capl xs.length L ∧ Below w.heap.size w wq) (fun j _ => 60 - (intOf j).toNat)
          case atStart => exact ⟨0, 0, by omega, rfl, hB, hRB, hC, hR, BB⟩
          case round =>
            clear hB hRB hC hR BB
            obtain ⟨t, p, ht, rfl, hB, hRB, hC, hR, BB⟩ := hrel
            by_cases h60 : t < 60
            · have h60' : (t : Int) < 60 := by omega
              obtain ⟨R, hRR⟩ : ∃ R, Hid (rdv L xs.length (bit z) (8 * lenb) p = R) := ⟨_, rfl⟩
              go_wp2_with fail
              refine (read_any o gw gs xs.length L b0 g0 lenb z p _ hC hB n1 n2 n3).mono ?_
              rintro e w6 ⟨rfl, hB6, k6⟩
              have hRB6 := hRB.kept k6 (fun e => n13 e.symm) (fun h0 b off e e2 => by have := HLB.out h0 b off e; omega)
              replace hC := hC.kept k6 n1 n2 n3
              replace hR := hR.kept k6 n4 n5 n6
              replace BB := Below.kept BB k6 (Nat.le_refl _) (fun i hi => by omega)
              clear hB hRB k6
              go_wp2_with fail
              refine (rread_any rc gc gl capl xs.length L sb ab lenb capb z p _ hR hRB6 n10 n11 n12).mono ?_
              rintro e w7 ⟨rfl, hRB7, k7⟩
              have hB7 := hB6.kept k7 n13 n14
              replace hC := hC.kept k7 n7 n8 n9
              replace hR := hR.kept k7 n10 n11 n12
              replace BB := Below.kept BB k7 (Nat.le_refl _) (fun i hi => by omega)
              rw [hRR.out] at hRB7 hB7 ⊢
              clear hB6 hRB6 k7 hRR
              obtain ⟨r1, r2, r3⟩ := R
              cases r2
              · go_wp2
                go_ret
                exact ⟨rfl, BB⟩
              · go_wp2_with fail
                refine (used_any b0 g0 lenb z r3 _ hB7).mono ?_
                rintro e w' ⟨rfl, rfl⟩
                go_wp2_with fail
                refine (rused_any sb ab lenb capb z r3 _ hRB7).mono ?_
                rintro e w' ⟨rfl, rfl⟩
                go_wp2
                exact ⟨⟨t + 1, r3, by omega, by go_num, hB7, hRB7, hC, hR, BB⟩, by simp [intOf]; omega⟩
            · have h60' : ¬ (t : Int) < 60 := by omega
              go_wp2
              go_ret
              exact ⟨rfl, BB⟩
  · go_enter Try.func4, Try.ntmps4
    have BB := Below.refl w.heap.size w
    have hIx := hI
    have hrx := hIx.reach
    go_wp2_with fail
    refine (new_any a len cap f _ hIx).mono ?_
    rintro e w1 ⟨k1, hnew⟩
    have hIx1 := hIx.below k1 (Nat.le_refl _)
    have B1 := below_plain BB (Nat.le_refl _) k1
    rcases hnew with ⟨hbad, rfl⟩ | ⟨hgood, o, gw, gs, _, _, _, rfl, hC⟩
    · have HB : Hid (¬ GoodL f len) := hbad
      clear hbad
      go_wp2_with fail
      refine (rnew_any a len cap f _ hIx1).mono ?_
      rintro e w2 ⟨k2, ⟨_, rfl⟩ | ⟨hg, _⟩⟩
      · have B2 := below_plain B1 (Nat.le_refl _) k2
        go_wp2_with fail
        refine (known_any _).mono ?_
        rintro e w3 ⟨rfl, k3⟩
        have B3 := below_plain B2 (Nat.le_refl _) k3
        clear k1 k2 k3 B1 B2
        go_wp2
        go_ret
        exact ⟨rfl, B3⟩
      · exact absurd hg HB.out
    · have hfew := hgood.few
      have HB : Hid (GoodL f len) := hgood
      clear hgood
      go_wp2_with fail
      refine (rnew_any a len cap f _ hIx1).mono ?_
      rintro e w2 ⟨k2, ⟨hb, _⟩ | ⟨_, rc, gc, gl, capl, _, _, _, rfl, hR⟩⟩
      · exact absurd HB.out hb
      obtain ⟨L, hLL⟩ : ∃ L : Nat → Nat, Hid ((fun i => (f i).toNat) = L) := ⟨_, rfl⟩
      rw [hLL.out] at hC hR
      have B2 := below_plain B1 (Nat.le_refl _) k2
      replace hC := hC.below k2
      go_wp2_with fail
      refine (known_any _).mono ?_
      rintro e w3 ⟨rfl, k3⟩
      have B3 := below_plain B2 (Nat.le_refl _) k3
      replace hC := hC.below k3
      replace hR := hR.below k3
      clear k1 k2 k3 B1 B2 hIx hIx1 BB
      go_wp2_with fail
      go_loopw [60] (fun j wq => ∃ i : Nat, i ≤ len ∧ j = .int .i64 i ∧ CodeAt wq o gw gs len L ∧ RCode wq rc gc gl capl len L ∧ Below w.heap.size w wq) (fun j _ => len - (intOf j).toNat)
      case atStart => exact ⟨0, by omega, rfl, hC, hR, B3⟩
      case round =>
        clear hC hR B3
        obtain ⟨i, hi, rfl, hC, hR, BB⟩ := hrel
        have hlc := hR.lcap
        by_cases hil : i < len
        · have hil' : (i : Int) < (len : Int) := by omega
          go_wp2_with fail
          refine (of_any o gw gs len L i hil _ hC).mono ?_
          rintro e w4 ⟨rfl, k4⟩
          replace hC := hC.below k4
          replace hR := hR.below k4
          replace BB := below_plain BB (Nat.le_refl _) k4
          have e1 := hR.l i hil
          have e2 := hR.c i hil
          have e3 := hR.cs
          have e4 := hR.ls
          clear k4
          go_wp2
          exact ⟨⟨i + 1, by omega, by go_num, hC, hR, BB⟩, by simp [intOf]; omega⟩
        · have hil' : ¬ (i : Int) < (len : Int) := by omega
          have hL4 := hL.below BB (Nat.le_refl _)
          go_wp2_with fail
          refine (newbits_any ab lenb capb z _ hL4).mono ?_
          rintro e w5 ⟨b0, g0, rfl, hB, hb0, hg0, k5⟩
          have ho := hC.lo
          have hgw := hC.lw
          have hgs := hC.ls
          have hrc := hR.lo
          have hgc := hR.lc
          have hgl := hR.ll
          have hws := BB.size
          replace hC := hC.below k5
          replace hR := hR.below k5
          have hL5 := hL4.below k5 (Nat.le_refl _)
          replace BB := below_plain BB (Nat.le_refl _) k5
          have hb5 := blk_lt hB.obj
          have hg5 := blk_lt hB.row
          have hlb : 0 < lenb → ∀ b off, ab = some ⟨b, off, none⟩ → b < w.heap.size := fun h0 b off e => by
            obtain ⟨b', off', e', hb', _⟩ := hL.spot h0
            rw [e] at e'
            simp at e'
            omega
          have HLB : Hid (0 < lenb → ∀ b off, ab = some ⟨b, off, none⟩ → b < w.heap.size) := hlb
          clear k5 hL4 hlb
          go_wp2_with fail
          obtain ⟨sb, hsb⟩ : ∃ sb, sb = w5.heap.size := ⟨_, rfl⟩
          have kal : Below w5.heap.size w5 (w5.alloc (.cells #[.slice ab lenb capb, .int .i64 0] 45)) := (Below.refl _ _).alloc (Nat.le_refl _) _
          have hRB : RBits (w5.alloc (.cells #[.slice ab lenb capb, .int .i64 0] 45)) sb ab lenb capb z 0 := ⟨by rw [hsb]; exact blk_new w5 _, hL5.below kal (Nat.le_refl _), by omega, fun h0 b off e => by have := HLB.out h0 b off e; have := BB.size; omega⟩
          have hws5 := BB.size
          replace BB := below_plain BB (Nat.le_refl _) kal
          replace hC := hC.below kal
          replace hR := hR.below kal
          replace hB := hB.below kal
          obtain ⟨W, hW⟩ : ∃ W, W = w5.alloc (.cells #[.slice ab lenb capb, .int .i64 0] 45) := ⟨_, rfl⟩
          rw [← hsb, ← hW]
          rw [← hW] at hRB BB hC hR hB
          clear kal hW hL5
          have n1 : o ≠ b0 := by omega
          have n2 : gw ≠ b0 := by omega
          have n3 : gs ≠ b0 := by omega
          have n4 : rc ≠ b0 := by omega
          have n5 : gc ≠ b0 := by omega
          have n6 : gl ≠ b0 := by omega
          have n7 : o ≠ sb := by omega
          have n8 : gw ≠ sb := by omega
          have n9 : gs ≠ sb := by omega
          have n10 : rc ≠ sb := by omega
          have n11 : gc ≠ sb := by omega
          have n12 : gl ≠ sb := by omega
          have n13 : b0 ≠ sb := by omega
          have n14 : g0 ≠ sb := by omega
          have n15 : w.heap.size ≤ b0 := by omega
          have n16 : w.heap.size ≤ sb := by omega
          clear ho hgw hgs hrc hgc hgl hb5 hg5 hsb hb0 hg0
          obtain ⟨wz, hwz⟩ : ∃ wz, wz = wr := ⟨_, rfl⟩
          subst hwz
          go_loopw [19] (fun j wq => ∃ t p : Nat, t ≤ 60 ∧ j = .int .i64 t ∧ BitsAt wq b0 g0 lenb z p ∧ RBits wq sb ab lenb capb z p ∧ CodeAt wq o gw gs len L ∧ RCode wq rc gc gl capl len L ∧ Below w.heap.size w wq) (fun j _ => 60 - (intOf j).toNat)
          case atStart => exact ⟨0, 0, by omega, rfl, hB, hRB, hC, hR, BB⟩
          case round =>
            clear hB hRB hC hR BB
            obtain ⟨t, p, ht, rfl, hB, hRB, hC, hR, BB⟩ := hrel
            by_cases h60 : t < 60
            · have h60' : (t : Int) < 60 := by omega
              obtain ⟨R, hRR⟩ : ∃ R, Hid (rdv L len (bit z) (8 * lenb) p = R) := ⟨_, rfl⟩
              go_wp2_with fail
              refine (read_any o gw gs len L b0 g0 lenb z p _ hC hB n1 n2 n3).mono ?_
              rintro e w6 ⟨rfl, hB6, k6⟩
              have hRB6 := hRB.kept k6 (fun e => n13 e.symm) (fun h0 b off e e2 => by have := HLB.out h0 b off e; omega)
              replace hC := hC.kept k6 n1 n2 n3
              replace hR := hR.kept k6 n4 n5 n6
              replace BB := Below.kept BB k6 (Nat.le_refl _) (fun i hi => by omega)
              clear hB hRB k6
              go_wp2_with fail
              refine (rread_any rc gc gl capl len L sb ab lenb capb z p _ hR hRB6 n10 n11 n12).mono ?_
              rintro e w7 ⟨rfl, hRB7, k7⟩
              have hB7 := hB6.kept k7 n13 n14
              replace hC := hC.kept k7 n7 n8 n9
              replace hR := hR.kept k7 n10 n11 n12
              replace BB := Below.kept BB k7 (Nat.le_refl _) (fun i hi => by omega)
              rw [hRR.out] at hRB7 hB7 ⊢
              clear hB6 hRB6 k7 hRR
              obtain ⟨r1, r2, r3⟩ := R
              cases r2
              · go_wp2
                go_ret
                exact ⟨rfl, BB⟩
              · go_wp2_with fail
                refine (used_any b0 g0 lenb z r3 _ hB7).mono ?_
                rintro e w' ⟨rfl, rfl⟩
                go_wp2_with fail
                refine (rused_any sb ab lenb capb z r3 _ hRB7).mono ?_
                rintro e w' ⟨rfl, rfl⟩
                go_wp2
                exact ⟨⟨t + 1, r3, by omega, by go_num, hB7, hRB7, hC, hR, BB⟩, by simp [intOf]; omega⟩
            · have h60' : ¬ (t : Int) < 60 := by omega
              go_wp2
              go_ret
              exact ⟨rfl, BB⟩
end Go.Proofs.Ytlpehejadedkkaa
