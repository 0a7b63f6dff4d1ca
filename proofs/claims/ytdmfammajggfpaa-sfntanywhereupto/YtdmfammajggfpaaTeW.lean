/-
  SfntTells' own walk.
-/
import Derived.Test.YtdmfammajggfpaaGat
import Derived.Test.YtdmfammajggfpaaKno
import Derived.Deep.CutRange
namespace Go.Proofs.Ytdmfammajggfpaa
open Go.RowKit

theorem nilconv (W : World) : (convert 22 9 (.slice none 0 0)).run Try.prog W = .ok (.string ⟨#[]⟩) W := conv_string (Lies.none W (fun _ => 0) (fun _ => by omega))
theorem ptr_no29 (p : Nat) (W : World) : (binOp .eql 29 (.pointer (some ⟨p, 0, none⟩)) (.pointer none)).run Try.prog W = .ok (.bool false) W := by kernel_rfl
theorem ptr_no40 (p : Nat) (W : World) : (binOp .eql 40 (.pointer (some ⟨p, 0, none⟩)) (.pointer none)).run Try.prog W = .ok (.bool false) W := by kernel_rfl
theorem recsB_byt {s : Nat → ByteArray} {t : Nat → Tab} {o : Nat} : ∀ {n : Nat}, (∀ k, k < n → o + sumN t k < 4294967296 ∧ (t k).l < 4294967296) → Byt (recsB s t o n)
  | 0, _ => fun i => by simp [recsB]
  | n + 1, h => by
    obtain ⟨h1, h2⟩ := h n (by omega)
    exact Byt.append (recsB_byt fun k hk => h k (by omega)) (Byt.append (txtL_byt _) (Byt.append (fun i => by rcases i with _ | _ | _ | _ | i <;> simp [zer4]) (Byt.append (bigL_byt h1) (bigL_byt h2))))
theorem bodyB_byt {t : Nat → Tab} : ∀ {n : Nat}, (∀ k, k < n → ∀ i, (t k).z i < 256) → Byt (bodyB t n)
  | 0, _ => fun i => by simp [bodyB]
  | n + 1, h => Byt.append (bodyB_byt fun k hk => h k (by omega)) (byt_of (h n (by omega)))
theorem headB_byt {n : Nat} (hn : n ≤ 64) : Byt (headB n) := by
  refine Byt.append (Byt.append ?_ ?_) ?_
  · intro i; rcases i with _ | _ | _ | _ | i <;> simp
  · intro i
    rcases i with _ | _ | i
    · simp
    · simp; omega
    · simp
  · intro i
    rcases i with _ | _ | _ | _ | _ | _ | i <;> simp [List.replicate]
theorem layB_byt {s : Nat → ByteArray} {t : Nat → Tab} {n : Nat} (hn : n ≤ 64) (hz : ∀ k, k < n → ∀ i, (t k).z i < 256) (hl : ∀ k, k < n → (t k).l < 4294967296) (hs : sumN t n ≤ 100000) : Byt (layB s t n) := by
  refine Byt.append (Byt.append (headB_byt hn) (recsB_byt fun k hk => ⟨?_, hl k hk⟩)) (bodyB_byt hz)
  have := sumN_mono (t := t) (k := k) (n := n) (by omega)
  omega
theorem fbv_parts {z : Nat → Nat} {len : Nat} (h : opnv z len = 0) : (∀ k, k < cntv z → (∀ j, j < k → tgv z j ≠ tgv z k) ∧ atv z k + szv z k ≤ len) ∧ cntv z ≤ 64 := by
  have hc : cntE z len = 0 := by
    rcases Nat.eq_zero_or_pos (cntE z len) with h0 | h0
    · exact h0
    · rw [opnv_head (by omega)] at h; omega
  obtain ⟨h1, h2, h3, h4⟩ := cntE_ok hc
  rw [h4] at h
  split at h
  · cases h
  · exact ⟨fun k hk => chkv_ok (fbv_ok.1 h k hk), h3⟩

set_option maxRecDepth 100000 in
set_option maxHeartbeats 12800000 in
theorem tells_walk (w : World) (a1 : Option Addr) (n1 c1 : Nat) (L : Nat → Tab) (a2 : Option Addr) (n2 c2 : Nat) (f2 : Nat → Int) (a3 : Option Addr) (n3 c3 : Nat) (z3 : Nat → Nat) (how : Int) (a4 : Option Addr) (n4 c4 : Nat) (f4 : Nat → Int) (by' cut : Int)
    (h1 : Tabs w a1 n1 c1 L) (hL : ∀ i, i < n1 → (L i).l ≤ 140737488351232) (h2 : Ints w a2 n2 c2 f2) (h3 : Lies w a3 n3 c3 z3) (hn3 : n3 ≤ 140737488351232) (hI : Ints w a4 n4 c4 f4) (hby : 0 ≤ by' ∧ by' < 256) :
    Calls Try.prog 4 #[.slice a1 n1 c1, .slice a2 n2 c2, .slice a3 n3 c3, .int .i64 how, .slice a4 n4 c4, .int .u8 by', .int .i64 cut] w fun e w' => e = .returned (.bool true) ∧ Below w.heap.size w w' := by
  obtain ⟨y, rfl⟩ : ∃ y : Nat, by' = y := ⟨by'.toNat, by omega⟩
  have hy : y < 256 := by omega
  clear hby
  obtain ⟨h4, hh4⟩ : ∃ h, how.tmod 4 = h := ⟨_, rfl⟩
  have hreach := hI.reach
  go_enter Try.func4, Try.ntmps4
  go_wp2_with fail
  refine (tables_any a1 n1 c1 L a2 n2 c2 f2 _ h1 hL h2).mono ?_
  rintro e w1 ⟨v1, v2, rfl, b1, K, hK, s, t, hG⟩
  obtain ⟨at1, ct1, at2, ct2, rfl, rfl, hS, hT⟩ := hG.take (by omega) (by omega)
  have hl := fun k hk => (hG.each k hk).2
  cases hok : okN s K with
  | false =>
    have LN := lay_no at1 K ct1 s at2 K ct2 w1 hS (by omega) (fun e => by rw [hok] at e; cases e.2.2)
    have HOK : Hid (okN s K = false) := hok
    clear hok
    go_wp2_with fail
    refine LN.mono ?_
    rintro e w2 ⟨rfl, rfl⟩
    go_wp2_with fail
    refine (rlay_any at1 K ct1 s at2 ct2 t w2 hS hT (by omega) hl).mono ?_
    rintro e w3 ⟨b3, ⟨_, rfl⟩ | ⟨hno, _⟩⟩
    · have NC := nilconv w3
      have B3 := b1.trans (b3.mono b1.size)
      have h33 := h3.below B3 (Nat.le_refl _)
      clear LN
      go_wp2_with fail
      refine (few_up a3 n3 c3 n3 n3 z3 _ h33 (by omega) (by omega) (by omega)).mono ?_
      rintro e wA ⟨gA, cA, rfl, hOA, bA⟩
      have BZ := B3.trans (bA.mono B3.size)
      have hLz := hOA.liesB (byt_of h3.byte) (by rw [byt_len]; omega)
      rw [byt_len] at hLz
      obtain ⟨az, haz⟩ : ∃ az : Option Addr, az = some ⟨gA, 0, none⟩ := ⟨_, rfl⟩
      obtain ⟨lz, hlz⟩ : ∃ lz, lz = n3 := ⟨_, rfl⟩
      obtain ⟨zz, hzz⟩ : ∃ zz, zz = zb (byt z3 0 n3) := ⟨_, rfl⟩
      have hlz2 : lz ≤ 150000000000000 := by omega
      rw [← hzz] at hLz
      rw [← haz, ← hlz] at hLz
      rw [← haz, ← hlz]
      clear haz hlz hzz hOA h33 NC
      go_wp2_with fail
      refine (open_any az lz cA zz _ hLz hlz2).mono ?_
      rintro e w5 ⟨b5, hF⟩
      have B5 := BZ.trans (b5.mono BZ.size)
      have hL5 := hLz.below b5 (Nat.le_refl _)
      rcases hF with ⟨hne, rfl⟩ | ⟨h0, p, rfl, hp, hF⟩
      · have RO := ropen_any az lz cA zz _ hL5 hlz2
        clear hL5 hLz
        go_wp2_with fail
        refine RO.mono ?_
        rintro e w6 ⟨b6, ⟨_, rfl⟩ | ⟨hn0, _⟩⟩
        · have B6 := B5.trans (b6.mono B5.size)
          clear RO
          go_wp2_with fail
          refine (known_any _).mono ?_
          rintro e w7 ⟨rfl, b7⟩
          have B7 := B6.trans (b7.mono B6.size)
          go_wp2
          go_ret
          exact ⟨rfl, B7⟩
        · exact (hne.out hn0.out).elim
      · obtain ⟨hparts, hn64⟩ := fbv_parts h0.out
        obtain ⟨n, hn⟩ : ∃ n, Hid (cntv zz = n) := ⟨_, rfl⟩
        have RO := ropen_any az lz cA zz _ hL5 hlz2
        unfold TellsR at RO
        rw [hn.out] at hF hparts hn64 RO
        clear hL5 hLz
        go_wp2_with fail
        refine RO.mono ?_
        rintro e w6 ⟨b6, ⟨hn0, _⟩ | ⟨_, p2, rfl, t', hR, hT'⟩⟩
        · exact (hn0.out h0.out).elim
        · have B6 := B5.trans (b6.mono B5.size)
          have F6 := hF.below b6 (Nat.le_refl _)
          have N1 := ptr_no29 p
          have N2 := ptr_no40 p2
          clear RO hF
          go_wp2_with fail
          refine (known_any _).mono ?_
          rintro e w7 ⟨rfl, b7⟩
          have B7 := B6.trans (b7.mono B6.size)
          have F7 := F6.below b7 (Nat.le_refl _)
          have R7 := hR.below b7 (Nat.le_refl _)
          clear F6 hR
          go_wp2_with fail
          refine (tags_any p lz n zz _ _ _ _ F7).mono ?_
          rintro e w8 ⟨g8, rfl, hg8, S8, b8⟩
          have B8 := B7.trans (b8.mono B7.size)
          have F8 := F7.below b8 (Nat.le_refl _)
          have R8 := R7.below b8 (Nat.le_refl _)
          obtain ⟨ra, rc, rb, rd, hp8, RS8, RT8⟩ := R8.blk
          have x0 := blk_cell hp8 0
          have hrc := RS8.lc
          have hrd := RT8.lc
          simp only [List.getElem?_toArray, List.getElem?_cons_zero] at x0
          clear F7 R7
          go_wp2_with fail
          go_loopw [162] (fun i wq => ∃ k : Nat, i = .int .i64 (k : Nat) ∧ k ≤ n ∧ Below w8.heap.size w8 wq) (fun i _ => n - (intOf i).toNat)
          case atStart => exact ⟨0, rfl, by omega, Below.refl _ _⟩
          case round =>
            obtain ⟨k, rfl, hk, hB⟩ := hrel
            by_cases hkn : k < n
            · have hkn' : (k : Int) < n := by omega
              obtain ⟨hd, hfit⟩ := hparts k hkn
              have FQ := F8.below hB (Nat.le_refl _)
              obtain ⟨bq, oq, eq, hbq, hcq⟩ := S8.spot (by omega)
              simp only [Option.some.injEq, Addr.mk.injEq, and_true] at eq
              obtain ⟨rfl, rfl⟩ := eq
              have DS : ∀ W, Below w8.heap.size w8 W → W.cell? ⟨g8, k, none⟩ = some (.string (tgv zz k)) := fun W hW => by
                have := hcq k hkn
                rw [Nat.zero_add] at this
                rw [World.cell?_of_block (a := ⟨g8, k, none⟩) (hW.block g8 hbq), this]
              have TY := table_yes p lz n zz (tgv zz) (atv zz) (szv zz) (tgv zz k) k wr FQ (isF_at hkn hd) hkn hfit
              have e0 := DS wr hB
              have hs := txt_yes (x := tgv zz k) rfl
              obtain ⟨hl', hz'⟩ := hT' k hkn
              clear FQ hcq hd
              go_wp2_with fail
              refine TY.mono ?_
              rintro e w9 ⟨a9, c9, rfl, L9, b9⟩
              have B9 := hB.trans (b9.mono hB.size)
              have RS9 := RS8.below B9 (Nat.le_refl _)
              have RT9 := RT8.below B9 (Nat.le_refl _)
              have hp9 := (B9.block p2 (blk_lt hp8)).trans hp8
              have y0 := blk_cell hp9 0
              have y1 := blk_cell hp9 1
              simp only [List.getElem?_toArray, List.getElem?_cons_zero, List.getElem?_cons_succ] at y0 y1
              obtain ⟨b1', o1', rfl, hb1', hc1'⟩ := RS9.spot (by omega)
              obtain ⟨b2', o2', rfl, hb2', hc2'⟩ := RT9.spot (by omega)
              have y2 := hc1' k hkn
              have y3 := hc2' k hkn
              have y4 := DS w9 B9
              have LT := RT9.each k hkn
              rw [hz', hl'] at LT
              rw [hl'] at y3
              have cv1 : ∀ q, (convert 22 9 (.slice a9 (szv zz k) c9)).run Try.prog (w9.drewN q) = .ok (.string (bstr (fun j => zz (atv zz k + j)) (szv zz k))) (w9.drewN q) := fun q => conv_string (L9.below (below_drewN (Below.refl _ _) q) (Nat.le_refl _))
              have cv2 : ∀ q, (convert 22 9 (.slice (t' k).a (szv zz k) (t' k).c)).run Try.prog (w9.drewN q) = .ok (.string (bstr (fun j => zz (atv zz k + j)) (szv zz k))) (w9.drewN q) := fun q => conv_string (LT.below (below_drewN (Below.refl _ _) q) (Nat.le_refl _))
              clear TY e0 hc1' hc2' LT L9 RS9 RT9 hl' hz' hfit
              go_wp2_with fail
              go_quiet (fail)
              have BN := below_drewN B9 nq
              go_wp2
              exact ⟨⟨k + 1, by go_num, by omega, BN⟩, by simp [intOf]; omega⟩
            · obtain rfl : k = n := by omega
              have hkn' : ¬ (k : Int) < k := by omega
              have FQ := F8.below hB (Nat.le_refl _)
              have RQ := R8.below hB (Nat.le_refl _)
              have BQ := B8.trans (hB.mono B8.size)
              obtain ⟨r, hf⟩ := isF_ex (tgv zz) { data := #[110, 111, 110, 101] } k
              by_cases hr : r < k
              · have TY := table_yes p lz k zz (tgv zz) (atv zz) (szv zz) { data := #[110, 111, 110, 101] } r wr FQ hf hr (hparts r hr).2
                go_wp2_with fail
                refine TY.mono ?_
                rintro e w9 ⟨a9, c9, rfl, L9, b9⟩
                have RT := rtable_any p2 k (tgv zz) t' { data := #[110, 111, 110, 101] } r w9 (RQ.below b9 (Nat.le_refl _)) hf
                rw [show rtabv t' r k = _ from if_pos hr] at RT
                have B9 := BQ.trans (b9.mono BQ.size)
                clear TY
                go_wp2_with fail
                refine RT.mono ?_
                rintro e w10 ⟨rfl, rfl⟩
                go_wp2
                go_ret
                exact ⟨rfl, B9⟩
              · obtain rfl : r = k := by have := hf.le; omega
                have TN := table_no p lz r zz (tgv zz) (atv zz) (szv zz) { data := #[110, 111, 110, 101] } wr FQ hf
                go_wp2_with fail
                refine TN.mono ?_
                rintro e w9 ⟨rfl, b9⟩
                have RT := rtable_any p2 r (tgv zz) t' { data := #[110, 111, 110, 101] } r w9 (RQ.below b9 (Nat.le_refl _)) hf
                rw [show rtabv t' r r = _ from if_neg (Nat.lt_irrefl _)] at RT
                have B9 := BQ.trans (b9.mono BQ.size)
                clear TN
                go_wp2_with fail
                refine RT.mono ?_
                rintro e w10 ⟨rfl, rfl⟩
                go_wp2
                go_ret
                exact ⟨rfl, B9⟩
    · rw [HOK.out] at hno; exact absurd hno.out (by simp)
  | true =>
    have HOK : Hid (okN s K = true) := hok
    have LY := lay_yes at1 K ct1 s at2 ct2 t w1 hS hT (by omega) hok hl
    have hlen := layB_len (t := t) hok
    have hsum := sumN_le hl (Nat.le_refl K)
    have hbyt := layB_byt (s := s) (t := t) (n := K) (by omega) (fun k hk => (hG.each k hk).1.lies.byte) (fun k hk => by have := hl k hk; omega) (by have := hsum; omega)
    obtain ⟨N, hN⟩ : ∃ N, Hid ((layB s t K).length = N) := ⟨_, rfl⟩
    rw [hN.out] at LY hlen
    have hN3 : 12 ≤ N := by omega
    have hNb : N ≤ 10000 := by omega
    clear hlen hsum
    clear hok
    go_wp2_with fail
    refine LY.mono ?_
    rintro e w2 ⟨g2, cc2, rfl, hO2, b2⟩
    have B2 := b1.trans (b2.mono b1.size)
    clear LY
    go_wp2_with fail
    refine (rlay_any at1 K ct1 s at2 ct2 t w2 (hS.below b2 (Nat.le_refl _)) (hT.below b2 (Nat.le_refl _)) (by omega) hl).mono ?_
    rintro e w3 ⟨b3, ⟨hno, _⟩ | ⟨_, g3, cc3, rfl, hO3⟩⟩
    · rw [HOK.out] at hno; exact absurd hno.out (by simp)
    · have B3 := B2.trans (b3.mono B2.size)
      rw [hN.out]
      have L2 := (hO2.below b3).liesB hbyt (by rw [hN.out]; omega)
      have L3 := hO3.liesB hbyt (by rw [hN.out]; omega)
      rw [hN.out] at L2 L3
      have CV2 := conv_string L2
      have CV3 := conv_string L3
      have h33 := h3.below B3 (Nat.le_refl _)
      obtain ⟨S, hS'⟩ : ∃ S, Hid (bstr (zb (layB s t K)) N = S) := ⟨_, rfl⟩
      rw [hS'.out] at CV2 CV3
      have HL3 : Hid (Lies w3 (some ⟨g3, 0, none⟩) N cc3 (zb (layB s t K))) := L3
      clear L2 hO2 L3 hO3
      go_upto_if 81 with (go_at_call 13; refine (few_up a3 n3 c3 n3 n3 z3 _ h33 (by omega) (by omega) (by omega)).mono ?_; rintro e wA ⟨gA, cA, rfl, hOA, bA⟩)
      clear CV2 CV3 h33
      have BA := B3.trans (bA.mono B3.size)
      go_cut [21] from 22 to 123 (fun zv wx => ∃ (a : Option Addr) (l c : Nat) (zz : Nat → Nat), zv = .slice a l c ∧ Lies wx a l c zz ∧ Below w.heap.size w wx ∧ l ≤ 150000000000000)
      case first =>
        by_cases hp : 0 < h4
        · have P0 := few_up (some ⟨g3, 0, none⟩) N cc3 N N (zb (layB s t K)) wA (HL3.out.below bA (Nat.le_refl _)) (by omega) (by omega) (by omega)
          have hzb := HL3.out.byte
          go_wp2_with fail
          refine P0.mono ?_
          rintro e wB ⟨gC, cC, rfl, hOC', bB⟩
          have BC := BA.trans (bB.mono BA.size)
          have hOC : Own wB w.heap.size 5 .u8 gC cC (byt (zb (layB s t K)) 0 N) := hOC'.mono (Nat.le_trans BA.size (Nat.le_refl _))
          have hbC : Hid (Byt (byt (zb (layB s t K)) 0 N)) := byt_of hzb
          have hlC : Hid ((byt (zb (layB s t K)) 0 N).length = N) := byt_len _ _ _
          clear P0 hOC' bB
          go_wp2_with fail
          go_loopw [22] (fun v wq => ∃ (i : Nat) (ys : List Int), i ≤ 2 ∧ v = .int .i64 (i : Nat) ∧ Own wq w.heap.size 5 .u8 gC cC ys ∧ Hid (ys.length = N) ∧ Hid (Byt ys) ∧ Below w.heap.size w wq) (fun v _ => 2 - (intOf v).toNat)
          case atStart => exact ⟨0, _, by omega, rfl, hOC, hlC, hbC, BC⟩
          case round =>
            clear hOC hbC hlC BC
            obtain ⟨i, ys, hi2, rfl, hO, hl', hb, hB⟩ := hrel
            obtain ⟨NN, hNN⟩ : ∃ NN : Nat, ((N : Nat) : Int) + 1 = (NN : Nat) := ⟨N + 1, rfl⟩
            obtain ⟨k, hk⟩ : ∃ k, Hid (pickv cut NN = k) := ⟨_, rfl⟩
            have hkN : k ≤ N := by rw [← hk.out]; have := pickv_lt cut NN (by omega); omega
            have P3 : ∀ W, Calls Try.prog 14 #[.int .i64 cut, .int .i64 (NN : Nat)] W fun e w' => e = .returned (.int .i64 (k : Nat)) ∧ w' = W := fun W => by rw [← hk.out]; exact pick_big cut NN (by omega) (by omega) W
            by_cases q : i < n4 ∧ i < 2 ∧ 1 < h4
            · obtain ⟨q1, q2, q3⟩ := q
              have q1' : (i : Int) < n4 := by omega
              have q2' : (i : Int) < 2 := by omega
              obtain ⟨b3', o3, rfl, hb3, hc3⟩ := hI.spot (by omega)
              have cI : wr.cell? ⟨b3', o3 + i, none⟩ = some (.int .i64 (f4 i)) := by
                rw [World.cell?_of_block (a := ⟨b3', o3 + i, none⟩) (hB.block b3' hb3)]; exact hc3 i q1
              obtain ⟨p, hp'⟩ : ∃ k, Hid (pickv (f4 i) N = k) := ⟨_, rfl⟩
              have hpN : p < N := by rw [← hp'.out]; exact pickv_lt (f4 i) N (by omega)
              have P4 : ∀ W, Calls Try.prog 14 #[.int .i64 (f4 i), .int .i64 (N : Nat)] W fun e w' => e = .returned (.int .i64 (p : Nat)) ∧ w' = W := fun W => by rw [← hp'.out]; exact pick_big (f4 i) N (by omega) (by omega) W
              obtain ⟨v, hv⟩ : ∃ v : Nat, Hid (ys.getD p 0 = (v : Nat)) := ⟨(ys.getD p 0).toNat, by show _ = _; have := hb.out p; omega⟩
              have hv256 : v < 256 := by have := hb.out p; rw [hv.out] at this; omega
              obtain ⟨X, hX, hX256, _⟩ := xor_u8 v y hv256 hy
              have cell := hO.cell (j := p) (by rw [hl'.out]; omega)
              rw [hv.out] at cell
              have fr := hO.free p
              have hpN' : (p : Int) < N := by omega
              have hO2 : Own (wr.setCell ⟨gC, p, none⟩ (.int .u8 (X : Nat))) w.heap.size 5 .u8 gC cC (ys.set p ((X : Nat) : Int)) := hO.set p ((X : Nat) : Int)
              have hB2 : Below w.heap.size w (wr.setCell ⟨gC, p, none⟩ (.int .u8 (X : Nat))) := hB.setCell (p := ⟨gC, p, none⟩) hO.lt.1 _
              have hb2 : Hid (Byt (ys.set p ((X : Nat) : Int))) := byt_set hb.out p X hX256
              have hl2 : Hid ((ys.set p ((X : Nat) : Int)).length = N) := by show _ = _; rw [List.length_set, hl'.out]
              obtain ⟨w2', hw2⟩ : ∃ W, W = wr.setCell ⟨gC, p, none⟩ (.int .u8 (X : Nat)) := ⟨_, rfl⟩
              rw [← hw2] at hO2 hB2
              have HO2 : Hid (Own w2' w.heap.size 5 .u8 gC cC (ys.set p ((X : Nat) : Int))) := hO2
              have HB2 : Hid (Below w.heap.size w w2') := hB2
              have HW2 : Hid (w2' = _) := hw2
              clear hc3 hO2 hB2 hw2 hO hB P3 hNN
              go_wp2_with (first
                | (go_at_call 14; refine (P4 _).mono ?_; rintro e w' ⟨rfl, rfl⟩)
                | (rw [← HW2.out]))
              exact ⟨⟨i + 1, _, by omega, by go_num, HO2.out, hl2, hb2, HB2.out⟩, by simp [intOf]; omega⟩
            · have HZ : Hid (∀ (g' : Nat) (W : World), Own W w.heap.size 5 .u8 gC cC ys → Lies W (some ⟨gC, 0, none⟩) N cC (zb ys)) := fun _ W hh => by
                have := hh.liesB hb.out (by rw [hl'.out]; omega)
                rwa [hl'.out] at this
              have HZ2 : Hid (∀ W : World, Own W w.heap.size 5 .u8 gC cC ys → Lies W (some ⟨gC, 0, none⟩) k cC (zb (ys.take k))) := fun W hh => by
                have hkl : k ≤ ys.length := by rw [hl'.out]; omega
                have := (hh.take hkl).liesB (byt_take hb.out k) (by rw [List.length_take, hl'.out]; omega)
                rwa [List.length_take, hl'.out, Nat.min_eq_left hkN] at this
              have hkc : (k : Int) ≤ cC := by have := hO.lc; have := hl'.out; omega
              have HOO : Hid (Own wr w.heap.size 5 .u8 gC cC ys) := hO
              have hp4 : h4 < 4 := by rw [← hh4]; exact Int.tmod_lt_of_pos how (by omega)
              clear hO
              by_cases q1 : i < n4
              · by_cases q2 : i < 2
                · have q1' : (i : Int) < n4 := by omega
                  have q2' : (i : Int) < 2 := by omega
                  have q3 : ¬ 1 < h4 := fun e => q ⟨q1, q2, e⟩
                  have c4 : h4 = 1 := by omega
                  have c4b : (h4 == 3) = false := by rw [beq_eq_false_iff_ne]; omega
                  clear q c4 P3
                  go_wp2_with fail
                  go_meet
                  case rel => exact ⟨_, _, _, _, rfl, HZ.out 0 _ HOO.out, hB, by omega⟩
                · have q1' : (i : Int) < n4 := by omega
                  have q2' : ¬ (i : Int) < 2 := by omega
                  by_cases c4 : h4 = 3
                  · have c4b : (h4 == 3) = true := by rw [beq_iff_eq]; exact c4
                    clear q c4
                    go_wp2_with (first
                      | (go_at_call 14; refine (P3 _).mono ?_; rintro e w' ⟨rfl, rfl⟩))
                    go_meet
                    case rel => exact ⟨_, _, _, _, rfl, HZ2.out _ HOO.out, hB, by omega⟩
                  · have c4b : (h4 == 3) = false := by rw [beq_eq_false_iff_ne]; exact c4
                    clear q c4 P3
                    go_wp2_with fail
                    go_meet
                    case rel => exact ⟨_, _, _, _, rfl, HZ.out 0 _ HOO.out, hB, by omega⟩
              · have q1' : ¬ (i : Int) < n4 := by omega
                by_cases c4 : h4 = 3
                · have c4b : (h4 == 3) = true := by rw [beq_iff_eq]; exact c4
                  clear q c4
                  go_wp2_with (first
                    | (go_at_call 14; refine (P3 _).mono ?_; rintro e w' ⟨rfl, rfl⟩))
                  go_meet
                  case rel => exact ⟨_, _, _, _, rfl, HZ2.out _ HOO.out, hB, by omega⟩
                · have c4b : (h4 == 3) = false := by rw [beq_eq_false_iff_ne]; exact c4
                  clear q c4 P3
                  go_wp2_with fail
                  go_meet
                  case rel => exact ⟨_, _, _, _, rfl, HZ.out 0 _ HOO.out, hB, by omega⟩
        · have hLA := hOA.liesB (byt_of h3.byte) (by rw [byt_len]; omega)
          rw [byt_len] at hLA
          have HLA : Hid (Lies wA (some ⟨gA, 0, none⟩) n3 cA (zb (byt z3 0 n3))) := hLA
          clear hLA hOA
          go_wp2
          go_meet
          case rel => exact ⟨_, _, _, _, rfl, HLA.out, BA, by omega⟩
      case rest =>
        obtain ⟨az, lz, cA, zz, rfl, hLz, BZ, hlz2⟩ := hcut
        go_wp2_with fail
        refine (open_any az lz cA zz _ hLz hlz2).mono ?_
        rintro e w5 ⟨b5, hF⟩
        have B5 := BZ.trans (b5.mono BZ.size)
        have hL5 := hLz.below b5 (Nat.le_refl _)
        rcases hF with ⟨hne, rfl⟩ | ⟨h0, p, rfl, hp, hF⟩
        · have RO := ropen_any az lz cA zz _ hL5 hlz2
          clear hL5 hLz
          go_wp2_with fail
          refine RO.mono ?_
          rintro e w6 ⟨b6, ⟨_, rfl⟩ | ⟨hn0, _⟩⟩
          · have B6 := B5.trans (b6.mono B5.size)
            clear RO
            go_wp2_with fail
            refine (known_any _).mono ?_
            rintro e w7 ⟨rfl, b7⟩
            have B7 := B6.trans (b7.mono B6.size)
            go_wp2
            go_ret
            exact ⟨rfl, B7⟩
          · exact (hne.out hn0.out).elim
        · obtain ⟨hparts, hn64⟩ := fbv_parts h0.out
          obtain ⟨n, hn⟩ : ∃ n, Hid (cntv zz = n) := ⟨_, rfl⟩
          have RO := ropen_any az lz cA zz _ hL5 hlz2
          unfold TellsR at RO
          rw [hn.out] at hF hparts hn64 RO
          clear hL5 hLz
          go_wp2_with fail
          refine RO.mono ?_
          rintro e w6 ⟨b6, ⟨hn0, _⟩ | ⟨_, p2, rfl, t', hR, hT'⟩⟩
          · exact (hn0.out h0.out).elim
          · have B6 := B5.trans (b6.mono B5.size)
            have F6 := hF.below b6 (Nat.le_refl _)
            have N1 := ptr_no29 p
            have N2 := ptr_no40 p2
            clear RO hF
            go_wp2_with fail
            refine (known_any _).mono ?_
            rintro e w7 ⟨rfl, b7⟩
            have B7 := B6.trans (b7.mono B6.size)
            have F7 := F6.below b7 (Nat.le_refl _)
            have R7 := hR.below b7 (Nat.le_refl _)
            clear F6 hR
            go_wp2_with fail
            refine (tags_any p lz n zz _ _ _ _ F7).mono ?_
            rintro e w8 ⟨g8, rfl, hg8, S8, b8⟩
            have B8 := B7.trans (b8.mono B7.size)
            have F8 := F7.below b8 (Nat.le_refl _)
            have R8 := R7.below b8 (Nat.le_refl _)
            obtain ⟨ra, rc, rb, rd, hp8, RS8, RT8⟩ := R8.blk
            have x0 := blk_cell hp8 0
            have hrc := RS8.lc
            have hrd := RT8.lc
            simp only [List.getElem?_toArray, List.getElem?_cons_zero] at x0
            clear F7 R7
            go_wp2_with fail
            go_loopw [162] (fun i wq => ∃ k : Nat, i = .int .i64 (k : Nat) ∧ k ≤ n ∧ Below w8.heap.size w8 wq) (fun i _ => n - (intOf i).toNat)
            case atStart => exact ⟨0, rfl, by omega, Below.refl _ _⟩
            case round =>
              obtain ⟨k, rfl, hk, hB⟩ := hrel
              by_cases hkn : k < n
              · have hkn' : (k : Int) < n := by omega
                obtain ⟨hd, hfit⟩ := hparts k hkn
                have FQ := F8.below hB (Nat.le_refl _)
                obtain ⟨bq, oq, eq, hbq, hcq⟩ := S8.spot (by omega)
                simp only [Option.some.injEq, Addr.mk.injEq, and_true] at eq
                obtain ⟨rfl, rfl⟩ := eq
                have DS : ∀ W, Below w8.heap.size w8 W → W.cell? ⟨g8, k, none⟩ = some (.string (tgv zz k)) := fun W hW => by
                  have := hcq k hkn
                  rw [Nat.zero_add] at this
                  rw [World.cell?_of_block (a := ⟨g8, k, none⟩) (hW.block g8 hbq), this]
                have TY := table_yes p lz n zz (tgv zz) (atv zz) (szv zz) (tgv zz k) k wr FQ (isF_at hkn hd) hkn hfit
                have e0 := DS wr hB
                have hs := txt_yes (x := tgv zz k) rfl
                obtain ⟨hl', hz'⟩ := hT' k hkn
                clear FQ hcq hd
                go_wp2_with fail
                refine TY.mono ?_
                rintro e w9 ⟨a9, c9, rfl, L9, b9⟩
                have B9 := hB.trans (b9.mono hB.size)
                have RS9 := RS8.below B9 (Nat.le_refl _)
                have RT9 := RT8.below B9 (Nat.le_refl _)
                have hp9 := (B9.block p2 (blk_lt hp8)).trans hp8
                have y0 := blk_cell hp9 0
                have y1 := blk_cell hp9 1
                simp only [List.getElem?_toArray, List.getElem?_cons_zero, List.getElem?_cons_succ] at y0 y1
                obtain ⟨b1', o1', rfl, hb1', hc1'⟩ := RS9.spot (by omega)
                obtain ⟨b2', o2', rfl, hb2', hc2'⟩ := RT9.spot (by omega)
                have y2 := hc1' k hkn
                have y3 := hc2' k hkn
                have y4 := DS w9 B9
                have LT := RT9.each k hkn
                rw [hz', hl'] at LT
                rw [hl'] at y3
                have cv1 : ∀ q, (convert 22 9 (.slice a9 (szv zz k) c9)).run Try.prog (w9.drewN q) = .ok (.string (bstr (fun j => zz (atv zz k + j)) (szv zz k))) (w9.drewN q) := fun q => conv_string (L9.below (below_drewN (Below.refl _ _) q) (Nat.le_refl _))
                have cv2 : ∀ q, (convert 22 9 (.slice (t' k).a (szv zz k) (t' k).c)).run Try.prog (w9.drewN q) = .ok (.string (bstr (fun j => zz (atv zz k + j)) (szv zz k))) (w9.drewN q) := fun q => conv_string (LT.below (below_drewN (Below.refl _ _) q) (Nat.le_refl _))
                clear TY e0 hc1' hc2' LT L9 RS9 RT9 hl' hz' hfit
                go_wp2_with fail
                go_quiet (fail)
                have BN := below_drewN B9 nq
                go_wp2
                exact ⟨⟨k + 1, by go_num, by omega, BN⟩, by simp [intOf]; omega⟩
              · obtain rfl : k = n := by omega
                have hkn' : ¬ (k : Int) < k := by omega
                have FQ := F8.below hB (Nat.le_refl _)
                have RQ := R8.below hB (Nat.le_refl _)
                have BQ := B8.trans (hB.mono B8.size)
                obtain ⟨r, hf⟩ := isF_ex (tgv zz) { data := #[110, 111, 110, 101] } k
                by_cases hr : r < k
                · have TY := table_yes p lz k zz (tgv zz) (atv zz) (szv zz) { data := #[110, 111, 110, 101] } r wr FQ hf hr (hparts r hr).2
                  go_wp2_with fail
                  refine TY.mono ?_
                  rintro e w9 ⟨a9, c9, rfl, L9, b9⟩
                  have RT := rtable_any p2 k (tgv zz) t' { data := #[110, 111, 110, 101] } r w9 (RQ.below b9 (Nat.le_refl _)) hf
                  rw [show rtabv t' r k = _ from if_pos hr] at RT
                  have B9 := BQ.trans (b9.mono BQ.size)
                  clear TY
                  go_wp2_with fail
                  refine RT.mono ?_
                  rintro e w10 ⟨rfl, rfl⟩
                  go_wp2
                  go_ret
                  exact ⟨rfl, B9⟩
                · obtain rfl : r = k := by have := hf.le; omega
                  have TN := table_no p lz r zz (tgv zz) (atv zz) (szv zz) { data := #[110, 111, 110, 101] } wr FQ hf
                  go_wp2_with fail
                  refine TN.mono ?_
                  rintro e w9 ⟨rfl, b9⟩
                  have RT := rtable_any p2 r (tgv zz) t' { data := #[110, 111, 110, 101] } r w9 (RQ.below b9 (Nat.le_refl _)) hf
                  rw [show rtabv t' r r = _ from if_neg (Nat.lt_irrefl _)] at RT
                  have B9 := BQ.trans (b9.mono BQ.size)
                  clear TN
                  go_wp2_with fail
                  refine RT.mono ?_
                  rintro e w10 ⟨rfl, rfl⟩
                  go_wp2
                  go_ret
                  exact ⟨rfl, B9⟩
end Go.Proofs.Ytdmfammajggfpaa
