/-
  The reference's font: Table and Open as contracts.
-/
import Derived.Test.YtninhcnpjadjpaaRly
import Derived.Test.YtninhcnpjadjpaaOpn
import Derived.Test.YtninhcnpjadjpaaSeg
namespace Go.Proofs.Ytninhcnpjadjpaa
open Go.RowKit

/-- What the reference's Table answers. -/
def rtabv (t : Nat → Tab) (r n : Nat) : Value := if r < n then .tuple #[.slice (t r).a (t r).l (t r).c, .bool true] else .tuple #[.slice none 0 0, .bool false]
set_option maxHeartbeats 800000 in
theorem rtable_any (p n : Nat) (tg : Nat → ByteArray) (t : Nat → Tab) (u : ByteArray) (r : Nat) (w : World) (h : RFnt w p n tg t) (hf : IsF tg n u r) :
    Calls Try.prog 26 #[.pointer (some ⟨p, 0, none⟩), .string u] w fun e w' => e = .returned (rtabv t r n) ∧ w' = w := by
  obtain ⟨a, c, a2, c2, hp, hS, hT⟩ := h.blk
  have hle := hf.le
  have hlc := hS.lc
  have hlc2 := hT.lc
  have hr := hS.reach
  have k0 := blk_cell hp 0
  have k1 := blk_cell hp 1
  simp only [List.getElem?_toArray, List.getElem?_cons_zero, List.getElem?_cons_succ] at k0 k1
  go_enter Try.func26, Try.ntmps26
  go_wp2_with fail
  go_loopw [6] (fun i wq => ∃ k : Nat, i = .int .i64 (k : Nat) ∧ k ≤ r ∧ wq = w) (fun i _ => n - (intOf i).toNat)
  case atStart => exact ⟨0, rfl, by omega, rfl⟩
  case round =>
    obtain ⟨k, rfl, hk, rfl⟩ := hrel
    by_cases hkn : k < n
    · have hkn' : (k : Int) < n := by omega
      obtain ⟨b, off, rfl, hb, hc⟩ := hS.spot (by omega)
      obtain ⟨b2, off2, rfl, hb2, hc2⟩ := hT.spot (by omega)
      have d0 := hc k hkn
      have d1 := hc2 k hkn
      by_cases he : k = r
      · have hs := txt_yes (x := tg k) (y := u) (by rw [he]; exact hf.yes (by omega))
        have HP : Hid (rtabv t r n = .tuple #[.slice (t k).a (t k).l (t k).c, .bool true]) := by show _ = _; unfold rtabv; rw [← he, if_pos hkn]
        clear hc hc2 hf he hS hT h hp
        go_wp2
        go_ret2
        exact ⟨by rw [HP.out]; rfl, rfl⟩
      · have hs := txt_no (x := tg k) (y := u) (hf.no k (by omega))
        clear hc hc2
        go_wp2
        exact ⟨⟨k + 1, by go_num, by omega, by trivial⟩, by simp [intOf]; omega⟩
    · have hkn' : ¬ (k : Int) < n := by omega
      have HP : Hid (rtabv t r n = .tuple #[.slice none 0 0, .bool false]) := by show _ = _; unfold rtabv; rw [if_neg (by omega)]
      clear hS hT h hp hf
      go_wp2
      go_ret2
      exact ⟨by rw [HP.out]; rfl, rfl⟩

/-- All blocks of bytes are as they were. -/
structure Same5 (w w' : World) : Prop where
  size : w.heap.size ≤ w'.heap.size
  blk : ∀ (q : Nat) (c : Array Value), w.heap[q]? = some (.cells c 5) → w'.heap[q]? = some (.cells c 5)
theorem Same5.refl (w : World) : Same5 w w := ⟨Nat.le_refl _, fun _ _ h => h⟩
theorem Same5.trans {a b c : World} (h : Same5 a b) (k : Same5 b c) : Same5 a c := ⟨Nat.le_trans h.size k.size, fun q x hq => k.blk q x (h.blk q x hq)⟩
theorem Same5.of_below {w w' : World} (h : Below w.heap.size w w') : Same5 w w' := ⟨h.size, fun q _ hq => (h.block q (blk_lt hq)).trans hq⟩
/-- Bytes that lie in a block of bytes. -/
structure Lies5 (w : World) (t : Tab) : Prop where
  lies : Lies w t.a t.l t.c t.z
  blk : ∀ b off sp, t.a = some ⟨b, off, sp⟩ → ∃ c, w.heap[b]? = some (.cells c 5)
theorem Lies5.same {w w' : World} {t : Tab} (h : Lies5 w t) (hs : Same5 w w') : Lies5 w' t := by
  refine ⟨⟨h.lies.lc, h.lies.reach, h.lies.byte, fun h0 => ?_⟩, fun b off sp e => ?_⟩
  · obtain ⟨b, off, e, hb, hc⟩ := h.lies.spot h0
    obtain ⟨c, hq⟩ := h.blk b off _ e
    have hq' := hs.blk b c hq
    exact ⟨b, off, e, blk_lt hq', fun i hi => by
      have := hc i hi
      rw [World.cell?_of_block (a := ⟨b, off + i, none⟩) (hq'.trans hq.symm)]
      exact this⟩
  · obtain ⟨c, hq⟩ := h.blk b off sp e
    exact ⟨c, hs.blk b c hq⟩
theorem same5_set {w : World} {p : Nat} {c : Array Value} {e : TypeId} {fr : Nat × Nat} (h : w.heap[p]? = some (.cells c e fr)) (he : e ≠ 5) (i : Nat) (v : Value) : Same5 w (w.setCell ⟨p, i, none⟩ v) :=
  ⟨by simp, fun q x hq => by
    rw [blk_other _ (fun e' => by subst e'; rw [hq] at h; cases h; exact he rfl)]
    exact hq⟩
theorem same5_app {w w' : World} {base : Nat} {e : TypeId} {size : Nat} {v : Value} {n : Nat} {xs : List Value} (h : w.ownsRow base e size v n xs) (he : e ≠ 5) (hs : w.heap.size ≤ w'.heap.size) (hb : ∀ q, q < w.heap.size → v.ownBlock ≠ some q → w'.heap[q]? = w.heap[q]?) : Same5 w w' :=
  ⟨hs, fun q x hq => by
    rw [hb q (blk_lt hq) (fun e' => by
      rcases h.2 with ⟨rfl, _⟩ | ⟨g, cap, cur, rfl, _, h2, _⟩
      · simp [Value.ownBlock] at e'
      · simp only [Value.ownBlock, Option.some.injEq] at e'
        subst e'
        rw [hq] at h2; cases h2; exact he rfl)]
    exact hq⟩
theorem ownr_blk_of {w : World} {base : Nat} {e : TypeId} {size : Nat} {v : Value} {n : Nat} {xs : List Value} (h : w.ownsRow base e size v n xs) {q : Nat} (hq : v.ownBlock = some q) : ∃ c, w.heap[q]? = some (.cells c e) := by
  rcases h.2 with ⟨rfl, _⟩ | ⟨g, cap, cur, rfl, _, h2, _⟩
  · simp [Value.ownBlock] at hq
  · simp only [Value.ownBlock, Option.some.injEq] at hq
    subst hq
    exact ⟨cur, h2⟩
/-- The tables with one more. -/
def tabU (t : Nat → Tab) (k : Nat) (T : Tab) : Nat → Tab := fun i => if i = k then T else t i
theorem tabU_at (t : Nat → Tab) (k : Nat) (T : Tab) : tabU t k T k = T := if_pos rfl
theorem tabU_old (t : Nat → Tab) {k : Nat} (T : Tab) {i : Nat} (h : i < k) : tabU t k T i = t i := if_neg (by omega)
theorem tabU_cells (t : Nat → Tab) (k : Nat) (T : Tab) : ((List.range (k + 1)).map fun i => Value.slice (tabU t k T i).a (tabU t k T i).l (tabU t k T i).c) = ((List.range k).map fun i => Value.slice (t i).a (t i).l (t i).c) ++ [.slice T.a T.l T.c] := by
  rw [range_snoc, tabU_at]
  congr 1
  exact List.map_congr_left fun i hi => by rw [tabU_old t T (List.mem_range.1 hi)]

/-- What the reference's Open answers. -/
def TellsR (z : Nat → Nat) (len : Nat) (w : World) (e : Ending) (w' : World) : Prop :=
  Below w.heap.size w w' ∧ ((Hid (opnv z len ≠ 0) ∧ e = .returned (.tuple #[.pointer none, .int .i64 (opnv z len : Nat)])) ∨
    (Hid (opnv z len = 0) ∧ ∃ p, e = .returned (.tuple #[.pointer (some ⟨p, 0, none⟩), .int .i64 0]) ∧ ∃ t, RFnt w' p (cntv z) (tgv z) t ∧ ∀ i, i < cntv z → (t i).l = szv z i ∧ (t i).z = fun j => z (atv z i + j)))
theorem rnum_yes (a : Option Addr) (len cap : Nat) (z : Nat → Nat) (p k : Nat) (w : World) (h : Lies w a len cap z) (hk0 : 0 < k) (hk : k ≤ 4) (hp : p + k ≤ len) :
    Calls Try.prog 27 #[.slice a len cap, .int .i64 (p : Nat), .int .i64 (k : Nat)] w fun e w' => e = .returned (.tuple #[.int .i64 (numv z p k : Nat), .bool true]) ∧ w' = w := by
  have hr := h.reach
  have ht : there len (p : Int) (k : Int) = true := there_iff.2 ⟨by omega, by omega, by omega⟩
  have e1 : tell z len p k = (numv z p k : Nat) := by unfold tell; rw [if_pos ht, Int.toNat_natCast]
  have := num_any a len cap z p k w h (by omega) hk0 hk
  rwa [e1, ht] at this
theorem markB_iff {s : ByteArray} (h : markB s = true) : s.toList = [0, 1, 0, 0] ∨ s.toList = [79, 84, 84, 79] ∨ s.toList = [116, 114, 117, 101] := by
  unfold markB at h
  simpa [or_assoc] using h
theorem markB_no {s : ByteArray} (h : markB s = false) : ¬ s.toList = [0, 1, 0, 0] ∧ ¬ s.toList = [79, 84, 84, 79] ∧ ¬ s.toList = [116, 114, 117, 101] := by
  unfold markB at h
  simpa [and_assoc] using h

set_option maxRecDepth 100000 in
set_option maxHeartbeats 6400000 in
theorem ropen_any (a : Option Addr) (len cap : Nat) (z : Nat → Nat) (w : World) (h : Lies w a len cap z) (hl : len ≤ 150000000000000) :
    Calls Try.prog 24 #[.slice a len cap] w (TellsR z len w) := by
  have hlc := h.lc
  have hr := h.reach
  by_cases h12 : len < 12
  · have h12' : (len : Int) < 12 := by omega
    have HO : Hid (opnv z len = 3) := by show _ = _; unfold opnv; rw [if_pos h12]
    go_enter Try.func24, Try.ntmps24
    go_wp2
    go_ret2
    exact ⟨Below.refl _ _, .inl ⟨by show _ ≠ _; rw [HO.out]; omega, by rw [HO.out]; rfl⟩⟩
  · have h12' : ¬ (len : Int) < 12 := by omega
    obtain ⟨b, off, rfl, hb, hc⟩ := h.spot (by omega)
    have h4 : Lies w (some ⟨b, off, none⟩) 4 cap z := ⟨by omega, by omega, h.byte, fun _ => ⟨b, off, rfl, hb, fun i hi => hc i (by omega)⟩⟩
    have HS := conv_string h4
    have hc4 : (4 : Int) ≤ cap := by omega
    obtain ⟨S, hS⟩ : ∃ S, Hid (bstr z 4 = S) := ⟨_, rfl⟩
    rw [hS.out] at HS
    cases hmk : markB S with
    | false =>
      obtain ⟨m1, m2, m3⟩ := markB_no hmk
      have e1 : (S.toList == [0, 1, 0, 0]) = false := beq_eq_false_iff_ne.2 m1
      have e2 : (S.toList == [79, 84, 84, 79]) = false := beq_eq_false_iff_ne.2 m2
      have e3 : (S.toList == [116, 114, 117, 101]) = false := beq_eq_false_iff_ne.2 m3
      have HO : Hid (opnv z len = 2) := by show _ = _; unfold opnv; rw [if_neg h12, hS.out, if_pos hmk]
      clear hc h4 hmk
      go_enter Try.func24, Try.ntmps24
      go_wp2
      go_ret2
      exact ⟨Below.refl _ _, .inl ⟨by show _ ≠ _; rw [HO.out]; omega, by rw [HO.out]; rfl⟩⟩
    | true =>
      have HO : Hid (opnv z len = if 64 < cntv z then 4 else recE z len (cntv z)) := by
        show _ = _; unfold opnv recE; rw [if_neg h12, hS.out, hmk, if_neg (by simp)]
      have N1 := rnum_yes (some ⟨b, off, none⟩) len cap z 4 2 w h (by omega) (by omega) (by omega)
      have hn := numv_lt4 z h.byte 4 2 (by omega)
      have hcv : cntv z = numv z 4 2 := rfl
      rw [← hcv] at N1 hn
      have HM : Hid (markB S = true) := hmk
      clear hcv hc h4 hmk
      rcases markB_iff HM.out with hm | hm | hm
      all_goals
        by_cases h64 : 64 < cntv z
        · have h64' : (64 : Int) < cntv z := by omega
          have HO2 : Hid (opnv z len = 4) := by show _ = _; rw [HO.out, if_pos h64]
          obtain ⟨N, hN⟩ : ∃ N, Hid (cntv z = N) := ⟨_, rfl⟩
          rw [hN.out] at N1 hn h64'
          clear h64
          go_enter Try.func24, Try.ntmps24
          go_wp2_with fail
          refine N1.mono ?_
          rintro e w' ⟨rfl, rfl⟩
          go_wp2
          go_ret2
          exact ⟨Below.refl _ _, .inl ⟨by show _ ≠ _; rw [HO2.out]; omega, by rw [HO2.out]; rfl⟩⟩
        · have h64' : ¬ (64 : Int) < cntv z := by omega
          have HO2 : Hid (opnv z len = recE z len (cntv z)) := by show _ = _; rw [HO.out, if_neg h64]
          by_cases hsh : len < 12 + 16 * cntv z
          · have HO3 : Hid (opnv z len = 3) := by show _ = _; rw [HO2.out]; unfold recE; rw [if_pos hsh]
            obtain ⟨N, hN⟩ : ∃ N, Hid (cntv z = N) := ⟨_, rfl⟩
            have hsh' : (len : Int) < 12 + 16 * (cntv z : Nat) := by omega
            rw [hN.out] at N1 hn h64' hsh'
            clear h64 hsh
            go_enter Try.func24, Try.ntmps24
            go_wp2_with fail
            refine N1.mono ?_
            rintro e w' ⟨rfl, rfl⟩
            go_wp2
            go_ret2
            exact ⟨Below.refl _ _, .inl ⟨by show _ ≠ _; rw [HO3.out]; omega, by rw [HO3.out]; rfl⟩⟩
          · have HO3 : Hid (opnv z len = fbv z len (cntv z)) := by show _ = _; rw [HO2.out]; unfold recE; rw [if_neg hsh]
            have hsh' : ¬ (len : Int) < 12 + 16 * (cntv z : Nat) := by omega
            obtain ⟨n, hN⟩ : ∃ N, Hid (cntv z = N) := ⟨_, rfl⟩
            rw [hN.out] at N1 hn h64' hsh' HO3 h64 hsh
            unfold TellsR
            rw [hN.out]
            obtain ⟨p, hp⟩ : ∃ p, p = w.heap.size := ⟨_, rfl⟩
            obtain ⟨w1, hw1⟩ : ∃ w1, w1 = w.alloc (.cells #[.slice none 0 0, .slice none 0 0] 79) := ⟨_, rfl⟩
            have hpB : p < w1.heap.size := by rw [hw1, hp]; simp
            have b1 : Below w.heap.size w w1 := by rw [hw1]; exact (Below.refl _ _).alloc (Nat.le_refl _) _
            have P1 : w1.heap[p]? = some (.cells #[.slice none 0 0, .slice none 0 0] 79) := by rw [hw1, hp]; exact blk_new _ _
            have HP : Hid (p = w.heap.size) := hp
            have HW1 : Hid (w1 = _) := hw1
            clear hp hw1
            go_enter Try.func24, Try.ntmps24
            go_wp2_with fail
            refine N1.mono ?_
            rintro e w' ⟨rfl, rfl⟩
            go_wp2_with fail
            rw [← HW1.out, ← HP.out]
            go_loopw [8] (fun i wq => ∃ (k : Nat) (v1 v2 : Value) (t : Nat → Tab), i = .int .i64 (k : Nat) ∧ k ≤ n ∧ wq.heap[p]? = some (.cells #[v1, v2] 79) ∧ wq.ownsRow w1.heap.size 9 1 v1 k ((List.range k).map fun i => .string (tgv z i)) ∧ wq.ownsRow w1.heap.size 29 1 v2 k ((List.range k).map fun i => .slice (t i).a (t i).l (t i).c) ∧ Hid (∀ i, i < k → Lies5 wq (t i) ∧ (t i).l = szv z i ∧ (t i).z = fun j => z (atv z i + j)) ∧ Below w'.heap.size w' wq ∧ w1.heap.size ≤ wq.heap.size ∧ Hid (∀ j, j < k → chkv z len j = 0)) (fun i _ => n - (intOf i).toNat)
            case atStart => exact ⟨0, _, _, fun _ => ⟨none, 0, 0, fun _ => 0⟩, rfl, by omega, P1, World.ownsRow_nil _ _ _ _, World.ownsRow_nil _ _ _ _, fun i hi => by omega, b1, Nat.le_refl _, fun j hj => by omega⟩
            case round =>
              obtain ⟨k, v1, v2, t, rfl, hk, hP, hO1, hO2, hT, hB, hsz, hch⟩ := hrel
              by_cases hkn : k < n
              · have hkn' : (k : Int) < n := by omega
                have LB := h.below hB (Nat.le_refl _)
                have hne : ¬ cap = 12 + 16 * k := by omega
                have hc28 : (28 : Int) + 16 * k ≤ cap := by omega
                have LP : Lies wr (some ⟨b, off + (12 + 16 * k), none⟩) (28 + 16 * k - (12 + 16 * k)) (cap - (12 + 16 * k)) (fun i => z (12 + 16 * k + i)) := lies_part LB (by omega) (by omega)
                have N8 : Calls Try.prog 27 #[.slice (some ⟨b, off + (12 + 16 * k), none⟩) (28 + 16 * k - (12 + 16 * k)) (cap - (12 + 16 * k)), .int .i64 8, .int .i64 4] wr fun e w' => e = .returned (.tuple #[.int .i64 (atv z k : Nat), .bool true]) ∧ w' = wr := by
                  have := rnum_yes _ _ _ _ 8 4 wr LP (by omega) (by omega) (by omega)
                  rw [numv_from] at this
                  exact this
                have N12 : Calls Try.prog 27 #[.slice (some ⟨b, off + (12 + 16 * k), none⟩) (28 + 16 * k - (12 + 16 * k)) (cap - (12 + 16 * k)), .int .i64 12, .int .i64 4] wr fun e w' => e = .returned (.tuple #[.int .i64 (szv z k : Nat), .bool true]) ∧ w' = wr := by
                  have := rnum_yes _ _ _ _ 12 4 wr LP (by omega) (by omega) (by omega)
                  rw [numv_from] at this
                  exact this
                have HL4 : Hid (Lies w' (some ⟨b, off + (12 + 16 * k), none⟩) 4 (cap - (12 + 16 * k)) (fun i => z (12 + 16 * k + i))) := lies_part h (by omega) (by omega)
                have HCV := conv_string (HL4.out.below hB (Nat.le_refl _))
                have hc4k : (4 : Int) ≤ ((cap - (12 + 16 * k) : Nat) : Int) := by omega
                have a1 : atv z k < 4294967296 := numv_lt4 z h.byte (12 + 16 * k + 8) 4 (by omega)
                have a2 : szv z k < 4294967296 := numv_lt4 z h.byte (12 + 16 * k + 12) 4 (by omega)
                have HC : Hid (chkv z len k = if hadn (tgv z) (tgv z k) k = true then 2 else if atv z k + szv z k ≤ len then 0 else 3) := rfl
                have HTG : Hid (bstr (fun i => z (12 + 16 * k + i)) 4 = tgv z k) := rfl
                rw [HTG.out] at HCV
                obtain ⟨T, hTT⟩ : ∃ T, Hid (tgv z k = T) := ⟨_, rfl⟩
                have HT : Hid (bstr (fun i => z (12 + 16 * k + i)) 4 = T) := by show _ = _; rw [HTG.out, hTT.out]
                obtain ⟨A, hA⟩ : ∃ A, Hid (atv z k = A) := ⟨_, rfl⟩
                obtain ⟨Z, hZ⟩ : ∃ S, Hid (szv z k = S) := ⟨_, rfl⟩
                rw [hTT.out] at HC HCV
                rw [hA.out] at HC N8 a1
                rw [hZ.out] at HC N12 a2
                obtain ⟨a1', c1, hv1, hs1⟩ := ownr_strs hO1 (by omega)
                obtain ⟨a2', c2, hv2, ht2⟩ := ownr_tabs hO2 (by omega) (fun i hi => (hT.out i hi).1.lies)
                subst hv1
                subst hv2
                obtain ⟨r, hf⟩ := isF_ex (tgv z) T k
                have hd := hf.had
                have RT := rtable_any p k (tgv z) t T r wr ⟨⟨a1', c1, a2', c2, hP, hs1, ht2⟩⟩ hf
                clear LP hs1 ht2
                go_wp2_with fail
                refine N8.mono ?_
                rintro e w2 ⟨rfl, rfl⟩
                go_wp2_with fail
                refine N12.mono ?_
                rintro e w3 ⟨rfl, rfl⟩
                go_wp2_with fail
                refine RT.mono ?_
                rintro e w4 ⟨rfl, rfl⟩
                by_cases hrk : r < k
                · have HO4 : Hid (opnv z len = 2) := by
                    have hk2 : chkv z len k = 2 := by rw [HC.out, hd, decide_eq_true hrk]; rfl
                    show _ = _; rw [HO3.out, fbv_hit hch.out (by omega) hkn, hk2]
                  rw [show rtabv t r k = _ from if_pos hrk]
                  clear hf hd N8 N12 RT
                  go_wp2
                  go_ret2
                  exact ⟨hB, .inl ⟨by show _ ≠ _; rw [HO4.out]; omega, by rw [HO4.out]; rfl⟩⟩
                · rw [show rtabv t r k = _ from if_neg hrk]
                  have hC3 : chkv z len k = if A + Z ≤ len then 0 else 3 := by rw [HC.out, hd, decide_eq_false hrk]; rfl
                  have RP := rpart_any (some ⟨b, off, none⟩) len cap z (A : Nat) (Z : Nat) w4 LB (by omega) (by omega)
                  clear hf hd N8 N12 RT
                  by_cases hfit : A + Z ≤ len
                  · have HC0 : Hid (chkv z len k = 0) := by show _ = _; rw [hC3, if_pos hfit]
                    have ht : there len (A : Int) (Z : Int) = true := there_iff.2 ⟨by omega, by omega, by omega⟩
                    have hpl : plen len (A : Int) (Z : Int) = Z := by simp [plen, ht]
                    rw [ht, hpl, Int.toNat_natCast] at RP
                    clear hC3 ht hpl
                    go_wp2_with fail
                    refine RP.mono ?_
                    rintro e w5 ⟨a', cap', rfl, L5, b5, F5⟩
                    have B5 := hB.trans (b5.mono hB.size)
                    have P5 := (b5.block p (blk_lt hP)).trans hP
                    have O51 := ownr_below hO1 b5
                    have O52 := ownr_below hO2 b5
                    have hsz5 : w1.heap.size ≤ w5.heap.size := Nat.le_trans hsz b5.size
                    have M5 := Same5.of_below b5
                    have HF5 : Hid (Lies5 w5 ⟨a', Z, cap', fun i => z (A + i)⟩) := ⟨L5, F5⟩
                    have hk64 : k ≤ 64 := by omega
                    have hpw : w'.heap.size ≤ w1.heap.size := b1.size
                    have hpge : w'.heap.size ≤ p := by rw [HP.out]; exact Nat.le_refl _
                    clear RP L5 F5 hO1 hO2 hP LB HCV
                    go_wp2_with fail
                    refine region_segs [11] [
                      [{ dst := some 90, op := Op.move (Operand.tmp 7), type := 35, pos := "ref.go:43", after := #[], guard := none },
                       { dst := some 91, op := Op.move (Operand.tmp 7), type := 35, pos := "ref.go:43", after := #[], guard := none },
                       { dst := some 92, op := Op.nilCheck (Operand.tmp 91), type := 0, pos := "ref.go:43", after := #[{ on := 1, ground := Ground.data }], guard := none },
                       { dst := some 93, op := Op.fieldAddr 79 (Operand.tmp 92) 0, type := 0, pos := "ref.go:43", after := #[{ on := 2, ground := Ground.data }], guard := none },
                       { dst := some 94, op := Op.load 30 (Operand.tmp 93), type := 30, pos := "ref.go:43", after := #[{ on := 3, ground := Ground.data }], guard := none },
                       { dst := some 95, op := Op.move (Operand.tmp 9), type := 29, pos := "ref.go:43", after := #[], guard := none },
                       { dst := some 96, op := Op.slice 29 (Operand.tmp 95) none (some (Operand.const (Value.int IntKind.i64 4))) none, type := 29, pos := "ref.go:43", after := #[{ on := 5, ground := Ground.data }], guard := none },
                       { dst := some 97, op := Op.convert 29 9 (Operand.tmp 96), type := 9, pos := "ref.go:43", after := #[{ on := 6, ground := Ground.data }], guard := none },
                       { dst := some 98, op := Op.buildSlice 30 1 #[(0, Operand.tmp 97)], type := 30, pos := "ref.go:43", after := #[{ on := 7, ground := Ground.data }], guard := none },
                       { dst := some 99, op := Op.call { callee := Callee.builtin Builtin.append, args := #[Operand.tmp 94, Operand.tmp 98], argTypes := #[30, 30] }, type := 30, pos := "ref.go:43", after := #[{ on := 4, ground := Ground.data }, { on := 8, ground := Ground.data }], guard := none },
                       { dst := some 100, op := Op.nilCheck (Operand.tmp 90), type := 0, pos := "ref.go:43", after := #[{ on := 0, ground := Ground.data }, { on := 0, ground := Ground.phase }, { on := 1, ground := Ground.phase }, { on := 2, ground := Ground.phase }, { on := 3, ground := Ground.phase }, { on := 4, ground := Ground.phase }, { on := 5, ground := Ground.phase }, { on := 6, ground := Ground.phase }, { on := 7, ground := Ground.phase }, { on := 8, ground := Ground.phase }, { on := 9, ground := Ground.phase }], guard := none }],
                      [{ dst := some 100, op := Op.nilCheck (Operand.tmp 90), type := 0, pos := "ref.go:43", after := #[], guard := none },
                       { dst := some 101, op := Op.fieldAddr 79 (Operand.tmp 100) 0, type := 0, pos := "ref.go:43", after := #[{ on := 0, ground := Ground.data }], guard := none },
                       { dst := none, op := Op.store 30 (Operand.tmp 101) (Operand.tmp 99), type := 0, pos := "ref.go:43", after := #[{ on := 1, ground := Ground.data }], guard := none }]
                      ] (by kernel_rfl) (by kernel_rfl) (by kernel_rfl) ?_
                    obtain ⟨U, hU⟩ : ∃ x, x = w5.drew := ⟨_, rfl⟩
                    rw [← hU]
                    have SU : Below w'.heap.size w' U ∧ U.heap[p]? = some (.cells #[.slice a1' k c1, .slice a2' k c2] 79) := by rw [hU]; exact ⟨B5.drew, P5⟩
                    have OU1 : Hid (U.ownsRow w1.heap.size 9 1 (.slice a1' k c1) k ((List.range k).map fun i => .string (tgv z i))) := by rw [hU]; exact O51.drew
                    have OU2 : Hid (U.ownsRow w1.heap.size 29 1 (.slice a2' k c2) k ((List.range k).map fun i => .slice (t i).a (t i).l (t i).c)) := by rw [hU]; exact O52.drew
                    have MU : Same5 w5 U := by rw [hU]; exact ⟨Nat.le_refl _, fun _ _ h => h⟩
                    have hszU : w1.heap.size ≤ U.heap.size := by rw [hU]; exact hsz5
                    clear hU
                    refine chain_held 11 (fun V => Below w'.heap.size w' V ∧ V.heap[p]? = some (.cells #[.slice a1' k c1, .slice a2' k c2] 79)) (by kernel_rfl) ?_
                    refine wpAnyH_take (i := 0) (oi := { dst := some 90, op := Op.move (Operand.tmp 7), type := 35, pos := "ref.go:43", after := #[], guard := none }) (v := ?_) rfl (by kernel_rfl) (by kernel_rfl) (by kernel_rfl) (fun _ _ _ h => h) (Or.inl ⟨by rfl, ?_⟩) SU ?_
                    rotate_left
                    · (intro w' hSw; go_simp) <;> with_reducible rfl
                    try simp only [Act.put, List.setIfInBounds_toArray, List.set_cons_zero, List.set_cons_succ]
                    refine wpAnyH_take (i := 1) (oi := { dst := some 91, op := Op.move (Operand.tmp 7), type := 35, pos := "ref.go:43", after := #[], guard := none }) (v := ?_) rfl (by kernel_rfl) (by kernel_rfl) (by kernel_rfl) (fun _ _ _ h => h) (Or.inl ⟨by rfl, ?_⟩) SU ?_
                    rotate_left
                    · (intro w' hSw; go_simp) <;> with_reducible rfl
                    try simp only [Act.put, List.setIfInBounds_toArray, List.set_cons_zero, List.set_cons_succ]
                    refine wpAnyH_take (i := 2) (oi := { dst := some 92, op := Op.nilCheck (Operand.tmp 91), type := 0, pos := "ref.go:43", after := #[{ on := 1, ground := Ground.data }], guard := none }) (v := ?_) rfl (by kernel_rfl) (by kernel_rfl) (by kernel_rfl) (fun _ _ _ h => h) (Or.inl ⟨by rfl, ?_⟩) SU ?_
                    rotate_left
                    · (intro w' hSw; go_simp) <;> with_reducible rfl
                    try simp only [Act.put, List.setIfInBounds_toArray, List.set_cons_zero, List.set_cons_succ]
                    refine wpAnyH_take (i := 3) (oi := { dst := some 93, op := Op.fieldAddr 79 (Operand.tmp 92) 0, type := 0, pos := "ref.go:43", after := #[{ on := 2, ground := Ground.data }], guard := none }) (v := ?_) rfl (by kernel_rfl) (by kernel_rfl) (by kernel_rfl) (fun _ _ _ h => h) (Or.inl ⟨by rfl, ?_⟩) SU ?_
                    rotate_left
                    · (intro w' hSw; go_simp) <;> with_reducible rfl
                    try simp only [Act.put, List.setIfInBounds_toArray, List.set_cons_zero, List.set_cons_succ]
                    refine wpAnyH_take (i := 4) (oi := { dst := some 94, op := Op.load 30 (Operand.tmp 93), type := 30, pos := "ref.go:43", after := #[{ on := 3, ground := Ground.data }], guard := none }) (v := ?_) rfl (by kernel_rfl) (by kernel_rfl) (by kernel_rfl) (fun _ _ _ h => h) (Or.inl ⟨by rfl, ?_⟩) SU ?_
                    rotate_left
                    · (intro w' hSw; have kp := blk_cell hSw.2 0; simp only [List.getElem?_toArray, List.getElem?_cons_zero] at kp; go_simp) <;> with_reducible rfl
                    try simp only [Act.put, List.setIfInBounds_toArray, List.set_cons_zero, List.set_cons_succ]
                    refine wpAnyH_take (i := 5) (oi := { dst := some 95, op := Op.move (Operand.tmp 9), type := 29, pos := "ref.go:43", after := #[], guard := none }) (v := ?_) rfl (by kernel_rfl) (by kernel_rfl) (by kernel_rfl) (fun _ _ _ h => h) (Or.inl ⟨by rfl, ?_⟩) SU ?_
                    rotate_left
                    · (intro w' hSw; go_simp) <;> with_reducible rfl
                    try simp only [Act.put, List.setIfInBounds_toArray, List.set_cons_zero, List.set_cons_succ]
                    refine wpAnyH_take (i := 6) (oi := { dst := some 96, op := Op.slice 29 (Operand.tmp 95) none (some (Operand.const (Value.int IntKind.i64 4))) none, type := 29, pos := "ref.go:43", after := #[{ on := 5, ground := Ground.data }], guard := none }) (v := ?_) rfl (by kernel_rfl) (by kernel_rfl) (by kernel_rfl) (fun _ _ _ h => h) (Or.inl ⟨by rfl, ?_⟩) SU ?_
                    rotate_left
                    · (intro w' hSw; go_simp) <;> with_reducible rfl
                    try simp only [Act.put, List.setIfInBounds_toArray, List.set_cons_zero, List.set_cons_succ]
                    refine wpAnyH_take (i := 7) (oi := { dst := some 97, op := Op.convert 29 9 (Operand.tmp 96), type := 9, pos := "ref.go:43", after := #[{ on := 6, ground := Ground.data }], guard := none }) (v := ?_) rfl (by kernel_rfl) (by kernel_rfl) (by kernel_rfl) (fun _ _ _ h => h) (Or.inl ⟨by rfl, ?_⟩) SU ?_
                    rotate_left
                    · (intro w' hSw; have kc := conv_string (HL4.out.below hSw.1 (Nat.le_refl _)); rw [HT.out] at kc; go_simp) <;> with_reducible rfl
                    try simp only [Act.put, List.setIfInBounds_toArray, List.set_cons_zero, List.set_cons_succ]
                    refine wpAnyH_ready (rs := [8]) (by kernel_rfl) (by simp) ?_
                    refine AllReadyH.cons (o := { dst := some 98, op := Op.buildSlice 30 1 #[(0, Operand.tmp 97)], type := 30, pos := "ref.go:43", after := #[{ on := 7, ground := Ground.data }], guard := none }) rfl (fun K hK => ?_) AllReadyH.nil
                    go_simp
                    obtain ⟨V8, hV8⟩ : ∃ x, x = U.alloc (.cells #[.string T] 9) := ⟨_, rfl⟩
                    rw [← hV8]
                    have B8 : Below w'.heap.size w' V8 := by rw [hV8]; exact SU.1.alloc SU.1.size _
                    have P8 : V8.heap[p]? = some (.cells #[.slice a1' k c1, .slice a2' k c2] 79) := by rw [hV8]; exact blk_alloc SU.2 _
                    have O81 : V8.ownsRow w1.heap.size 9 1 (.slice a1' k c1) k ((List.range k).map fun i => .string (tgv z i)) := by rw [hV8]; exact OU1.out.alloc _
                    have O82 : V8.ownsRow w1.heap.size 29 1 (.slice a2' k c2) k ((List.range k).map fun i => .slice (t i).a (t i).l (t i).c) := by rw [hV8]; exact OU2.out.alloc _
                    have K8 : V8.heap[U.heap.size]? = some (.cells #[.string T] 9) := by rw [hV8]; exact blk_new _ _
                    have Z8 : w1.heap.size ≤ V8.heap.size := by rw [hV8]; have := hszU; simp; omega
                    have M8 : Same5 U V8 := by rw [hV8]; exact Same5.of_below ((Below.refl _ _).alloc (Nat.le_refl _) _)
                    have HAP : Hid (_) := app_one E26 (w0 := w') (w := V8) O81 B8 Z8 K8 (news := [.string T]) rfl (by intro u hu; simp at hu; rw [hu]; rfl) (by omega) (by omega)
                    refine hK.out _ _ ⟨B8, P8⟩ (fun _ => ?_)
                    clear hK K
                    try simp only [Act.put, List.setIfInBounds_toArray, List.set_cons_zero, List.set_cons_succ]
                    refine wpAnyH_ready (rs := [9]) (by kernel_rfl) (by simp) ?_
                    refine AllReadyH.cons (o := { dst := some 99, op := Op.call { callee := Callee.builtin Builtin.append, args := #[Operand.tmp 94, Operand.tmp 98], argTypes := #[30, 30] }, type := 30, pos := "ref.go:43", after := #[{ on := 4, ground := Ground.data }, { on := 8, ground := Ground.data }], guard := none }) rfl (fun K hK => ?_) AllReadyH.nil
                    refine step_append_ex (by rfl) (.tmp 94) (.tmp 98) 30 (by rfl) (by rfl) (by rfl) HAP.out ?_
                    rintro g9 c9 V9 ⟨O91, B9, Z9, R9⟩
                    have p8 := blk_lt P8
                    have P9 : V9.heap[p]? = some (.cells #[.slice a1' k c1, .slice a2' k c2] 79) := (R9 p p8 (fun e => by have := (World.ownsRow.lt O81 p e).1; omega)).trans P8
                    have O92 : V9.ownsRow w1.heap.size 29 1 (.slice a2' k c2) k ((List.range k).map fun i => .slice (t i).a (t i).l (t i).c) := ownr_blk O82 fun q hq => R9 q (World.ownsRow.lt O82 q hq).2 (fun e => by obtain ⟨x, hx⟩ := ownr_blk_of O81 e; obtain ⟨y, hy⟩ := ownr_blk_of O82 hq; rw [hx] at hy; cases hy)
                    have M9 : Same5 U V9 := M8.trans (same5_app O81 (by decide) Z9 R9)
                    refine hK.out _ _ ⟨B9, P9⟩ (fun _ => ?_)
                    clear hK K
                    try simp only [Act.put, List.setIfInBounds_toArray, List.set_cons_zero, List.set_cons_succ]
                    refine wpAnyH_take (i := 10) (oi := { dst := some 100, op := Op.nilCheck (Operand.tmp 90), type := 0, pos := "ref.go:43", after := #[{ on := 0, ground := Ground.data }, { on := 0, ground := Ground.phase }, { on := 1, ground := Ground.phase }, { on := 2, ground := Ground.phase }, { on := 3, ground := Ground.phase }, { on := 4, ground := Ground.phase }, { on := 5, ground := Ground.phase }, { on := 6, ground := Ground.phase }, { on := 7, ground := Ground.phase }, { on := 8, ground := Ground.phase }, { on := 9, ground := Ground.phase }], guard := none }) (v := ?_) rfl (by kernel_rfl) (by kernel_rfl) (by kernel_rfl) (fun _ _ _ h => h) (Or.inl ⟨by rfl, ?_⟩) ⟨B9, P9⟩ ?_
                    rotate_left
                    · (intro w' hSw; go_simp) <;> with_reducible rfl
                    try simp only [Act.put, List.setIfInBounds_toArray, List.set_cons_zero, List.set_cons_succ]
                    refine wpAnyH_done (by kernel_rfl) ?_ _
                    refine segQ_end ?_
                    refine chain_last 2 (fun _ => True) (by kernel_rfl) ?_
                    refine wpAnyH_take (i := 1) (oi := { dst := some 101, op := Op.fieldAddr 79 (Operand.tmp 100) 0, type := 0, pos := "ref.go:43", after := #[{ on := 0, ground := Ground.data }], guard := none }) (v := ?_) rfl (by kernel_rfl) (by kernel_rfl) (by kernel_rfl) (fun _ _ _ h => h) (Or.inl ⟨by rfl, ?_⟩) trivial ?_
                    rotate_left
                    · (intro w' hSw; go_simp) <;> with_reducible rfl
                    try simp only [Act.put, List.setIfInBounds_toArray, List.set_cons_zero, List.set_cons_succ]
                    refine wpAnyH_ready (rs := [2]) (by kernel_rfl) (by simp) ?_
                    refine AllReadyH.cons (o := { dst := none, op := Op.store 30 (Operand.tmp 101) (Operand.tmp 99), type := 0, pos := "ref.go:43", after := #[{ on := 1, ground := Ground.data }], guard := none }) rfl (fun K hK => ?_) AllReadyH.nil
                    have kp := blk_cell P9 0
                    have kf := blk_free P9 0
                    simp only [List.getElem?_toArray, List.getElem?_cons_zero] at kp
                    go_simp
                    refine hK.out _ _ trivial (fun _ => ?_)
                    clear hK K
                    try simp only [Act.put]
                    refine wpAnyH_done (by kernel_rfl) ?_ _
                    obtain ⟨W, hW⟩ : ∃ x, x = V9.setCell ⟨p, 0, none⟩ (.slice (some ⟨g9, 0, none⟩) (k + 1) c9) := ⟨_, rfl⟩
                    rw [← hW]
                    have PW : W.heap[p]? = some (.cells #[.slice (some ⟨g9, 0, none⟩) (k + 1) c9, .slice a2' k c2] 79) := by rw [hW]; exact blk_set P9 0 _
                    have BW : Below w'.heap.size w' W := by rw [hW]; exact B9.setCell hpge _
                    have OW1 : W.ownsRow w1.heap.size 9 1 (.slice (some ⟨g9, 0, none⟩) (k + 1) c9) (k + 1) ((List.range (k + 1)).map fun i => .string (tgv z i)) := by
                      rw [hW, range_snoc, hTT.out]
                      exact ownr_blk O91 fun q hq => blk_other _ (fun e => by have := (World.ownsRow.lt O91 q hq).1; simp only at e; omega)
                    have OW2 : W.ownsRow w1.heap.size 29 1 (.slice a2' k c2) k ((List.range k).map fun i => .slice (t i).a (t i).l (t i).c) := by
                      rw [hW]
                      exact ownr_blk O92 fun q hq => blk_other _ (fun e => by have := (World.ownsRow.lt O92 q hq).1; simp only at e; omega)
                    have MW : Same5 w5 W := (MU.trans M9).trans (by rw [hW]; exact same5_set P9 (by decide) 0 _)
                    have ZW : w1.heap.size ≤ W.heap.size := by rw [hW]; have := Z9; simp; omega
                    have MB : Same5 w4 W := M5.trans MW
                    clear hW SU OU1 OU2 MU M8 M9 HAP K8 O81 O82 O91 O92 P8 P9 B8 B9 R9 Z8 Z9 p8 kp kf hszU B5 P5 O51 O52 hsz5 M5
                    have kp2 := blk_cell PW 1
                    simp only [List.getElem?_toArray, List.getElem?_cons_zero, List.getElem?_cons_succ] at kp2
                    have PA := blk_alloc PW (.cells #[.slice a' Z cap'] 29)
                    have plt := blk_lt PA
                    have OA1 := World.ownsRow.alloc OW1 (.cells #[.slice a' Z cap'] 29)
                    have OA2 := World.ownsRow.alloc OW2 (.cells #[.slice a' Z cap'] 29)
                    have MA : Same5 w4 (W.alloc (.cells #[.slice a' Z cap'] 29)) := MB.trans (Same5.of_below ((Below.refl _ _).alloc (Nat.le_refl _) _))
                    have MA5 : Same5 w5 (W.alloc (.cells #[.slice a' Z cap'] 29)) := MW.trans (Same5.of_below ((Below.refl _ _).alloc (Nat.le_refl _) _))
                    have HAP2 : Hid (_) := app_one E27 (w0 := w') (w := W.alloc (.cells #[.slice a' Z cap'] 29)) OA2 (BW.alloc BW.size _) (by simp; omega) (blk_new W (.cells #[.slice a' Z cap'] 29)) (news := [.slice a' Z cap']) rfl (by intro u hu; simp at hu; rw [hu]; rfl) (by omega) hpw
                    have npo : (Value.slice a2' k c2).ownBlock ≠ some p := fun e => by have := (World.ownsRow.lt OA2 p e).1; omega
                    have HOA1 : Hid (_) := OA1
                    have HOA2 : Hid (_) := OA2
                    clear OA1 OA2 OW1 OW2
                    go_wp2_with (at_builtin; refine wpList_app2 rfl (.tmp 106) (.tmp 108) 31 31 rfl rfl rfl HAP2.out ?_; rintro g10 c10 W10 hR; have P10 := (hR.2.2.2 p plt npo).trans PA; have kp3 := blk_cell P10 1; have kf3 := blk_free P10 1; simp only [List.getElem?_toArray, List.getElem?_cons_zero, List.getElem?_cons_succ] at kp3; have HR10 : Hid (_) := hR; clear hR)
                    have M10 := same5_app HOA2.out (by decide) HR10.out.2.2.1 HR10.out.2.2.2
                    have MX : Same5 (W.alloc (.cells #[.slice a' Z cap'] 29)) (W10.setCell ⟨p, 1, none⟩ (.slice (some ⟨g10, 0, none⟩) (k + 1) c10)) := M10.trans (same5_set P10 (by decide) 1 _)
                    refine ⟨⟨k + 1, _, _, tabU t k ⟨a', Z, cap', fun j => z (A + j)⟩, by go_num, by omega, blk_set P10 1 _, ?_, ?_, ?_, ?_, ?_, ?_⟩, by simp [intOf]; omega⟩
                    · refine ownr_blk HOA1.out fun q hq => ?_
                      rw [blk_other _ (fun e => by have := (World.ownsRow.lt HOA1.out q hq).1; simp only at e; omega)]
                      exact HR10.out.2.2.2 q (World.ownsRow.lt HOA1.out q hq).2 (fun e => by obtain ⟨x, hx⟩ := ownr_blk_of HOA2.out e; obtain ⟨y, hy⟩ := ownr_blk_of HOA1.out hq; rw [hx] at hy; cases hy)
                    · have h10 := HR10.out.1
                      rw [tabU_cells]
                      exact ownr_blk h10 fun q hq => blk_other _ (fun e => by have := (World.ownsRow.lt h10 q hq).1; simp only at e; omega)
                    · intro i hi
                      by_cases e : i = k
                      · subst e
                        rw [tabU_at]
                        exact ⟨HF5.out.same (MA5.trans MX), hZ.out.symm, by rw [hA.out]⟩
                      · rw [tabU_old t _ (by omega)]
                        obtain ⟨x1, x2, x3⟩ := hT.out i (by omega)
                        exact ⟨x1.same (MA.trans MX), x2, x3⟩
                    · exact HR10.out.2.1.setCell hpge _
                    · have := HR10.out.2.2.1
                      simp at this ⊢
                      omega
                    · intro j hj
                      rcases Nat.lt_or_ge j k with h1 | h1
                      · exact hch.out j h1
                      · obtain rfl : j = k := by omega
                        exact HC0.out
                  · have HO4 : Hid (opnv z len = 3) := by
                      show _ = _; rw [HO3.out, fbv_hit hch.out (by rw [hC3, if_neg hfit]; omega) hkn, hC3, if_neg hfit]
                    have ht : there len (A : Int) (Z : Int) = false := there_not fun h => by omega
                    have hpl : plen len (A : Int) (Z : Int) = 0 := by simp [plen, ht]
                    rw [ht, hpl] at RP
                    clear hC3 ht hpl
                    go_wp2_with fail
                    refine RP.mono ?_
                    rintro e w5 ⟨a', cap', rfl, L5, b5, F5⟩
                    have B5 := hB.trans (b5.mono hB.size)
                    go_wp2
                    go_ret2
                    exact ⟨B5, .inl ⟨by show _ ≠ _; rw [HO4.out]; omega, by rw [HO4.out]; rfl⟩⟩
              · obtain rfl : k = n := by omega
                have hkn' : ¬ (k : Int) < k := by omega
                obtain ⟨aa, cc, hv1, hs1⟩ := ownr_strs hO1 (by omega)
                obtain ⟨ab, cb, hv2, ht2⟩ := ownr_tabs hO2 (by omega) (fun i hi => (hT.out i hi).1.lies)
                subst hv1
                subst hv2
                go_wp2
                go_ret2
                have HO4 : Hid (opnv z len = 0) := by show _ = _; rw [HO3.out]; exact fbv_ok.2 hch.out
                exact ⟨hB, .inr ⟨HO4, p, rfl, t, ⟨⟨aa, cc, ab, cb, hP, hs1, ht2⟩⟩, fun i hi => (hT.out i hi).2⟩⟩
end Go.Proofs.Ytninhcnpjadjpaa
