/-
  sfnt's records: recordAt, place (with the closure that it hands on), countIn as contracts.
-/
import Derived.Test.YtninhcnpjadjpaaCon
namespace Go.Proofs.Ytninhcnpjadjpaa
open Go.RowKit

/-- A part of a slice of bytes. -/
theorem lies_part {w : World} {b off len cap p n c : Nat} {z : Nat → Nat} (h : Lies w (some ⟨b, off, none⟩) len cap z) (hp : p + n ≤ len) (hc : n ≤ c) : Lies w (some ⟨b, off + p, none⟩) n c (fun i => z (p + i)) :=
  ⟨hc, by have := h.reach; omega, fun i => h.byte _, fun h0 => by
    obtain ⟨b', off', e, hb, hcl⟩ := h.spot (by omega)
    simp only [Option.some.injEq, Addr.mk.injEq, and_true] at e
    obtain ⟨rfl, rfl⟩ := e
    exact ⟨b, off + p, rfl, hb, fun i hi => by have := hcl (p + i) (by omega); rwa [← Nat.add_assoc] at this⟩⟩

set_option maxRecDepth 100000 in
set_option maxHeartbeats 800000 in
theorem record_any (a : Option Addr) (len cap : Nat) (z : Nat → Nat) (p : Nat) (w : World) (h : Lies w a len cap z) (hp : p + 16 ≤ len) :
    Calls Try.prog 43 #[.slice a len cap, .int .i64 (p : Nat)] w fun e w' => e = .returned (.agg #[.string (bstr (fun i => z (p + i)) 4), .int .i64 (numv z (p + 8) 4 : Nat), .int .i64 (numv z (p + 12) 4 : Nat)]) ∧ Below w.heap.size w w' := by
  have hr := h.reach
  have hlc := h.lc
  obtain ⟨b, off, rfl, hb, hc⟩ := h.spot (by omega)
  have bw : Below w.heap.size w (w.alloc (.cells #[.string ⟨#[]⟩, .int .i64 0, .int .i64 0] 70)) := (Below.refl _ _).alloc (Nat.le_refl _) _
  have h1 := h.below bw (Nat.le_refl _)
  have q1 : ((p : Int) + 8) = ((p + 8 : Nat) : Int) := by omega
  have q2 : ((p : Int) + 12) = ((p + 12 : Nat) : Int) := by omega
  have C1 := fun W (hh : Lies W (some ⟨b, off, none⟩) len cap z) => u32_any (some ⟨b, off, none⟩) len cap z ((p + 8 : Nat) : Int) W hh (by omega)
  have C2 := fun W (hh : Lies W (some ⟨b, off, none⟩) len cap z) => u32_any (some ⟨b, off, none⟩) len cap z ((p + 12 : Nat) : Int) W hh (by omega)
  have t1 : there len ((p + 8 : Nat) : Int) ((4 : Nat) : Int) = true := there_iff.2 ⟨by omega, by omega, by omega⟩
  have t2 : there len ((p + 12 : Nat) : Int) ((4 : Nat) : Int) = true := there_iff.2 ⟨by omega, by omega, by omega⟩
  have v1 : tell z len ((p + 8 : Nat) : Int) 4 = (numv z (p + 8) 4 : Nat) := by unfold tell; rw [if_pos t1, Int.toNat_natCast]
  have v2 : tell z len ((p + 12 : Nat) : Int) 4 = (numv z (p + 12) 4 : Nat) := by unfold tell; rw [if_pos t2, Int.toNat_natCast]
  have t1' : there len ((p + 8 : Nat) : Int) 4 = true := t1
  have t2' : there len ((p + 12 : Nat) : Int) 4 = true := t2
  simp only [v1, v2, t1', t2'] at C1 C2
  rw [← q1] at C1
  rw [← q2] at C2
  clear t1 t2 t1' t2' v1 v2 q1 q2
  have b1 := numv_lt4 z h.byte (p + 8) 4 (by omega)
  have b2 := numv_lt4 z h.byte (p + 12) 4 (by omega)
  obtain ⟨N1, hN1⟩ : ∃ N, Hid (numv z (p + 8) 4 = N) := ⟨_, rfl⟩
  obtain ⟨N2, hN2⟩ : ∃ N, Hid (numv z (p + 12) 4 = N) := ⟨_, rfl⟩
  rw [hN1.out] at C1 b1 ⊢
  rw [hN2.out] at C2 b2 ⊢
  have hP : Lies (w.alloc (.cells #[.string ⟨#[]⟩, .int .i64 0, .int .i64 0] 70)) (some ⟨b, off + p, none⟩) 4 (cap - p) (fun i => z (p + i)) := lies_part h1 (by omega) (by omega)
  have HS := conv_string hP
  clear hc h
  go_enter Try.func43, Try.ntmps43
  go_wp2_with fail
  refine (C1 _ h1).mono ?_
  rintro e w' ⟨rfl, rfl⟩
  go_wp2_with fail
  refine (C2 _ h1).mono ?_
  rintro e w' ⟨rfl, rfl⟩
  have hne : ¬ cap = p := by omega
  have hcl : (p : Int) + 4 ≤ cap := by omega
  go_wp2
  refine bodyPost_ret (v := .agg #[.string (bstr (fun i => z (p + i)) 4), .int .i64 (N1 : Nat), .int .i64 (N2 : Nat)]) (by simp [results, Try.results43, go_sem]) rfl ⟨rfl, ?_⟩
  exact (Below.refl _ _).alloc (Nat.le_refl _) _

/-- place's closure: is this record's tag the one? -/
theorem same_tag (s t : ByteArray) (x y : Int) (cb : Nat) (w : World) (hc : w.cell? ⟨cb, 0, none⟩ = some (.string t)) :
    Calls Try.prog 39 #[.agg #[.string s, .int .i64 x, .int .i64 y], .pointer (some ⟨cb, 0, none⟩)] w fun e w' => e = .returned (.bool (decide (s = t))) ∧ Below w.heap.size w w' := by
  have hlt := blk_lt_of_cell hc
  have hc1 : (w.alloc (.cells #[.string s, .int .i64 x, .int .i64 y] 70)).cell? ⟨cb, 0, none⟩ = some (.string t) := by
    rw [World.cell?_of_block (a := ⟨cb, 0, none⟩) (Below.heap_alloc w _ cb hlt)]; exact hc
  have he : decide (s = t) = (s.toList == t.toList) := toList_eq.symm
  rw [he]
  clear he hc
  go_enter Try.func39, Try.ntmps39
  go_wp2
  go_ret
  exact ⟨rfl, (Below.refl _ _).alloc (Nat.le_refl _) _⟩

set_option maxHeartbeats 800000 in
theorem indexFunc_any (a : Option Addr) (n cap : Nat) (tg : Nat → ByteArray) (at' sz : Nat → Nat) (t : ByteArray) (r cb : Nat) (w : World) (h : Recs w a n cap tg at' sz) (hf : IsF tg n t r) (hcb : w.cell? ⟨cb, 0, none⟩ = some (.string t)) :
    Calls Try.prog 38 #[.slice a n cap, .func (.func 39) #[] #[.pointer (some ⟨cb, 0, none⟩)]] w fun e w' => e = .returned (.int .i64 (fndv r n)) ∧ Below w.heap.size w w' := by
  have hr := h.reach
  have hle := hf.le
  have hlt := blk_lt_of_cell hcb
  go_enter Try.func38, Try.ntmps38
  go_wp2_with fail
  go_loopw [8] (fun i wq => ∃ k : Nat, i = .int .i64 (k : Nat) ∧ k ≤ r ∧ Below w.heap.size w wq) (fun i _ => n - (intOf i).toNat)
  case atStart => exact ⟨0, rfl, by omega, Below.refl _ _⟩
  case round =>
    obtain ⟨k, rfl, hk, hB⟩ := hrel
    by_cases hkn : k < n
    · have h1 := h.below hB (Nat.le_refl _)
      obtain ⟨g, rfl, hg, hc⟩ := h1.spot (by omega)
      obtain ⟨c0, c1, c2⟩ := hc k hkn
      have hcb1 : wr.cell? ⟨cb, 0, none⟩ = some (.string t) := (World.cell?_of_block (a := ⟨cb, 0, none⟩) (hB.block cb hlt)).trans hcb
      have hlt' : (k : Int) < n := by omega
      have C := same_tag (tg k) t (at' k : Nat) (sz k : Nat) cb wr hcb1
      clear hc h h1 hcb hcb1
      by_cases he : k = r
      · have hd : decide (tg k = t) = true := decide_eq_true (by rw [he]; exact hf.yes (by omega))
        have HR : Hid (fndv r n = (k : Int)) := by show _ = _; unfold fndv; rw [if_pos (by omega), he]
        rw [hd] at C
        clear hf hd he
        go_wp2_with fail
        refine C.mono ?_
        rintro e w' ⟨rfl, b1⟩
        have B1 := hB.trans (b1.mono hB.size)
        go_wp2
        go_ret
        exact ⟨ret_int HR.out.symm, B1⟩
      · have hd : decide (tg k = t) = false := decide_eq_false (hf.no k (by omega))
        rw [hd] at C
        clear hd
        go_wp2_with fail
        refine C.mono ?_
        rintro e w' ⟨rfl, b1⟩
        have B1 := hB.trans (b1.mono hB.size)
        go_wp2
        exact ⟨⟨k + 1, by go_num, by omega, B1⟩, by simp [intOf]; omega⟩
    · have hlt' : ¬ (k : Int) < n := by omega
      have HR : Hid (fndv r n = (-1 : Int)) := by show _ = _; unfold fndv; rw [if_neg (by omega)]
      go_wp2
      go_ret
      exact ⟨ret_int HR.out.symm, hB⟩

theorem place_any (a : Option Addr) (n cap : Nat) (tg : Nat → ByteArray) (at' sz : Nat → Nat) (t : ByteArray) (r : Nat) (w : World) (h : Recs w a n cap tg at' sz) (hf : IsF tg n t r) :
    Calls Try.prog 28 #[.slice a n cap, .string t] w fun e w' => e = .returned (.int .i64 (fndv r n)) ∧ Below w.heap.size w w' := by
  have hmf : ∀ (fn : Fn) (first cap : Array Value) (w : World), (Instr.makeFunc fn first cap).run Try.prog w = .ok (.func fn first cap) w := fun _ _ _ _ => rfl
  have bw : Below w.heap.size w (w.alloc (.cells #[.string t] 9)) := (Below.refl _ _).alloc (Nat.le_refl _) _
  have C := indexFunc_any a n cap tg at' sz t r w.heap.size (w.alloc (.cells #[.string t] 9)) (h.below bw (Nat.le_refl _)) hf (by rw [blk_cell (blk_new w _)]; rfl)
  go_enter Try.func28, Try.ntmps28
  go_wp2_with fail
  refine C.mono ?_
  rintro e w' ⟨rfl, b1⟩
  have B1 := bw.trans (b1.mono bw.size)
  go_wp2
  go_ret
  exact ⟨rfl, B1⟩

/-- Part, where it is there. -/
theorem part_yes (a : Option Addr) (len cap : Nat) (z : Nat → Nat) (p m : Nat) (w : World) (h : Lies w a len cap z) (hp : p + m ≤ len) :
    Calls Try.prog 29 #[.slice a len cap, .int .i64 (p : Nat), .int .i64 (m : Nat)] w fun e w' => ∃ a' cap', e = .returned (.tuple #[.slice a' m cap', .bool true]) ∧ Lies w' a' m cap' (fun i => z (p + i)) ∧ Below w.heap.size w w' := by
  have hr := h.reach
  have ht : there len (p : Int) (m : Int) = true := there_iff.2 ⟨by omega, by omega, by omega⟩
  refine (part_any a len cap z p m w h (by omega)).mono ?_
  rintro e w' ⟨a', c', h1, h2, h3⟩
  have e1 : plen len p m = m := by simp [plen, ht]
  rw [ht, e1] at h1
  rw [e1, Int.toNat_natCast] at h2
  exact ⟨a', c', h1, h2, h3⟩
theorem part_no (a : Option Addr) (len cap : Nat) (z : Nat → Nat) (p m : Nat) (w : World) (h : Lies w a len cap z) (hp : ¬ p + m ≤ len) (hm : p ≤ 9223372036854775807) :
    Calls Try.prog 29 #[.slice a len cap, .int .i64 (p : Nat), .int .i64 (m : Nat)] w fun e w' => ∃ a' cap', e = .returned (.tuple #[.slice a' 0 cap', .bool false]) ∧ Below w.heap.size w w' := by
  have ht : there len (p : Int) (m : Int) = false := there_not fun h => by omega
  refine (part_any a len cap z p m w h (by omega)).mono ?_
  rintro e w' ⟨a', c', h1, h2, h3⟩
  have e1 : plen len p m = 0 := by simp [plen, ht]
  rw [ht, e1] at h1
  exact ⟨a', c', h1, h3⟩
theorem u16_yes (a : Option Addr) (len cap : Nat) (z : Nat → Nat) (p : Nat) (w : World) (h : Lies w a len cap z) (hp : p + 2 ≤ len) :
    Calls Try.prog 31 #[.slice a len cap, .int .i64 (p : Nat)] w fun e w' => e = .returned (.tuple #[.int .i64 (numv z p 2 : Nat), .bool true]) ∧ w' = w := by
  have hr := h.reach
  have ht : there len (p : Int) 2 = true := there_iff.2 ⟨by omega, by omega, by omega⟩
  have e1 : tell z len p 2 = (numv z p 2 : Nat) := by unfold tell; rw [if_pos (show there len (p : Int) ((2 : Nat) : Int) = true from ht), Int.toNat_natCast]
  have := u16_any a len cap z p w h (by omega)
  rwa [e1, ht] at this

/-- How many records the head tells of. -/
def cntN (z : Nat → Nat) (len : Nat) : Nat := if cntE z len = 0 then cntv z else 0
set_option maxRecDepth 100000 in
set_option maxHeartbeats 800000 in
theorem count_any (a : Option Addr) (len cap : Nat) (z : Nat → Nat) (w : World) (h : Lies w a len cap z) :
    Calls Try.prog 34 #[.slice a len cap] w fun e w' => e = .returned (.tuple #[.int .i64 (cntN z len : Nat), .int .i64 (cntE z len : Nat)]) ∧ Below w.heap.size w w' := by
  by_cases h12 : len < 12
  · have e1 : cntE z len = 3 := by unfold cntE; rw [if_pos h12]
    have e2 : cntN z len = 0 := by unfold cntN; rw [e1]; rfl
    rw [e1, e2]
    go_enter Try.func34, Try.ntmps34
    go_wp2_with fail
    refine (part_no a len cap z 0 12 _ h (by omega) (by omega)).mono ?_
    rintro e w' ⟨a', c', rfl, b1⟩
    go_wp2
    go_ret2
    exact ⟨rfl, b1⟩
  · go_enter Try.func34, Try.ntmps34
    go_wp2_with fail
    refine (part_yes a len cap z 0 12 _ h (by omega)).mono ?_
    rintro e w' ⟨a', c', rfl, h1, b1⟩
    have e0 : (fun i => z (0 + i)) = z := funext fun i => by rw [Nat.zero_add]
    rw [e0] at h1
    clear e0
    obtain ⟨b, off, rfl, hb, hc⟩ := h1.spot (by omega)
    have hlc := h1.lc
    have h4 : Lies w' (some ⟨b, off, none⟩) 4 c' z := ⟨by omega, by omega, h1.byte, fun _ => ⟨b, off, rfl, hb, fun i hi => hc i (by omega)⟩⟩
    have HS := conv_string h4
    have M := mark_any (bstr z 4) w'
    have U := u16_yes (some ⟨b, off, none⟩) 12 c' z 4 w' h1 (by omega)
    have HE : Hid (cntE z len = if markB (bstr z 4) = false then 2 else if 64 < cntv z then 4 else 0) := by show _ = _; unfold cntE; rw [if_neg h12]
    have HN : Hid (cntN z len = if cntE z len = 0 then cntv z else 0) := rfl
    have hn := numv_lt4 z h1.byte 4 2 (by omega)
    have hcv : cntv z = numv z 4 2 := rfl
    rw [← hcv] at U hn
    have hc4 : (4 : Int) ≤ c' := by omega
    clear hcv hc h4 h1 h
    obtain ⟨S, hS⟩ : ∃ S, Hid (bstr z 4 = S) := ⟨_, rfl⟩
    rw [hS.out] at HE M HS
    obtain ⟨V, hV⟩ : ∃ V, Hid (markB S = V) := ⟨_, rfl⟩
    rw [hV.out] at HE M
    obtain ⟨N, hN⟩ : ∃ N, Hid (cntv z = N) := ⟨_, rfl⟩
    rw [hN.out] at HE HN U hn
    cases V with
    | false =>
      have e1 : Hid (cntE z len = 2) := HE.out
      have e2 : Hid (cntN z len = 0) := by show _ = _; rw [HN.out, e1.out]; rfl
      go_wp2_with fail
      refine M.mono ?_
      rintro e w2 ⟨rfl, rfl⟩
      go_wp2
      go_ret2
      exact ⟨by rw [e1.out, e2.out]; rfl, b1⟩
    | true =>
      by_cases h64 : 64 < N
      · have e1 : Hid (cntE z len = 4) := by show _ = _; rw [HE.out, if_neg (by simp), if_pos h64]
        have e2 : Hid (cntN z len = 0) := by show _ = _; rw [HN.out, e1.out]; rfl
        have h64' : (64 : Int) < N := by omega
        go_wp2_with fail
        refine M.mono ?_
        rintro e w2 ⟨rfl, rfl⟩
        go_wp2_with fail
        refine U.mono ?_
        rintro e w3 ⟨rfl, rfl⟩
        go_wp2
        go_ret2
        exact ⟨by rw [e1.out, e2.out]; rfl, b1⟩
      · have e1 : Hid (cntE z len = 0) := by show _ = _; rw [HE.out, if_neg (by simp), if_neg h64]
        have e2 : Hid (cntN z len = N) := by show _ = _; rw [HN.out, e1.out]; rfl
        have h64' : ¬ (64 : Int) < N := by omega
        go_wp2_with fail
        refine M.mono ?_
        rintro e w2 ⟨rfl, rfl⟩
        go_wp2_with fail
        refine U.mono ?_
        rintro e w3 ⟨rfl, rfl⟩
        go_wp2
        go_ret2
        exact ⟨by rw [e1.out, e2.out]; rfl, b1⟩
end Go.Proofs.Ytninhcnpjadjpaa
