/-
  A frame opened: as a plain function; zlib.closed, zlib.Open and the reference's Open.
  zlib.Lay.
-/
import Derived.Test.YtahibacjaoohiaaDoorZA
import Derived.Test.YtahibacjaoohiaaDoorSto
namespace Go.Proofs.YtahibacjaoohiaaDoor
open Go.RowKit

theorem loopN_le {z : Nat → Nat} {lim most : Nat} : ∀ n (st r : St), st.1 ≤ lim → loopN (inflS z lim most) (fun st => lim - st.1) (.error 9) n st = .ok r → r.1 ≤ lim
  | 0, st, r, _, h => by simp [loopN] at h
  | n + 1, st, r, h0, h => by
    unfold loopN at h
    cases e : inflS z lim most st with
    | inr x =>
      rw [e] at h
      simp only at h
      subst h
      unfold inflS at e
      cases e2 : blockE z lim most st with
      | error k => rw [e2] at e; simp at e
      | ok y =>
        rw [e2] at e
        simp only at e
        have := blockE_ok e2
        split at e
        · simp at e; subst e; exact this.2
        · simp at e
    | inl s' =>
      rw [e] at h
      simp only at h
      unfold inflS at e
      cases e2 : blockE z lim most st with
      | error k => rw [e2] at e; simp at e
      | ok y =>
        rw [e2] at e
        simp only at e
        have := blockE_ok e2
        split at e
        · simp at e
        · simp at e
          subst e
          split at h
          · exact loopN_le n y.2 r this.2 h
          · simp at h
theorem inflE_le {z : Nat → Nat} {len most : Nat} {r : St} (h : inflE z len most = .ok r) : (r.1 + 7) / 8 ≤ len := by
  have := loopN_le (z := z) (lim := 8 * len) (most := most) _ (0, []) r (by simp) h
  omega
theorem inflE_nil (z : Nat → Nat) (most : Nat) : inflE z 0 most = .error 3 := blocksE_err (by unfold blockE; rw [if_neg (by decide)])

/-- What is said of a frame's end: 0, or why not. -/
def clov (y : Nat → Nat) (r : Nat) (t : Nat → Nat) (n : Nat) : Nat := if r < 4 then 3 else if 4 < r then 2 else if numbe y 4 = adv t n then 0 else 5
/-- What lies in a frame, or why not. -/
def opnE (z : Nat → Nat) (len most : Nat) : Except Nat (List Int) :=
  if len < 2 then .error 3 else if hdv (z 0) (z 1) = false then .error 2 else
  match inflE (fun i => z (2 + i)) (len - 2) most with
  | .error k => .error k
  | .ok st => if clov (fun i => z (2 + ((st.1 + 7) / 8 + i))) (len - 2 - (st.1 + 7) / 8) (zb st.2) st.2.length = 0 then .ok st.2 else .error (clov (fun i => z (2 + ((st.1 + 7) / 8 + i))) (len - 2 - (st.1 + 7) / 8) (zb st.2) st.2.length)
/-- What Open answers. -/
def TellsZ (most : Nat) (E : Except Nat (List Int)) (w : World) (e : Ending) (w' : World) : Prop :=
  Below w.heap.size w w' ∧ ((∃ k, Hid (E = .error k) ∧ 0 < k ∧ e = .returned (.tuple #[.slice none 0 0, .int .i64 (k : Nat)])) ∨
    ∃ o r, Hid (E = .ok o) ∧ e = .returned (.tuple #[r, .int .i64 0]) ∧ OwnV w' w.heap.size 5 .u8 r o ∧ Hid (Byt o) ∧ o.length ≤ most)

theorem opn_no {z : Nat → Nat} {len most : Nat} (h2 : ¬ len < 2) (hv : hdv (z 0) (z 1) = false) : opnE z len most = .error 2 := by
  unfold opnE; rw [if_neg h2, if_pos hv]
theorem opn_err {z : Nat → Nat} {len most k : Nat} (h2 : ¬ len < 2) (hv : hdv (z 0) (z 1) = true) (hE : inflE (fun i => z (2 + i)) (len - 2) most = .error k) : opnE z len most = .error k := by
  unfold opnE; rw [if_neg h2, if_neg (by rw [hv]; simp), hE]
theorem opn_ok {z : Nat → Nat} {len most q : Nat} {o : List Int} (h2 : ¬ len < 2) (hv : hdv (z 0) (z 1) = true) (hE : inflE (fun i => z (2 + i)) (len - 2) most = .ok (q, o)) : opnE z len most = if clov (fun i => z (2 + ((q + 7) / 8 + i))) (len - 2 - (q + 7) / 8) (zb o) o.length = 0 then .ok o else .error (clov (fun i => z (2 + ((q + 7) / 8 + i))) (len - 2 - (q + 7) / 8) (zb o) o.length) := by
  unfold opnE; rw [if_neg h2, if_neg (by rw [hv]; simp), hE]
theorem OwnV.mono' {w : World} {base base' : Nat} {e : TypeId} {k : IntKind} {v : Value} {xs : List Int} (h : OwnV w base e k v xs) (hb : base' ≤ base) : OwnV w base' e k v xs := by
  refine ⟨h.1, ?_⟩
  rcases h.2 with h' | ⟨g', cap', cur, hv, h1, h3⟩
  · exact .inl h'
  · exact .inr ⟨g', cap', cur, hv, Nat.le_trans hb h1, h3⟩
theorem lies_from {w : World} {b off len cap n : Nat} {z : Nat → Nat} (h : Lies w (some ⟨b, off, none⟩) len cap z) (hn : n ≤ len) : Lies w (some ⟨b, off + n, none⟩) (len - n) (cap - n) (fun i => z (n + i)) :=
  ⟨by have := h.lc; omega, by have := h.reach; omega, fun i => h.byte _, fun h0 => by
    obtain ⟨b', off', e, hb, hc⟩ := h.spot (by omega)
    simp only [Option.some.injEq, Addr.mk.injEq, and_true] at e
    obtain ⟨rfl, rfl⟩ := e
    exact ⟨b, off + n, rfl, hb, fun i hi => by have := hc (n + i) (by omega); rwa [← Nat.add_assoc] at this⟩⟩

set_option maxRecDepth 100000 in
theorem closed_any (a : Option Addr) (r c : Nat) (y : Nat → Nat) (a2 : Option Addr) (n c2 : Nat) (t : Nat → Nat) (w : World) (h : Lies w a r c y) (h2 : Lies w a2 n c2 t) :
    Calls Tryd.prog 39 #[.slice a r c, .slice a2 n c2] w fun e w' => e = .returned (.int .i64 (clov y r t n : Nat)) ∧ Below w.heap.size w w' := by
  have hr := h.reach
  by_cases h4 : r < 4
  · have h4' : (r : Int) < 4 := by omega
    have hv : clov y r t n = 3 := by unfold clov; rw [if_pos h4]
    rw [hv]
    go_enter Tryd.func39, Tryd.ntmps39
    go_wp2
    go_ret
    exact ⟨rfl, Below.refl _ _⟩
  · by_cases h5 : 4 < r
    · have h4' : ¬ (r : Int) < 4 := by omega
      have h5' : (4 : Int) < r := by omega
      have hv : clov y r t n = 2 := by unfold clov; rw [if_neg h4, if_pos h5]
      rw [hv]
      go_enter Tryd.func39, Tryd.ntmps39
      go_wp2
      go_ret
      exact ⟨rfl, Below.refl _ _⟩
    · obtain rfl : r = 4 := by omega
      have hv : Hid (clov y 4 t n = if numbe y 4 = adv t n then 0 else 5) := by show _ = _; unfold clov; rw [if_neg (by omega), if_neg (by omega)]
      have hs := adv_lt t n
      have hbb := bigL_byt hs
      have hiff := numbe_big h.byte hs
      clear h4 h5
      go_enter Tryd.func39, Tryd.ntmps39
      go_wp2_with fail
      refine (mark_any a2 n c2 t _ h2).mono ?_
      rintro e w1 ⟨g, rfl, hO, hB⟩
      have hL := hO.liesB hbb (by rw [bigL_len]; omega)
      rw [bigL_len] at hL
      have h1 := h.below hB (Nat.le_refl _)
      clear hO
      go_wp2_with fail
      refine (equal_any a 4 c y _ 4 4 _ _ h1 hL).mono ?_
      rintro e w2 ⟨rfl, rfl⟩
      by_cases hq : numbe y 4 = adv t n
      · rw [same_yes (hiff.1 hq)]
        have HQ : Hid (clov y 4 t n = 0) := hv.out.trans (if_pos hq)
        clear hv hiff hq
        go_wp2
        go_ret
        exact ⟨by rw [HQ.out]; rfl, hB⟩
      · rw [same_no h.byte hL.byte (fun e => hq (hiff.2 e))]
        have HQ : Hid (clov y 4 t n = 5) := hv.out.trans (if_neg hq)
        clear hv hiff hq
        go_wp2
        go_ret
        exact ⟨by rw [HQ.out]; rfl, hB⟩

set_option maxRecDepth 100000 in
set_option maxHeartbeats 1600000 in
theorem open_any (a : Option Addr) (len cap : Nat) (z : Nat → Nat) (mo : Int) (most : Nat) (hm : (most : Int) = if mo < 0 then 0 else mo) (hsm : most ≤ 140737488355000) (w : World) (h : Lies w a len cap z) (hT : Tab w) :
    Calls Tryd.prog 19 #[.slice a len cap, .int .i64 mo] w (TellsZ most (opnE z len most) w) := by
  have hr := h.reach
  have hlc := h.lc
  have HM : Hid ((most : Int) = if mo < 0 then 0 else mo) := hm
  clear hm
  by_cases h2 : len < 2
  · have h2' : (len : Int) < 2 := by omega
    have hv : Hid (opnE z len most = .error 3) := by show _ = _; unfold opnE; rw [if_pos h2]
    go_enter Tryd.func19, Tryd.ntmps19
    go_wp2
    go_ret2
    exact ⟨Below.refl _ _, .inl ⟨3, hv, by omega, rfl⟩⟩
  · have h2' : ¬ (len : Int) < 2 := by omega
    obtain ⟨b, off, rfl, hb, hc⟩ := h.spot (by omega)
    have c0 := hc 0 (by omega)
    have c1 := hc 1 (by omega)
    rw [Nat.add_zero] at c0
    have z0 := h.byte 0
    have z1 := h.byte 1
    have hby0 : Hid (∀ i, z i < 256) := h.byte
    have HV : Hid (opnE z len most = if hdv (z 0) (z 1) = false then .error 2 else
      match inflE (fun i => z (2 + i)) (len - 2) most with
      | .error k => .error k
      | .ok st => if clov (fun i => z (2 + ((st.1 + 7) / 8 + i))) (len - 2 - (st.1 + 7) / 8) (zb st.2) st.2.length = 0 then .ok st.2 else .error (clov (fun i => z (2 + ((st.1 + 7) / 8 + i))) (len - 2 - (st.1 + 7) / 8) (zb st.2) st.2.length)) := by
      show _ = _; unfold opnE; rw [if_neg h2]
    obtain ⟨x0, hx0⟩ : ∃ x, Hid (z 0 = x) := ⟨_, rfl⟩
    obtain ⟨x1, hx1⟩ : ∃ x, Hid (z 1 = x) := ⟨_, rfl⟩
    rw [hx0.out] at c0 z0 HV
    rw [hx1.out] at c1 z1 HV
    have TK := taken_any x0 x1 z0 z1
    obtain ⟨V, hV⟩ : ∃ V, Hid (hdv x0 x1 = V) := ⟨_, rfl⟩
    rw [hV.out] at HV TK
    clear hc
    go_enter Tryd.func19, Tryd.ntmps19
    go_wp2_with fail
    go_quiet (first | (go_at_call 38; exact Calls.quiet_of_same (TK _)))
    have BN := below_drewN (Below.refl w.heap.size w) nq
    have hN := h.below BN (Nat.le_refl _)
    have TN := hT.below BN hT.pos
    obtain ⟨W, hW⟩ : ∃ W, W = w.drewN nq := ⟨_, rfl⟩
    rw [← hW] at BN hN TN ⊢
    clear hW c0 c1
    cases V with
    | false =>
      go_wp2
      go_ret2
      exact ⟨BN, .inl ⟨2, HV.out.trans (if_pos (by first | trivial | rfl)), by omega, rfl⟩⟩
    | true =>
      have HV2 : Hid (opnE z len most = match inflE (fun i => z (2 + i)) (len - 2) most with
        | .error k => .error k
        | .ok st => if clov (fun i => z (2 + ((st.1 + 7) / 8 + i))) (len - 2 - (st.1 + 7) / 8) (zb st.2) st.2.length = 0 then .ok st.2 else .error (clov (fun i => z (2 + ((st.1 + 7) / 8 + i))) (len - 2 - (st.1 + 7) / 8) (zb st.2) st.2.length)) := by
        show _ = _; rw [HV.out, if_neg (by simp)]
      clear HV
      by_cases hc2 : cap = 2
      · obtain rfl : len = 2 := by omega
        subst hc2
        have hL0 : Lies W (some ⟨b, off, none⟩) 0 0 (fun i => z (2 + i)) := ⟨by omega, by omega, fun i => h.byte _, fun h => by omega⟩
        go_wp2_with fail
        refine (inflate_any _ 0 0 (fun i => z (2 + i)) mo most HM.out hsm _ hL0 TN).mono ?_
        rintro e w1 ⟨b1, ⟨k, hE, hk, rfl⟩ | ⟨q, o, r, hE, rfl, hO, hby, hfit⟩⟩
        · have hk0 : ¬ (k : Int) = 0 := by omega
          have B1 := BN.trans (b1.mono BN.size)
          go_wp2
          go_ret2
          exact ⟨B1, .inl ⟨k, by show _ = _; rw [HV2.out]; have := hE.out; simp only [Nat.sub_self]; rw [this], hk, rfl⟩⟩
        · exact (ok_ne hE.out (inflE_nil _ _)).elim
      · have hL2 := lies_from hN (n := 2) (by omega)
        have HL : Hid (len - 2 = len - 2) := rfl
        go_wp2_with fail
        refine (inflate_any _ (len - 2) (cap - 2) (fun i => z (2 + i)) mo most HM.out hsm _ hL2 TN).mono ?_
        rintro e w1 ⟨b1, ⟨k, hE, hk, rfl⟩ | ⟨q, o, r, hE, rfl, hO, hby, hfit⟩⟩
        · have hk0 : ¬ (k : Int) = 0 := by omega
          have B1 := BN.trans (b1.mono BN.size)
          go_wp2
          go_ret2
          exact ⟨B1, .inl ⟨k, by show _ = _; rw [HV2.out, hE.out], hk, rfl⟩⟩
        · have hul := inflE_le hE.out
          obtain ⟨u, hu⟩ : ∃ u, Hid ((q + 7) / 8 = u) := ⟨_, rfl⟩
          have B1 := BN.trans (b1.mono BN.size)
          have HV3 : Hid (opnE z len most = if clov (fun i => z (2 + (u + i))) (len - 2 - u) (zb o) o.length = 0 then .ok o else .error (clov (fun i => z (2 + (u + i))) (len - 2 - u) (zb o) o.length)) := by
            show _ = _; rw [HV2.out, hE.out]; simp only [hu.out]
          simp only [hu.out] at hul ⊢
          obtain ⟨ra, rc, rfl, hLo⟩ := hO.liesB hby.out (by omega)
          have hL3 := hL2.below b1 (Nat.le_refl _)
          have hL4 := lies_from hL3 hul
          have hul' : (u : Int) ≤ (len - 2 : Nat) := by omega
          clear HV2 hE hL2 hL3
          obtain ⟨C, hC⟩ : ∃ C, Hid (clov (fun i => z (2 + (u + i))) (len - 2 - u) (zb o) o.length = C) := ⟨_, rfl⟩
          rw [hC.out] at HV3
          go_wp2_with fail
          · rename_i hcu
            refine (closed_any _ (len - 2 - u) 0 (fun i => z (2 + (u + i))) _ o.length rc (zb o) _ ⟨by omega, by omega, fun i => hby0.out _, fun h => by omega⟩ hLo).mono ?_
            rw [hC.out]
            rintro e w2 ⟨rfl, b2⟩
            have B2 := B1.trans (b2.mono B1.size)
            have hO2 := hO.below b2
            by_cases hC0 : C = 0
            · subst hC0
              go_wp2
              go_ret2
              exact ⟨B2, .inr ⟨o, _, HV3.out.trans (if_pos (by first | trivial | rfl)), rfl, hO2.mono' BN.size, hby, hfit⟩⟩
            · have hk0 : ¬ (C : Int) = 0 := by omega
              have HV4 : Hid (opnE z len most = .error C) := HV3.out.trans (if_neg hC0)
              clear HV3 hC0
              go_wp2
              go_ret2
              exact ⟨B2, .inl ⟨C, HV4, by omega, rfl⟩⟩
          · refine (closed_any _ (len - 2 - u) (cap - 2 - u) (fun i => z (2 + (u + i))) _ o.length rc (zb o) _ hL4 hLo).mono ?_
            rw [hC.out]
            rintro e w2 ⟨rfl, b2⟩
            have B2 := B1.trans (b2.mono B1.size)
            have hO2 := hO.below b2
            by_cases hC0 : C = 0
            · subst hC0
              go_wp2
              go_ret2
              exact ⟨B2, .inr ⟨o, _, HV3.out.trans (if_pos (by first | trivial | rfl)), rfl, hO2.mono' BN.size, hby, hfit⟩⟩
            · have hk0 : ¬ (C : Int) = 0 := by omega
              have HV4 : Hid (opnE z len most = .error C) := HV3.out.trans (if_neg hC0)
              clear HV3 hC0
              go_wp2
              go_ret2
              exact ⟨B2, .inl ⟨C, HV4, by omega, rfl⟩⟩
end Go.Proofs.YtahibacjaoohiaaDoor

namespace Go.Proofs.YtahibacjaoohiaaDoor
open Go.RowKit

/-- A frame about what is stored. -/
def layL (z : Nat → Nat) (n : Nat) : List Int := [120, 1] ++ stL z n 0 ++ bigL (adv z n)
theorem layL_len (z : Nat → Nat) (n : Nat) : (layL z n).length = (stL z n 0).length + 6 := by unfold layL; simp [bigL_len]
theorem two_byt : Byt [120, 1] := fun i => by rcases i with _ | _ | i <;> simp
theorem layL_byt {z : Nat → Nat} (hz : ∀ i, z i < 256) (n : Nat) : Byt (layL z n) := Byt.append (Byt.append two_byt (stL_byt hz n n 0 (by omega))) (bigL_byt (adv_lt z n))
theorem byt_bytes {S : List Int} (h : Byt S) {n : Nat} (hn : S.length = n) : byt (zb S) 0 n = S := by rw [← hn]; exact byt_zb h
/-- append, upon a row of the call's own. -/
theorem app_on {w w1 : World} {g c N : Nat} {xs ys : List Int} (hB : Below w.heap.size w w1) (hO : Own w1 w.heap.size 5 .u8 g c xs) {s : Option Addr} {m cm : Nat} (hL : SrcI w1 .u8 s m ys) (hN : xs.length = N) (hl : xs.length + m ≤ 150000000000000) :
    ∃ g' c' w', (Builtin.append_ #[23, 23] 23 #[.slice (some ⟨g, 0, none⟩) N c, .slice s m cm]).run Tryd.prog w1 = .ok (.slice (some ⟨g', 0, none⟩) (N + m) c') w' ∧ (Own w' w.heap.size 5 .u8 g' c' (xs ++ ys) ∧ Below w.heap.size w w' ∧ w1.grownBy w' (some g)) := by
  subst hN
  have hlen := hL.len
  obtain ⟨g', c', w', h1, h2, h3⟩ := hO.appendB hB.size (c := cm) hL (by omega)
  rw [List.length_append, hlen] at h1
  exact ⟨g', c', w', h1, h2, hB.grown h3 hB.size (fun k hk => by simp at hk; subst hk; exact hO.lt.1), h3⟩
theorem Own.src {w : World} {base g c : Nat} {xs : List Int} (h : Own w base 5 .u8 g c xs) : SrcI w .u8 (some ⟨g, 0, none⟩) xs.length xs :=
  ⟨rfl, fun _ => ⟨g, 0, rfl, fun j hj => by rw [Nat.zero_add]; exact h.cell hj⟩⟩
theorem Own.src' {w : World} {base g c n : Nat} {xs : List Int} (h : Own w base 5 .u8 g c xs) (hn : xs.length = n) : SrcI w .u8 (some ⟨g, 0, none⟩) n xs := by subst hn; exact h.src

set_option maxRecDepth 100000 in
set_option maxHeartbeats 1600000 in
theorem lay_any (a : Option Addr) (len cap : Nat) (z : Nat → Nat) (w : World) (h : Lies w a len cap z) (hl : len ≤ 140737488351232) :
    Calls Tryd.prog 16 #[.slice a len cap] w fun e w' => ∃ g c, e = .returned (.slice (some ⟨g, 0, none⟩) (layL z len).length c) ∧ Own w' w.heap.size 5 .u8 g c (layL z len) ∧ Below w.heap.size w w' := by
  have hNl := stL_len z len len 0 (by omega)
  obtain ⟨N, hN⟩ : ∃ N, Hid ((stL z len 0).length = N) := ⟨_, rfl⟩
  have hT : Hid ((layL z len).length = 2 + N + 4) := by show _ = _; rw [layL_len, hN.out]; omega
  have SG := stored_go a len cap z w h hl
  rw [hN.out] at hNl SG
  have hNb : N ≤ 149000000000000 := by omega
  obtain ⟨M, hM⟩ : ∃ M : Nat, (2 : Int) + N + 4 = M := ⟨2 + N + 4, by omega⟩
  have hMb : M ≤ 150000000000000 := by omega
  have hmk := make22c M hMb
  have hz := h.byte
  go_enter Tryd.func16, Tryd.ntmps16
  go_wp2_with fail
  refine SG.mono ?_
  rintro e w1 ⟨gs, cs, rfl, hS, b1⟩
  have bm : Below w.heap.size w (w1.alloc (.cells (arr M fun _ => .int .u8 0) 5)) := b1.alloc b1.size _
  have hO0 := own_made8 w1 w.heap.size M b1.size hMb
  have hS0 := hS.alloc (.cells (arr M fun _ => .int .u8 0) 5)
  obtain ⟨gm, hgm⟩ : ∃ gm, gm = w1.heap.size := ⟨_, rfl⟩
  have hne : gs ≠ gm := by have := hS.lt; omega
  obtain ⟨wm, hwm⟩ : ∃ wm, wm = w1.alloc (.cells (arr M fun _ => .int .u8 0) 5) := ⟨_, rfl⟩
  have bl : Below w.heap.size w (wm.alloc (.cells #[.int .u8 120, .int .u8 1] 5)) := by rw [hwm]; exact bm.alloc bm.size _
  rw [← hwm] at bm hO0 hS0
  rw [← hgm] at hO0
  have hO1 := hO0.alloc (.cells #[.int .u8 120, .int .u8 1] 5)
  have hS1 := hS0.alloc (.cells #[.int .u8 120, .int .u8 1] 5)
  have hLit : Own (wm.alloc (.cells #[.int .u8 120, .int .u8 1] 5)) w.heap.size 5 .u8 wm.heap.size 2 [120, 1] := own_lit wm w.heap.size 5 .u8 [120, 1] bm.size (by simp)
  have A1 : ∃ g' c' w', (Builtin.append_ #[23, 23] 23 #[.slice (some ⟨gm, 0, none⟩) 0 M, .slice (some ⟨wm.heap.size, 0, none⟩) 2 2]).run Tryd.prog (wm.alloc (.cells #[.int .u8 120, .int .u8 1] 5)) = .ok (.slice (some ⟨g', 0, none⟩) 2 c') w' ∧ _ := app_on bl hO1 (hLit.src' (n := 2) rfl) (N := 0) rfl (by simp)
  have HA1 : Hid (_) := A1
  have HWM : Hid (wm = _) := hwm
  have HGM : Hid (gm = w1.heap.size) := hgm
  have A2 : ∀ g1 c1 w2, (Own w2 w.heap.size 5 .u8 g1 c1 ([] ++ [120, 1]) ∧ Below w.heap.size w w2 ∧ (wm.alloc (.cells #[.int .u8 120, .int .u8 1] 5)).grownBy w2 (some gm)) → ∃ g' c' w', (Builtin.append_ #[23, 23] 23 #[.slice (some ⟨g1, 0, none⟩) 2 c1, .slice (some ⟨gs, 0, none⟩) N cs]).run Tryd.prog w2 = .ok (.slice (some ⟨g', 0, none⟩) (2 + N) c') w' ∧ (Own w' w.heap.size 5 .u8 g' c' ([] ++ [120, 1] ++ stL z len 0) ∧ Below w.heap.size w w' ∧ w2.grownBy w' (some g1)) := fun g1 c1 w2 hR =>
    app_on hR.2.1 hR.1 ((hS1.far hR.2.2 (by simpa using hne)).src' hN.out) rfl (by simp; omega)
  clear A1 hwm hgm hO0 hS0 hO1 hS1 hLit bl bm hS SG
  go_wp2_with (first
    | (rw [← HGM.out])
    | (rw [← HWM.out])
    | (at_builtin; refine wpList_append_ex rfl (.tmp 12) (.tmp 13) 23 rfl rfl rfl HA1.out ?_; rintro g1 c1 w2 hR1; have HR1 : Hid (_) := hR1; clear hR1)
    | (at_builtin; refine wpList_append_ex rfl (.tmp 15) (.tmp 16) 23 rfl rfl rfl (A2 _ _ _ HR1.out) ?_; rintro g2 c2 w3 hR2; have HR2 : Hid (_) := hR2; clear hR2))
  have h3 := h.below HR2.out.2.1 (Nat.le_refl _)
  refine (mark_any a len cap z _ h3).mono ?_
  rintro e w4 ⟨gk, rfl, hK, b4⟩
  have b3 := HR2.out.2.1
  have B4 := b3.trans (b4.mono b3.size)
  have O4 := HR2.out.1.below b4
  have A3 : ∃ g' c' w', (Builtin.append_ #[23, 23] 23 #[.slice (some ⟨g2, 0, none⟩) (2 + N) c2, .slice (some ⟨gk, 0, none⟩) 4 4]).run Tryd.prog w4 = .ok (.slice (some ⟨g', 0, none⟩) (2 + N + 4) c') w' ∧ _ := app_on B4 O4 (hK.src' (n := 4) rfl) (N := 2 + N) (by simp [hN.out]; omega) (by simp [hN.out]; omega)
  have HA3 : Hid (_) := A3
  clear A3 O4 hK b4 b3 h3 A2
  go_wp2_with (at_builtin; refine wpList_append_ex rfl (.tmp 18) (.tmp 20) 23 rfl rfl rfl HA3.out ?_; rintro g5 c5 w5 hR5; have HR5 : Hid (_) := hR5; clear hR5)
  go_ret
  exact ⟨g5, c5, by rw [hT.out]; rfl, HR5.out.1, HR5.out.2.1⟩
end Go.Proofs.YtahibacjaoohiaaDoor
