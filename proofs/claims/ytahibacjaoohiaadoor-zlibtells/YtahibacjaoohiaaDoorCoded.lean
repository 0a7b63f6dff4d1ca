/-
  flate's again and coded as contracts: copies, and a block's symbols one behind the other.
-/
import Derived.Test.YtahibacjaoohiaaDoorSprd
namespace Go.Proofs.YtahibacjaoohiaaDoor
open Go.RowKit

/-- A call that takes bits and says bytes: behind it the stream stands elsewhere, or it tells why not. -/
def TellsO (B s b g len : Nat) (z : Nat → Nat) (most : Nat) (v : Value) (x : Six) (E : Except Nat St) (w : World) (e : Ending) (w' : World) : Prop :=
  (∃ k v', Hid (E = .error k) ∧ 0 < k ∧ e = .returned (.int .i64 (k : Nat)) ∧ Moves s b v v' w w') ∨ ∃ v' q o, Hid (E = .ok (q, o)) ∧ e = .returned (.int .i64 0) ∧ Strm w' B s b g len z most v' x q o ∧ Moves s b v v' w w'
theorem cpE_full {most back n : Nat} {out : List Int} (h : most ≤ out.length) (hn : 0 < n) : cpE most back n out = .error 4 := by
  obtain ⟨m, rfl⟩ : ∃ m, n = m + 1 := ⟨n - 1, by omega⟩
  unfold cpE; rw [if_pos h]
theorem cpE_step {most back n : Nat} {out : List Int} (h : ¬ most ≤ out.length) (hn : 0 < n) : cpE most back n out = cpE most back (n - 1) (out ++ [out.getD (out.length - back) 0]) := by
  obtain ⟨m, rfl⟩ : ∃ m, n = m + 1 := ⟨n - 1, by omega⟩
  conv => lhs; unfold cpE
  rw [if_neg h]; rfl
theorem lenE_le {z : Nat → Nat} {lim p sy : Nat} {n q : Nat} (h : lengthE z lim p sy = .ok (n, q)) (hp : p ≤ lim) : n ≤ 70000 := (lengthE_ok h hp).2.2

set_option maxRecDepth 100000 in
set_option maxHeartbeats 1600000 in
theorem again_any (B s b g len : Nat) (z : Nat → Nat) (most : Nat) (v : Value) (x : Six) (p : Nat) (out : List Int) (sy : Nat) (hs : 257 ≤ sy) (hs2 : sy < 320) (a0 a1 a2 : Value) (N : Nat) (L : Nat → Nat) (w : World) (h : Strm w B s b g len z most v x p out) (hA : Alph w s b v a0 a1 a2 N L) :
    Calls Tryd.prog 61 #[.pointer (some ⟨s, 0, none⟩), .int .i64 (sy : Nat), .agg #[a0, a1, a2]] w (TellsO B s b g len z most v x (againE L N z (8 * len) most sy p out) w) := by
  have h' := h.alloc (.cells #[a0, a1, a2] 55)
  have A' := hA.below ((Below.refl _ _).alloc (Nat.le_refl _) (.cells #[a0, a1, a2] 55))
  have m' := (Moves.refl s b v w).alloc (.cells #[a0, a1, a2] 55)
  have gb := blk_new w (.cells #[a0, a1, a2] 55)
  have nm : ¬ Mine s b v w.heap.size := fun e => by have := h.mine e; omega
  have hlim := h.bits.lim
  go_enter Tryd.func61, Tryd.ntmps61
  go_wp2_with fail
  refine (length_any B s b g len z most v x p out sy hs hs2 _ h').mono ?_
  rintro e w1 ⟨hM, ⟨k, hE, hk, rfl⟩ | ⟨n, q, hE, rfl, hS⟩⟩
  · have hk0 : ¬ (k : Int) = 0 := by omega
    go_wp2
    go_ret
    exact .inl ⟨k, v, by show _ = _; unfold againE; rw [hE.out], hk, rfl, m'.trans hM⟩
  · have hn : n ≤ 70000 := lenE_le hE.out hlim
    have gb1 := hM.blk gb nm
    have c0 : w1.cell? ⟨w.heap.size, 0, none⟩ = some a0 := blk_cell gb1 0
    have c1 : w1.cell? ⟨w.heap.size, 1, none⟩ = some a1 := blk_cell gb1 1
    have c2 : w1.cell? ⟨w.heap.size, 2, none⟩ = some a2 := blk_cell gb1 2
    have M1 := m'.trans hM
    have A1 := A'.moves hM
    clear h h' A' m' gb hM
    go_wp2_with fail
    refine (distance_any B s b g len z most v x q out a0 a1 a2 N L _ hS A1).mono ?_
    rintro e w2 ⟨hM2, ⟨k, hE2, hk, rfl⟩ | ⟨d, q2, hE2, rfl, hS2⟩⟩
    · have hk0 : ¬ (k : Int) = 0 := by omega
      go_wp2
      go_ret
      exact .inl ⟨k, v, by show _ = _; unfold againE; rw [hE.out]; simp only; rw [hE2.out], hk, rfl, M1.trans hM2⟩
    · have hd := (distE_ok hE2.out).2.2
      have hd1 : 0 < d := hd.1
      have hd2 : d ≤ 70000 := hd.2
      obtain ⟨a, cap, hv⟩ := hS2.own.form
      have o1 : w2.cell? ⟨s, 1, none⟩ = some (.slice a out.length cap) := by rw [← hv]; exact blk_cell hS2.obj 1
      have hf := hS2.fit
      have hsm := hS2.small
      have M2 := M1.trans hM2
      clear hd gb1 c0 c1 c2 A1 hS hM2 M1
      by_cases hfar : out.length < d
      · have hfar' : (out.length : Int) < d := by omega
        go_wp2
        go_ret
        exact .inl ⟨2, v, by show _ = _; unfold againE; rw [hE.out]; simp only; rw [hE2.out]; simp only; rw [if_pos hfar], by omega, rfl, M2⟩
      · have hfar' : ¬ (out.length : Int) < d := by omega
        have HE : Hid (againE L N z (8 * len) most sy p out = match cpE most d n out with | .error e => .error e | .ok o => .ok (q2, o)) := by
          show _ = _; unfold againE; rw [hE.out]; simp only; rw [hE2.out]; simp only; rw [if_neg hfar]; rfl
        have HV : Hid (v = .slice a out.length cap) := hv
        clear hE hE2 hv
        go_wp2_with fail
        go_loopw [37] (fun j wq => ∃ (i : Nat) (v1 : Value) (u1 : List Int), i ≤ n ∧ j = .int .i64 i ∧ Strm wq B s b g len z most v1 x q2 u1 ∧ Moves s b v v1 w wq ∧ Hid (cpE most d (n - i) u1 = cpE most d n out) ∧ d ≤ u1.length) (fun j _ => n - (intOf j).toNat)
        case atStart => exact ⟨0, v, out, by omega, rfl, hS2, M2, rfl, by omega⟩
        case round =>
          clear hS2 M2 o1 hfar hfar' hf hsm HV
          obtain ⟨i, v1, u1, hi, rfl, hS, hM, hcp, hdu⟩ := hrel
          by_cases hin : i < n
          · have hin' : (i : Int) < n := by omega
            obtain ⟨g1, cap1, rfl, hO⟩ := hS.own.own (by omega)
            have hf := hS.fit
            have hsm := hS.small
            have e1 : wr.cell? ⟨s, 1, none⟩ = some (.slice (some ⟨g1, 0, none⟩) u1.length cap1) := blk_cell hS.obj 1
            have e2 : wr.cell? ⟨g1, u1.length - d, none⟩ = some (.int .u8 (u1.getD (u1.length - d) 0)) := hO.cell (by omega)
            obtain ⟨c, hc⟩ : ∃ c, Hid (u1.getD (u1.length - d) 0 = c) := ⟨_, rfl⟩
            rw [hc.out] at e2
            have hby := hS.byte (u1.length - d)
            rw [hc.out] at hby
            have hX : (u1.length : Int) - (d : Int) = ((u1.length - d : Nat) : Int) := by omega
            have hXl : u1.length - d < u1.length := by omega
            obtain ⟨X, hXe⟩ : ∃ X, Hid (u1.length - d = X) := ⟨_, rfl⟩
            rw [hXe.out] at hX hXl e2
            have hlc := hO.lc.1
            have hcm := hO.lc.2
            unfold maxLen at hcm
            have hwin := Ext.inh wr
            have d1 := fun k : Ext wr => Ext.cell e1 k
            have d2 := fun k : Ext wr => Ext.cell e2 k
            have HSr : Hid (Strm wr B s b g len z most (.slice (some ⟨g1, 0, none⟩) u1.length cap1) x q2 u1) := hS
            clear hS hO
            go_wp2_with fail
            refine region_ext_cone 14 (by kernel_rfl) (by kernel_rfl) ?_
            simp only [List.take_succ_cons, List.take_zero, List.drop_succ_cons, List.drop_zero]
            repeat (go_big_quiet_step (fail))
            refine wpQuiet_nil ?_
            rintro _ ⟨k, rfl⟩
            have S2 := HSr.out.below k.h
            have M2 := hM.trans (Moves.of_below k.h)
            clear d1 d2 hwin e1 e2 HSr hM
            by_cases hfull : most ≤ u1.length
            · go_wp2_with fail
              refine (put_no B s b g len z most (.slice (some ⟨g1, 0, none⟩) u1.length cap1) x q2 u1 c _ S2 hfull).mono ?_
              rintro e w3 ⟨rfl, hM3⟩
              go_wp2
              go_ret
              exact .inl ⟨4, _, by show _ = _; rw [HE.out, ← hcp.out, cpE_full hfull (by omega)], by omega, rfl, M2.trans hM3⟩
            · go_wp2_with fail
              refine (put_yes B s b g len z most (.slice (some ⟨g1, 0, none⟩) u1.length cap1) x q2 u1 c hby.1 hby.2 _ S2 hfull).mono ?_
              rintro e w3 ⟨rfl, v3, hS3, hM3⟩
              have HS3 : Hid (Strm w3 B s b g len z most v3 x q2 (u1 ++ [c])) := hS3
              clear hS3 S2
              go_wp2
              refine ⟨⟨i + 1, v3, u1 ++ [c], by omega, by go_num, HS3.out, M2.trans hM3, ?_, by simp; omega⟩, by simp [intOf]; omega⟩
              show _ = _
              rw [← hcp.out, cpE_step hfull (show 0 < n - i by omega), hc.out, show n - (i + 1) = n - i - 1 by omega]
          · have hin' : ¬ (i : Int) < n := by omega
            obtain rfl : i = n := by omega
            go_wp2
            go_ret
            refine .inr ⟨v1, q2, u1, ?_, rfl, hS, hM⟩
            show _ = _
            rw [HE.out, ← hcp.out, Nat.sub_self]; rfl
end Go.Proofs.YtahibacjaoohiaaDoor
