/-
  The reference's put.
-/
import Derived.Test.YtahibacjaoohiaaDoorRFl
namespace Go.Proofs.YtahibacjaoohiaaDoor
open Go.RowKit

set_option maxHeartbeats 1600000 in
theorem rput_no (B s sb : Nat) (a : Option Addr) (len cap : Nat) (z : Nat → Nat) (mo : Int) (most : Nat) (hm : (most : Int) = if mo < 0 then 0 else mo) (E : Nat) (v : Value) (p : Nat) (out : List Int) (c : Int) (w : World) (h : RFl w B s sb a len cap z mo E v p out) (hp : most ≤ out.length) :
    Calls Tryd.prog 50 #[.pointer (some ⟨s, 0, none⟩), .int .u8 c] w fun e w' => e = .returned (.bool false) ∧ RFl w' B s sb a len cap z mo (if E = 0 then 4 else E) v p out ∧ Moves s sb v v w w' := by
  obtain ⟨a1, cap1, rfl⟩ := h.own.form
  have c1 : w.cell? ⟨s, 1, none⟩ = some (.slice a1 out.length cap1) := blk_cell h.obj 1
  have c2 : w.cell? ⟨s, 2, none⟩ = some (.int .i64 mo) := blk_cell h.obj 2
  have h2 := h.fit
  obtain ⟨E1, hE1⟩ : ∃ E1, Hid ((if E = 0 then 4 else E) = E1) := ⟨_, rfl⟩
  rw [hE1.out]
  have HH : Hid (RFl w B s sb a len cap z mo E (.slice a1 out.length cap1) p out) := h
  clear h
  by_cases hpos : 0 < mo
  all_goals
    first
      | (have k2 : mo ≤ (out.length : Int) := by rw [if_neg (by omega)] at hm; omega
         have k3 : decide (mo ≤ (out.length : Int)) = true := decide_eq_true k2)
      | (have k1 : ¬ 0 < mo := hpos)
    have HM : Hid ((most : Int) = if mo < 0 then 0 else mo) := hm
    clear hm
    go_enter Tryd.func50, Tryd.ntmps50
    go_wp2_with fail
    go_quiet (fail)
    go_wp2_with fail
    refine (fails_any B s sb a len cap z mo E _ p out 4 _ (HH.out.below (below_drewN (Below.refl _ _) nq))).mono ?_
    rw [hE1.out]
    rintro e w2 ⟨rfl, hF2, hM2⟩
    go_wp2
    go_ret
    exact ⟨rfl, hF2, ((Moves.refl _ _ _ _).drewN _).trans hM2⟩
theorem rgrown_obj {w W w1 : World} {B s sb : Nat} {aa : Option Addr} {len cp : Nat} {z : Nat → Nat} {mo : Int} {E : Nat} {v : Value} {p : Nat} {out : List Int} {a : Option Addr} {cap : Nat} {o : Obj} {n : Nat} (hv : v = .slice a out.length cap) (_hW : W = (w.drewN n).alloc o) (HS : RFl W B s sb aa len cp z mo E v p out) (h : RFl w B s sb aa len cp z mo E v p out)
    (hg : World.grownBy ((w.drewN n).alloc o) w1 (Value.slice a out.length cap).ownBlock) :
    w1.cell? ⟨s, 1, none⟩ = some (.slice a out.length cap) ∧ w1.frozen? ⟨s, 1, none⟩ = false ∧ w1.heap[s]? = some (.cells #[.pointer (some ⟨sb, 0, none⟩), v, .int .i64 mo, .int .i64 (E : Nat)] 68) := by
  rw [← hv, ← _hW] at hg
  have ob1 : w1.heap[s]? = some (.cells #[.pointer (some ⟨sb, 0, none⟩), v, .int .i64 mo, .int .i64 (E : Nat)] 68) := (hg.block s (blk_lt HS.obj) (fun e => h.ns e.symm)).trans HS.obj
  exact ⟨by rw [← hv]; exact blk_cell ob1 1, blk_free ob1 1, ob1⟩
theorem rput_end {w W w1 : World} {B s sb : Nat} {aa : Option Addr} {len cp : Nat} {z : Nat → Nat} {mo : Int} {E : Nat} {v : Value} {p : Nat} {out : List Int} {a : Option Addr} {cap : Nat} {o : Obj} {n : Nat} {c : Int} {g' cap' : Nat} (hv : v = .slice a out.length cap) (hW : W = (w.drewN n).alloc o) (HM : Moves s sb v v w W) (HS : RFl W B s sb aa len cp z mo E v p out) (h : RFl w B s sb aa len cp z mo E v p out) (hc0 : 0 ≤ c) (hc1 : c < 256) (hp : out.length < 10000000)
    (hR : Own w1 B 5 .u8 g' cap' (out ++ [c]) ∧ World.grownBy ((w.drewN n).alloc o) w1 (Value.slice a out.length cap).ownBlock ∧ ((Value.slice a out.length cap).ownBlock = some g' ∨ g' = ((w.drewN n).alloc o).heap.size))
    (ob1 : w1.heap[s]? = some (.cells #[.pointer (some ⟨sb, 0, none⟩), v, .int .i64 mo, .int .i64 (E : Nat)] 68)) :
    ∃ v', RFl (w1.setCell ⟨s, 1, none⟩ (.slice (some ⟨g', 0, none⟩) (out.length + 1) cap')) B s sb aa len cp z mo E v' p (out ++ [c]) ∧ Moves s sb v v' w (w1.setCell ⟨s, 1, none⟩ (.slice (some ⟨g', 0, none⟩) (out.length + 1) cap')) := by
  rw [← hv, ← hW] at hR
  obtain ⟨ho, hg, hat⟩ := hR
  have kW : Kept (Mine s sb v) W w1 := ⟨hg.os, hg.tape, hg.output, hg.size, fun k hk hm => hg.block k hk (fun e => hm (.inr (.inr e.symm)))⟩
  have hne : g' ≠ s := fun e => by
    rcases hat with h' | h'
    · exact h.ns (e ▸ h')
    · have := blk_lt HS.obj; omega
  have mW : Moves s sb v (.slice (some ⟨g', 0, none⟩) (out.length + 1) cap') W (w1.setCell ⟨s, 1, none⟩ (.slice (some ⟨g', 0, none⟩) (out.length + 1) cap')) := by
    refine ⟨kW.setCell (.inl (.inl rfl)) _, ?_⟩
    rcases hat with h' | h'
    · left; rw [h']; rfl
    · right; intro k hk; simp [Value.ownBlock] at hk; omega
  have K2 : Kept (fun k => k = s ∨ v.ownBlock = some k) W (w1.setCell ⟨s, 1, none⟩ (.slice (some ⟨g', 0, none⟩) (out.length + 1) cap')) := by
    have k1 : Kept (fun k => k = s ∨ v.ownBlock = some k) W w1 := ⟨hg.os, hg.tape, hg.output, hg.size, fun k hk hm => hg.block k hk (fun e => hm (.inr e.symm))⟩
    exact k1.setCell (.inl (.inl rfl)) _
  refine ⟨.slice (some ⟨g', 0, none⟩) (out.length + 1) cap', ⟨blk_set ob1 1 _, HS.bits.kept K2 ?_ ?_, ?_, ?_, ?_, h.far, h.bs, h.bb, Nat.le_trans HS.sz mW.kept.size⟩, HM.trans mW⟩
  · rintro (e | e)
    · exact h.sb' e.symm
    · exact h.nb e
  · rintro hl b off ea (e | e)
    · have := h.far b off hl ea; have := h.bs; omega
    · have := h.far b off hl ea
      have := (h.mine (.inr (.inr e))).1
      omega
  · exact own_v (ho.blk (blk_other _ hne)) (by simp)
  · intro q
    rw [getD_snoc]
    split
    · exact h.byte q
    · split <;> omega
  · simp; omega
set_option maxHeartbeats 1600000 in
theorem rput_yes (B s sb : Nat) (a : Option Addr) (len cap : Nat) (z : Nat → Nat) (mo : Int) (most : Nat) (hm : (most : Int) = if mo < 0 then 0 else mo) (hml : most ≤ 2000000) (E : Nat) (v : Value) (p : Nat) (out : List Int) (c : Int) (hc0 : 0 ≤ c) (hc1 : c < 256) (w : World) (h : RFl w B s sb a len cap z mo E v p out) (hp : ¬ most ≤ out.length) :
    Calls Tryd.prog 50 #[.pointer (some ⟨s, 0, none⟩), .int .u8 c] w fun e w' => e = .returned (.bool true) ∧ ∃ v', RFl w' B s sb a len cap z mo E v' p (out ++ [c]) ∧ Moves s sb v v' w w' := by
  obtain ⟨a1, cap1, hv⟩ := h.own.form
  have c1 : w.cell? ⟨s, 1, none⟩ = some (.slice a1 out.length cap1) := by rw [← hv]; exact blk_cell h.obj 1
  have c2 : w.cell? ⟨s, 2, none⟩ = some (.int .i64 mo) := blk_cell h.obj 2
  have hneg : ¬ mo < 0 := fun e => by rw [if_pos e] at hm; omega
  have k1 : 0 < mo := by rw [if_neg hneg] at hm; omega
  have k3 : decide (mo ≤ (out.length : Int)) = false := decide_eq_false (by rw [if_neg hneg] at hm; omega)
  have k4 : mo ≤ 2000000 := by rw [if_neg hneg] at hm; omega
  have hol : out.length < 10000000 := by omega
  have HMo : Hid ((most : Int) = if mo < 0 then 0 else mo) := hm
  clear hm hneg
  go_enter Tryd.func50, Tryd.ntmps50
  go_wp2_with fail
  go_quiet (fail)
  obtain ⟨W, hW⟩ : ∃ W, Hid (W = (w.drewN nq).alloc (.cells #[.int .u8 c] 5)) := ⟨_, rfl⟩
  have bW : Below w.heap.size w W := by rw [hW.out]; exact (below_drewN (Below.refl _ w) nq).alloc (Nat.le_refl _) _
  have HS : RFl W B s sb a len cap z mo E v p out := h.below bW
  have HM : Moves s sb v v w W := Moves.of_below bW
  have HB : W.heap[w.heap.size]? = some (.cells #[.int .u8 c] 5) := by rw [hW.out]; exact blk_new (w.drewN nq) _
  have happ := HS.own.one HS.sz HB (by omega)
  rw [hv, hW.out] at happ
  have HAP : Hid (_) := happ
  have HSb : Hid (RFl W B s sb a len cap z mo E v p out) := HS
  have HH : Hid (RFl w B s sb a len cap z mo E v p out) := h
  clear happ HB HS h bW
  go_wp2_with (at_builtin; refine wpList_append_ex rfl (.tmp 22) (.tmp 24) 23 rfl rfl rfl HAP.out ?_; rintro g' cap' w1 hR; have ob1 := rgrown_obj hv hW.out HSb.out HH.out hR.2.1; have d1 := ob1.1; have d2 := ob1.2.1; have d3 := ob1.2.2; clear ob1; have HR : Hid (_) := hR; clear hR)
  go_ret
  exact ⟨rfl, rput_end hv hW.out HM HSb.out HH.out hc0 hc1 hol HR.out d3⟩
end Go.Proofs.YtahibacjaoohiaaDoor
