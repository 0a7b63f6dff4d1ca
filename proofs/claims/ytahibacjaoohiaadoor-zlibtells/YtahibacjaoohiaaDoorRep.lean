/-
  flate's repeat and fixedLengths as contracts.
-/
import Derived.Test.YtahibacjaoohiaaDoorStrm
namespace Go.Proofs.YtahibacjaoohiaaDoor
open Go.RowKit

/-- What is appended to a row of the call's own turns no other block. -/
structure RowM (v v' : Value) (w w' : World) : Prop where
  kept : Kept (fun k => v.ownBlock = some k) w w'
  own : v'.ownBlock = v.ownBlock ∨ ∀ k, v'.ownBlock = some k → w.heap.size ≤ k
theorem RowM.refl (v : Value) (w : World) : RowM v v w w := ⟨Kept.refl _ _, .inl rfl⟩
theorem RowM.trans {u v x : Value} {w w1 w2 : World} (h : RowM u v w w1) (k : RowM v x w1 w2) : RowM u x w w2 := by
  refine ⟨⟨k.kept.os.trans h.kept.os, k.kept.tape.trans h.kept.tape, k.kept.output.trans h.kept.output, Nat.le_trans h.kept.size k.kept.size, fun i hi ha => ?_⟩, ?_⟩
  · rw [k.kept.block i (Nat.lt_of_lt_of_le hi h.kept.size) (fun e => by
      rcases h.own with h1 | h1
      · exact ha (h1 ▸ e)
      · have := h1 i e; omega), h.kept.block i hi ha]
  · rcases k.own with h1 | h1
    · rw [h1]; exact h.own
    · exact .inr fun i hi => Nat.le_trans h.kept.size (h1 i hi)
theorem RowM.alloc {v v' : Value} {w w' : World} (h : RowM v v' w w') (o : Obj) : RowM v v' w (w'.alloc o) := ⟨h.kept.alloc o, h.own⟩
theorem RowM.grown {v : Value} {w w' : World} {g n cap : Nat} (hg : w.grownBy w' v.ownBlock) (hat : v.ownBlock = some g ∨ g = w.heap.size) : RowM v (.slice (some ⟨g, 0, none⟩) n cap) w w' := by
  refine ⟨⟨hg.os, hg.tape, hg.output, hg.size, fun k hk ha => hg.block k hk (fun e => ha e.symm)⟩, ?_⟩
  rcases hat with h | h
  · left; rw [h]; rfl
  · right; intro k hk; simp [Value.ownBlock] at hk; omega
theorem RowM.below {v v' : Value} {w w' : World} (h : RowM v v' w w') {B : Nat} (hB : B ≤ w.heap.size) (hv : ∀ k, v.ownBlock = some k → B ≤ k) : Below B w w' := h.kept.below hB hv

theorem OwnV.oneI {w : World} {base : Nat} {v : Value} {xs : List Int} (h : OwnV w base 3 .i64 v xs) (hbase : base ≤ w.heap.size) {C : Nat} {x : Int} (hB : w.heap[C]? = some (.cells #[.int .i64 x] 3)) (hlen : xs.length ≤ 100000) :
    ∃ g' cap' w', (Builtin.append_ #[24, 24] 24 #[v, .slice (some ⟨C, 0, none⟩) 1 1]).run Tryd.prog w = .ok (.slice (some ⟨g', 0, none⟩) (xs.length + 1) cap') w' ∧ (Own w' base 3 .i64 g' cap' (xs ++ [x]) ∧ w.grownBy w' v.ownBlock ∧ (v.ownBlock = some g' ∨ g' = w.heap.size)) := by
  obtain ⟨i, hi', h1, h2, h3⟩ := info_of info3
  obtain ⟨g', cap', w', hr, ho, hg, hat, _⟩ := run_append_lies (P := Tryd.prog) w 24 24 base 3 i (.int .i64 0) 1 8 Tryd.underlying24 hi' h1 h3 h2 rfl (by omega) v xs.length _ h ⟨C, 0, none⟩ 1 1 [.int .i64 x] rfl
    (fun j u hj => by
      have := World.news_of_block hB j u (by simpa using hj)
      exact this)
    (by intro u hu; simp at hu; subst hu; rfl) (by omega) (by unfold maxLen; omega) (by omega) hbase w.heap.size rfl
  refine ⟨g', cap', w', hr, ?_, hg, hat⟩
  unfold Own; rw [List.length_append, List.map_append]; exact ho
theorem rep_up (xs : List Int) (l : Int) (i : Nat) : xs ++ List.replicate i l ++ [l] = xs ++ List.replicate (i + 1) l := by
  rw [List.append_assoc, ← List.replicate_succ']

set_option maxRecDepth 100000 in
set_option maxHeartbeats 800000 in
theorem repeat_any (base : Nat) (v : Value) (xs : List Int) (l : Int) (t : Nat) (w : World) (h : OwnV w base 3 .i64 v xs) (hb : base ≤ w.heap.size) (hl : xs.length + t ≤ 10000) :
    Calls Tryd.prog 70 #[v, .int .i64 l, .int .i64 (t : Nat)] w fun e w' => ∃ v', e = .returned v' ∧ OwnV w' base 3 .i64 v' (xs ++ List.replicate t l) ∧ RowM v v' w w' := by
  go_enter Tryd.func70, Tryd.ntmps70
  go_wp2_with fail
  go_loopw [0, 8] (fun u j wq => ∃ i : Nat, i ≤ t ∧ j = .int .i64 i ∧ OwnV wq base 3 .i64 u (xs ++ List.replicate i l) ∧ RowM v u w wq) (fun _ j _ => t - (intOf j).toNat)
  case atStart => exact ⟨0, by omega, rfl, by simpa using h, RowM.refl _ _⟩
  case round =>
    obtain ⟨i, hi, rfl, hO, hM⟩ := hrel
    by_cases hin : i < t
    · have hin' : (i : Int) < t := by omega
      obtain ⟨ys, hys⟩ : ∃ ys, Hid (xs ++ List.replicate i l = ys) := ⟨_, rfl⟩
      rw [hys.out] at hO
      have hlen : ys.length ≤ 10000 := by rw [← hys.out]; simp; omega
      obtain ⟨a, cap, rfl⟩ := hO.form
      obtain ⟨W, hW⟩ : ∃ W, Hid (W = wr.alloc (.cells #[.int .i64 l] 3)) := ⟨_, rfl⟩
      have O2 : OwnV W base 3 .i64 (.slice a ys.length cap) ys := by rw [hW.out]; exact hO.alloc _
      have HB : W.heap[wr.heap.size]? = some (.cells #[.int .i64 l] 3) := by rw [hW.out]; exact blk_new wr _
      have hsz : base ≤ W.heap.size := by rw [hW.out]; simp; have := hM.kept.size; omega
      have M2 := hM.alloc (.cells #[.int .i64 l] 3)
      have happ := O2.oneI hsz HB (by omega)
      rw [hW.out] at happ
      have HAP : Hid (_) := happ
      have HM2 : Hid (RowM v (.slice a ys.length cap) w (wr.alloc (.cells #[.int .i64 l] 3))) := M2
      clear happ HB O2 hO hM M2 hsz h
      go_wp2_with (at_builtin; refine wpList_append_ex rfl (.tmp 10) (.tmp 12) 24 rfl rfl rfl HAP.out ?_; rintro g' cap' w1 hR; have HR : Hid (_) := hR; clear hR)
      obtain ⟨r1, r2, r3⟩ := HR.out
      refine ⟨⟨i + 1, by omega, by go_num, ?_, HM2.out.trans (RowM.grown r2 r3)⟩, by simp [intOf]; omega⟩
      rw [← rep_up, hys.out]
      exact own_v r1 (by simp)
    · have hin' : ¬ (i : Int) < t := by omega
      obtain rfl : i = t := by omega
      go_wp2
      go_ret
      exact ⟨_, rfl, hO, hM⟩
end Go.Proofs.YtahibacjaoohiaaDoor
