/-
  The walk of LazyCounts, over a slice that is not nil, and over an empty one.
-/
import Derived.Test.YtbaolijhjijlmaaPick
import Derived.Deep.RegionHeld3
import Derived.LoopTactic
namespace Go.Proofs.Ytbaolijhjijlmaa
open Go.RowKit

theorem two_new (w : World) (o p : Obj) : ((w.alloc o).alloc p).heap[w.heap.size]? = some o ∧ ((w.alloc o).alloc p).heap[w.heap.size + 1]? = some p := by
  refine ⟨blk_alloc (blk_new w o) p, ?_⟩
  have := blk_new (w.alloc o) p
  rwa [World.size_alloc] at this

theorem upd_same (x : Nat → Int) (k : Nat) : upd x k (x k) = x := by
  funext i; unfold upd; split
  · subst_vars; rfl
  · rfl

set_option maxRecDepth 100000 in
set_option maxHeartbeats 3200000 in
theorem counts_walk (b off len cap : Nat) (fx fy fz : Nat → Int) (w : World) (_hl : len ≤ maxLen) (hbw : b < w.heap.size)
    (cx : ∀ i, i < len → w.cell? ⟨b, off + i * 3, none⟩ = some (.int .i64 (fx i)))
    (cy : ∀ i, i < len → w.cell? ⟨b, off + i * 3 + 1, none⟩ = some (.int .i64 (fy i)))
    (cz : ∀ i, i < len → w.cell? ⟨b, off + i * 3 + 2, none⟩ = some (.int .i64 (fz i))) :
    Calls Try.prog 5 #[.slice (some ⟨b, off, none⟩) len cap] w fun e w' => e = .returned (.bool true) ∧ Below w.heap.size w w' := by
  unfold maxLen at _hl
  have hnot : ∀ (x : Bool) (w : World), (Op.unary .not (.bool x)).run Try.prog w = .ok (.bool (!x)) w := fun _ _ => rfl
  go_enter Try.func5, Try.ntmps5
  go_wp2_with fail
  refine (known_any w).mono ?_
  rintro e w1 ⟨rfl, bl1⟩
  have hs1 := bl1.size
  go_wp2_with fail
  go_loopw [5] (fun i wr => ∃ (n : Nat) (x : Nat → Int), n ≤ 60 ∧ i = .int .i64 n ∧ Three w1.heap.size 43 x wr ∧ Three (w1.heap.size + 1) 44 x wr ∧ Below w.heap.size w wr) (fun i _ => 60 - (intOf i).toNat)
  case atStart => exact ⟨0, fun _ => 0, by omega, rfl, (two_new w1 _ _).1, (two_new w1 _ _).2, (bl1.alloc (by omega) _).alloc (by simp; omega) _⟩
  case round =>
    obtain ⟨n, x, hn, rfl, h43, h44, bel⟩ := hrel
    by_cases hlt : n < len
    · by_cases h60 : n < 60
      · have gx : wr.cell? ⟨b, off + n * 3, none⟩ = some (.int .i64 (fx n)) := (bel.cell (by exact hbw)).trans (cx n hlt)
        have gy : wr.cell? ⟨b, off + n * 3 + 1, none⟩ = some (.int .i64 (fy n)) := (bel.cell (by exact hbw)).trans (cy n hlt)
        have gz : wr.cell? ⟨b, off + n * 3 + 2, none⟩ = some (.int .i64 (fz n)) := (bel.cell (by exact hbw)).trans (cz n hlt)
        clear cx cy cz
        go_wp2_with fail
        refine (pick_any _ 3 (by decide) (by decide) _).mono ?_
        rintro e w' ⟨k, -, hk, rfl, rfl⟩
        have hk3 : k < 3 := by omega
        go_wp2_with fail
        refine (pick_any _ 5 (by decide) (by decide) _).mono ?_
        rintro e w' ⟨q, -, hq, rfl, rfl⟩
        have g4 := three_cell h44 hk3
        have f4 := three_free h44
        have c4 := fun v => World.cell?_setCell_same w' ⟨w1.heap.size + 1, k, none⟩ v g4
        have k0 : (0 : Int) ≤ (k : Int) := by omega
        by_cases hq3 : (q : Int) < 3
        · go_wp2_with fail
          have g3 : (w'.setCell ⟨w1.heap.size + 1, k, none⟩ (.int .i64 (wrap64 (x k + (fz n).tmod 1099511627776)))).cell? ⟨w1.heap.size, k, none⟩ = some (.int .i64 (x k)) := (World.cell?_setCell_other _ _ _ _ (by simp)).trans (three_cell h43 hk3)
          have f3 := three_free h43
          go_region_held3 (fun W => W.cell? ⟨w1.heap.size + 1, k, none⟩ = some (.int .i64 (wrap64 (x k + (fz n).tmod 1099511627776)))) (go_keep)
            (first | (go_at_call 12; refine (add_any w1.heap.size k (x k) _ _ ?_ ?_).mono ?_; (simp [*]); (simp [*]); rintro e w'' ⟨rfl, rfl⟩))
          obtain ⟨wx, hwx⟩ : ∃ wx, wx = ((w'.setCell ⟨w1.heap.size + 1, k, none⟩ (.int .i64 (wrap64 (x k + (fz n).tmod 1099511627776)))).setCell ⟨w1.heap.size, k, none⟩ (.int .i64 (wrap64 (x k + (fz n).tmod 1099511627776)))).drew := ⟨_, rfl⟩
          rw [← hwx]
          have T43 : Three w1.heap.size 43 (upd x k (wrap64 (x k + (fz n).tmod 1099511627776))) wx := by rw [hwx]; exact three_drew (three_set (three_other h43 (by simp) _) hk3 _)
          have T44 : Three (w1.heap.size + 1) 44 (upd x k (wrap64 (x k + (fz n).tmod 1099511627776))) wx := by rw [hwx]; exact three_drew (three_other (three_set h44 hk3 _) (by simp) _)
          have bel2 : Below w.heap.size w wx := by rw [hwx]; exact ((bel.setCell (by simp; omega) _).setCell (by simp; omega) _).drew
          clear hwx g3 f3 g4 f4 c4 gx gy gz h43 h44 bel
          go_wp2_with fail
          go_loopw [8] (fun j wq => ∃ m : Nat, m ≤ 3 ∧ j = .int .i64 m ∧ Three w1.heap.size 43 (upd x k (wrap64 (x k + (fz n).tmod 1099511627776))) wq ∧ Three (w1.heap.size + 1) 44 (upd x k (wrap64 (x k + (fz n).tmod 1099511627776))) wq ∧ Below w.heap.size w wq) (fun j _ => 3 - (intOf j).toNat)
          case atStart => exact ⟨0, by omega, rfl, T43, T44, bel2⟩
          case round =>
            clear T43 T44 bel2
            obtain ⟨m, hm, rfl, t43, t44, bel3⟩ := hrel
            by_cases hm3 : m < 3
            · have e3 := three_cell t43 hm3
              have e4 := three_cell t44 hm3
              have m0 : (0 : Int) ≤ (m : Int) := by omega
              have m3 : (m : Int) < 3 := by omega
              go_wp2_with fail
              go_region_held3 (fun W => W.cell? ⟨w1.heap.size + 1, m, none⟩ = some (.int .i64 ((upd x k (wrap64 (x k + (fz n).tmod 1099511627776))) m))) (go_keep)
                (first | (go_at_call 15; refine (now_any w1.heap.size m ((upd x k (wrap64 (x k + (fz n).tmod 1099511627776))) m) _ ?_).mono ?_; (simp [*]); rintro e w'' ⟨rfl, rfl⟩))
              go_wp2
              go_roundw
              case rel => exact ⟨m + 1, by omega, by go_num, three_drew t43, three_drew t44, bel3.drew⟩
              case measure => simp [intOf]; omega
            · have m3 : ¬ (m : Int) < 3 := by omega
              go_wp2
              go_roundw
              case rel => exact ⟨n + 1, (upd x k (wrap64 (x k + (fz n).tmod 1099511627776))), by omega, by go_num, t43, t44, bel3⟩
              case measure => simp [intOf]; omega
        · go_wp2_with fail
          have g3 := three_cell h43 hk3
          have f3 := three_free h43
          by_cases hr : x k < (fz n).tmod 1099511627776
          · go_region_held3 (fun W => W.cell? ⟨w1.heap.size + 1, k, none⟩ = some (.int .i64 (x k))) (go_keep)
              (first | (go_at_call 11; refine (raise_does w1.heap.size k (x k) _ _ ?_ ?_ hr).mono ?_; (simp [*]); (simp [*]); rintro e w'' ⟨rfl, rfl⟩))
            obtain ⟨wy, hwy⟩ : ∃ wy, wy = (w'.setCell ⟨w1.heap.size, k, none⟩ (.int .i64 ((fz n).tmod 1099511627776))).drew := ⟨_, rfl⟩
            rw [← hwy]
            have y43 : Three w1.heap.size 43 (upd x k ((fz n).tmod 1099511627776)) wy := by rw [hwy]; exact three_drew (three_set h43 hk3 _)
            have y44 : Three (w1.heap.size + 1) 44 x wy := by rw [hwy]; exact three_drew (three_other h44 (by simp) _)
            have ybel : Below w.heap.size w wy := by rw [hwy]; exact (bel.setCell (by simp; omega) _).drew
            clear hwy g3 f3 g4 f4 c4 gx gy gz h43 h44 bel
            have g4 := three_cell y44 hk3
            have f4 := three_free y44
            go_wp2_with fail
            obtain ⟨wx, hwx⟩ : ∃ wx, wx = wy.setCell ⟨w1.heap.size + 1, k, none⟩ (.int .i64 ((fz n).tmod 1099511627776)) := ⟨_, rfl⟩
            rw [← hwx]
            have T43 : Three w1.heap.size 43 (upd x k ((fz n).tmod 1099511627776)) wx := by rw [hwx]; exact three_other y43 (by simp) _
            have T44 : Three (w1.heap.size + 1) 44 (upd x k ((fz n).tmod 1099511627776)) wx := by rw [hwx]; exact three_set y44 hk3 _
            have bel2 : Below w.heap.size w wx := by rw [hwx]; exact ybel.setCell (by simp; omega) _
            clear hwx g4 f4 y43 y44 ybel
            go_loopw [8] (fun j wq => ∃ m : Nat, m ≤ 3 ∧ j = .int .i64 m ∧ Three w1.heap.size 43 (upd x k ((fz n).tmod 1099511627776)) wq ∧ Three (w1.heap.size + 1) 44 (upd x k ((fz n).tmod 1099511627776)) wq ∧ Below w.heap.size w wq) (fun j _ => 3 - (intOf j).toNat)
            case atStart => exact ⟨0, by omega, rfl, T43, T44, bel2⟩
            case round =>
              clear T43 T44 bel2
              obtain ⟨m, hm, rfl, t43, t44, bel3⟩ := hrel
              by_cases hm3 : m < 3
              · have e3 := three_cell t43 hm3
                have e4 := three_cell t44 hm3
                have m0 : (0 : Int) ≤ (m : Int) := by omega
                have m3 : (m : Int) < 3 := by omega
                go_wp2_with fail
                go_region_held3 (fun W => W.cell? ⟨w1.heap.size + 1, m, none⟩ = some (.int .i64 ((upd x k ((fz n).tmod 1099511627776)) m))) (go_keep)
                  (first | (go_at_call 15; refine (now_any w1.heap.size m ((upd x k ((fz n).tmod 1099511627776)) m) _ ?_).mono ?_; (simp [*]); rintro e w'' ⟨rfl, rfl⟩))
                go_wp2
                go_roundw
                case rel => exact ⟨m + 1, by omega, by go_num, three_drew t43, three_drew t44, bel3.drew⟩
                case measure => simp [intOf]; omega
              · have m3 : ¬ (m : Int) < 3 := by omega
                go_wp2
                go_roundw
                case rel => exact ⟨n + 1, (upd x k ((fz n).tmod 1099511627776)), by omega, by go_num, t43, t44, bel3⟩
                case measure => simp [intOf]; omega
          · go_region_held3 (fun W => W.cell? ⟨w1.heap.size + 1, k, none⟩ = some (.int .i64 (x k))) (go_keep)
              (first | (go_at_call 11; refine (raise_not w1.heap.size k (x k) _ _ ?_ (by omega)).mono ?_; (simp [*]); rintro e w'' ⟨rfl, rfl⟩))
            go_wp2_with fail
            obtain ⟨wx, hwx⟩ : ∃ wx, wx = (w'.setCell ⟨w1.heap.size + 1, k, none⟩ (.int .i64 (x k))).drew := ⟨_, rfl⟩
            rw [← hwx]
            have T43 : Three w1.heap.size 43 x wx := by rw [hwx]; exact three_drew (three_other h43 (by simp) _)
            have T44 : Three (w1.heap.size + 1) 44 x wx := by rw [hwx]; have := three_set h44 hk3 (x k); rw [upd_same] at this; exact three_drew this
            have bel2 : Below w.heap.size w wx := by rw [hwx]; exact (bel.setCell (by simp; omega) _).drew
            clear hwx g3 f3 g4 f4 c4 gx gy gz h43 h44 bel
            go_loopw [8] (fun j wq => ∃ m : Nat, m ≤ 3 ∧ j = .int .i64 m ∧ Three w1.heap.size 43 x wq ∧ Three (w1.heap.size + 1) 44 x wq ∧ Below w.heap.size w wq) (fun j _ => 3 - (intOf j).toNat)
            case atStart => exact ⟨0, by omega, rfl, T43, T44, bel2⟩
            case round =>
              clear T43 T44 bel2
              obtain ⟨m, hm, rfl, t43, t44, bel3⟩ := hrel
              by_cases hm3 : m < 3
              · have e3 := three_cell t43 hm3
                have e4 := three_cell t44 hm3
                have m0 : (0 : Int) ≤ (m : Int) := by omega
                have m3 : (m : Int) < 3 := by omega
                go_wp2_with fail
                go_region_held3 (fun W => W.cell? ⟨w1.heap.size + 1, m, none⟩ = some (.int .i64 (x m))) (go_keep)
                  (first | (go_at_call 15; refine (now_any w1.heap.size m (x m) _ ?_).mono ?_; (simp [*]); rintro e w'' ⟨rfl, rfl⟩))
                go_wp2
                go_roundw
                case rel => exact ⟨m + 1, by omega, by go_num, three_drew t43, three_drew t44, bel3.drew⟩
                case measure => simp [intOf]; omega
              · have m3 : ¬ (m : Int) < 3 := by omega
                go_wp2
                go_roundw
                case rel => exact ⟨n + 1, x, by omega, by go_num, t43, t44, bel3⟩
                case measure => simp [intOf]; omega
      · go_wp2
        go_ret
        exact ⟨rfl, bel⟩
    · go_wp2
      go_ret
      exact ⟨rfl, bel⟩
end Go.Proofs.Ytbaolijhjijlmaa
