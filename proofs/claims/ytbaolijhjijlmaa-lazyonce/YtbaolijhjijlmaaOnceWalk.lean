/-
  The walk of LazyOnce.
-/
import Derived.Test.YtbaolijhjijlmaaOnceS
import Derived.Deep.QuietTactic
import Derived.BigQuiet
import Derived.Deep.RegionHeld3
import Derived.Deep.LoopGhost
import Derived.LoopTactic
namespace Go.Proofs.Ytbaolijhjijlmaa
open Go.RowKit

theorem Held.drewN {n B0 CA AS g l0 k0 l2 k2 : Nat} {cb iv : Nat → Nat} {a0 a2 : Option Addr} {av : Nat → Int} {fl : Nat → Bool} {cur : Array Value} {w : World} {c a : Nat → Bool} {wq : World} (h : Held n B0 CA AS g l0 k0 l2 k2 cb iv a0 a2 av fl cur w c a wq) : ∀ q, Held n B0 CA AS g l0 k0 l2 k2 cb iv a0 a2 av fl cur w c a (wq.drewN q)
  | 0 => h
  | q + 1 => (h.drewN q).drew

theorem row_cell {wq : World} {g n : Nat} {cur : Array Value} {cb : Nat → Nat} (h : wq.heap[g]? = some (.cells cur 22)) (hc : cur.toList.take n = (List.range n).map fun t => Value.pointer (some ⟨cb t, 0, none⟩)) {k : Nat} (hk : k < n) : wq.cell? ⟨g, k, none⟩ = some (.pointer (some ⟨cb k, 0, none⟩)) := by
  rw [blk_cell h]
  have h1 : (cur.toList.take n)[k]? = cur.toList[k]? := by rw [List.getElem?_take, if_pos hk]
  rw [hc] at h1
  simp [hk] at h1
  simpa using h1.symm

set_option maxRecDepth 100000 in
set_option maxHeartbeats 6400000 in
theorem once_walk (a0 a1 a2 : Option Addr) (l0 k0 l1 k1 l2 k2 : Nat) (av ov : Nat → Int) (pan : Nat → Bool) (w : World) (hl0 : l0 ≤ maxLen) (n : Nat) (hn : n = min l0 8)
    (hAn : l0 = 0 ∨ ∃ b o, a0 = some ⟨b, o, none⟩ ∧ b < w.heap.size ∧ ∀ t, t < l0 → w.cell? ⟨b, o + t, none⟩ = some (.int .i64 (av t)))
    (hOr : l1 = 0 ∨ ∃ b o, a1 = some ⟨b, o, none⟩ ∧ b < w.heap.size ∧ ∀ t, t < l1 → w.cell? ⟨b, o + t, none⟩ = some (.int .i64 (ov t)))
    (hPa : l2 = 0 ∨ ∃ b o, a2 = some ⟨b, o, none⟩ ∧ b < w.heap.size ∧ ∀ t, t < l2 → w.cell? ⟨b, o + t, none⟩ = some (.bool (pan t))) :
    Calls Try.prog 4 #[.slice a0 l0 k0, .slice a1 l1 k1, .slice a2 l2 k2] w fun e w' => e = .returned (.bool true) ∧ Below w.heap.size w w' := by
  have n0 : n ≤ l0 := by rw [hn]; exact Nat.min_le_left _ _
  have n8 : n ≤ 8 := by rw [hn]; exact Nat.min_le_right _ _
  unfold maxLen at hl0
  have HAn : Hid (l0 = 0 ∨ ∃ b o, a0 = some ⟨b, o, none⟩ ∧ b < w.heap.size ∧ ∀ t, t < l0 → w.cell? ⟨b, o + t, none⟩ = some (.int .i64 (av t))) := hAn
  have HOr : Hid (l1 = 0 ∨ ∃ b o, a1 = some ⟨b, o, none⟩ ∧ b < w.heap.size ∧ ∀ t, t < l1 → w.cell? ⟨b, o + t, none⟩ = some (.int .i64 (ov t))) := hOr
  have HPa : Hid (l2 = 0 ∨ ∃ b o, a2 = some ⟨b, o, none⟩ ∧ b < w.heap.size ∧ ∀ t, t < l2 → w.cell? ⟨b, o + t, none⟩ = some (.bool (pan t))) := hPa
  clear hAn hOr hPa
  have hnot : ∀ (x : Bool) (w : World), (Op.unary .not (.bool x)).run Try.prog w = .ok (.bool (!x)) w := fun _ _ => rfl
  have hmf : ∀ (fn : Fn) (first cap : Array Value) (w : World), (Instr.makeFunc fn first cap).run Try.prog w = .ok (.func fn first cap) w := fun _ _ _ _ => rfl
  have hm37 := make37 n (by omega)
  have hm38 := make38 n (by omega)
  go_enter Try.func4, Try.ntmps4
  go_wp2_with fail
  refine (known_any _).mono ?_
  rintro e w1 ⟨rfl, bl1⟩
  have b0 : w1.heap[w.heap.size]? = some (.cells #[.slice a0 l0 k0] 37) := by rw [bl1.block _ (by simp; omega)]; exact blk_alloc (blk_new w _) _
  have b1 : w1.heap[w.heap.size + 1]? = some (.cells #[.slice a2 l2 k2] 38) := by
    rw [bl1.block _ (by simp)]
    have := blk_new (w.alloc (.cells #[.slice a0 l0 k0] 37)) (.cells #[.slice a2 l2 k2] 38)
    rwa [World.size_alloc] at this
  have g0 : w1.cell? ⟨w.heap.size, 0, none⟩ = some (.slice a0 l0 k0) := by rw [blk_cell b0]; rfl
  have hmin : (if (8 : Int) < (l0 : Int) then (8 : Int) else (l0 : Int)) = (n : Int) := by rw [hn]; split <;> omega
  clear hn
  go_wp2_with fail
  obtain ⟨ws, hws⟩ : ∃ ws, ws = (w1.alloc (.cells (arr n fun _ => .int .i64 0) 3)).alloc (.cells #[.slice (some ⟨w1.heap.size, 0, none⟩) n n] 37) := ⟨_, rfl⟩
  rw [← hws]
  have zs : ws.heap.size = w1.heap.size + 1 + 1 := by rw [hws]; simp
  have ws0 : ws.heap[w.heap.size]? = some (.cells #[.slice a0 l0 k0] 37) := by rw [hws]; exact blk_alloc (blk_alloc b0 _) _
  have ws1 : ws.heap[w.heap.size + 1]? = some (.cells #[.slice a2 l2 k2] 38) := by rw [hws]; exact blk_alloc (blk_alloc b1 _) _
  have ws2 : ws.heap[w1.heap.size]? = some (.cells (arr n fun _ => .int .i64 0) 3) := by rw [hws]; exact blk_alloc (blk_new w1 _) _
  have ws3 : ws.heap[w1.heap.size + 1]? = some (.cells #[.slice (some ⟨w1.heap.size, 0, none⟩) n n] 37) := by
    have := blk_new (w1.alloc (.cells (arr n fun _ => .int .i64 0) 3)) (.cells #[.slice (some ⟨w1.heap.size, 0, none⟩) n n] 37)
    rw [World.size_alloc] at this
    rw [hws]; exact this
  have zw : w.heap.size + 1 < w1.heap.size := blk_lt b1
  have bls : Below w.heap.size w ws := by
    rw [hws]
    have b2 : Below w.heap.size w w1 := (((Below.refl _ _).alloc (Nat.le_refl _) _).alloc (by simp) _).trans (bl1.mono (by simp; omega))
    exact (b2.alloc (by omega) _).alloc (by simp; omega) _
  have ZS : Hid (ws.heap.size = w1.heap.size + 1 + 1) := zs
  clear hws b0 b1 g0 hmin bl1 zs hm37
  obtain ⟨i22, hi22, z22, y22, s22⟩ := info_of info22
  have I22 : Hid (Try.prog.info? 22 = some i22 ∧ i22.zero = some (.pointer none) ∧ i22.bytes = 8 ∧ i22.size = 1) := ⟨hi22, z22, y22, s22⟩
  clear hi22 z22 y22 s22
  go_loopg [8, 10] n (fun g v p wr => ∃ (j pb : Nat) (cb iv : Nat → Nat), g = n - j ∧ j ≤ n ∧ p = .pointer (some ⟨pb, 0, none⟩) ∧ Built 16 (fun q => #[.pointer (some ⟨w1.heap.size + 1, 0, none⟩), .pointer (some ⟨q, 0, none⟩), .pointer (some ⟨w.heap.size + 1, 0, none⟩), .pointer (some ⟨w.heap.size, 0, none⟩)]) (w1.heap.size + 1 + 1) ws j v cb iv wr ∧ w1.heap.size + 1 + 1 ≤ pb ∧ wr.heap[pb]? = some (.cells #[.int .i64 j] 3) ∧ w1.heap.size + 1 + 1 ≤ wr.heap.size)
  case atStart =>
    refine ⟨0, _, fun _ => 0, fun _ => 0, rfl, by omega, rfl, ⟨(Below.refl _ _).alloc (by rw [ZS.out]; omega) _, ?_, fun t h => absurd h (by omega), fun t h => absurd h (by omega), fun s t h => absurd h (by omega)⟩, ?_, ?_, ?_⟩
    · exact World.ownsRow_nil _ _ _ _
    · omega
    · have := blk_new ws (.cells #[.int .i64 0] 3)
      rw [ZS.out] at this; exact this
    · simp [ZS.out]
  case round =>
    obtain ⟨j, pb, cb, iv, hg, hj, rfl, hB, hpb, hpv, hsz⟩ := hrel
    have cp : wr.cell? ⟨pb, 0, none⟩ = some (.int .i64 j) := by rw [blk_cell hpv]; rfl
    have HG : Hid (gk = n - j) := hg
    have HP : Hid (wr.heap[pb]? = some (.cells #[.int .i64 j] 3)) := hpv
    clear hg hpv
    by_cases hjn : j < n
    · have hjn' : (j : Int) < (n : Int) := by omega
      go_wp2_with fail
      refine (new_func (.func 16) #[] _ _).mono ?_
      rintro e w' ⟨rfl, rfl⟩
      go_wp2_with (at_builtin; refine wpList_append_lies _ rfl _ _ _ rfl (w1.heap.size + 1 + 1) 22 i22 (.pointer none) 1 8 Try.underlying39 I22.out.1 I22.out.2.1 I22.out.2.2.2 I22.out.2.2.1 rfl (by omega) _ j _ rfl ((hB.own.alloc _).alloc _) ⟨wr.heap.size + 1, 0, none⟩ 1 1 [.pointer (some ⟨wr.heap.size, 0, none⟩)] rfl rfl ?c1 ?c2 (by omega) ?c3 ?c4 ?c5 (wr.heap.size + 1 + 1) ?c6 ?_)
      case c1 => exact World.news_of_block (cs := #[.pointer (some ⟨wr.heap.size, 0, none⟩)]) (by have := blk_new (wr.alloc (cobj 0 0 0 0 (.func (.func 16) #[] #[.pointer (some ⟨w1.heap.size + 1, 0, none⟩), .pointer (some ⟨pb, 0, none⟩), .pointer (some ⟨w.heap.size + 1, 0, none⟩), .pointer (some ⟨w.heap.size, 0, none⟩)]) 0)) (.cells #[.pointer (some ⟨wr.heap.size, 0, none⟩)] 22); rwa [World.size_alloc] at this)
      case c2 => intro u hu; simp at hu; subst hu; rfl
      case c3 => unfold maxLen; omega
      case c4 => omega
      case c5 => simp; omega
      case c6 => simp
      intro g cap w2 hown hgrow hat hlt
      have cp2 : w2.cell? ⟨pb, 0, none⟩ = some (.int .i64 j) := by rw [blk_cell (grown_old hB.own hgrow HP.out (by simp))]; rfl
      obtain ⟨s1, s2, s3, s4⟩ := hB.step ⟨hpb, HP.out⟩ hsz hgrow hown rfl
      have S3 : Hid ((w2.alloc (.cells #[.int .i64 (j + 1)] 3)).heap[w2.heap.size]? = some (.cells #[.int .i64 (j + 1 : Nat)] 3)) := s3
      clear hown hgrow hat hlt cp s3
      go_wp2
      go_roundg (n - (j + 1))
      case measure => rw [HG.out]; omega
      case rel => exact ⟨j + 1, _, _, _, rfl, by omega, rfl, s1, s2, S3.out, s4⟩
    · obtain rfl : j = n := by omega
      clear hjn HG hj
      by_cases hz : j = 0
      · have jz : ¬ (0 : Int) < (j : Int) := by omega
        clear hz
        go_wp2_with fail
        refine wp_loop_once ?_
        go_wp2
        all_goals (go_ret; exact ⟨rfl, (bls.trans (hB.below.mono (by omega))).alloc (by omega) _⟩)
      · have jpos : (0 : Int) < (j : Int) := by omega
        obtain ⟨g, cap, hv, hg1, hg2⟩ := hB.own.form (by omega)
        subst hv
        obtain ⟨cur, hgc, hcur⟩ : ∃ cur, wr.heap[g]? = some (.cells cur 22) ∧ cur.toList.take j = (List.range j).map fun t => Value.pointer (some ⟨cb t, 0, none⟩) := by
          rcases hB.own.2 with ⟨h1, _⟩ | ⟨g', cap', cur, h1, _, h3, _, _, _, h4⟩
          · simp at h1
          · simp at h1
            obtain ⟨rfl, _⟩ := h1
            exact ⟨cur, h3, by simpa using h4⟩
        have L : Lie j w1.heap.size wr.heap.size g cb iv := ⟨fun t ht => ⟨(hB.cell t ht).1, blk_lt (hB.cell t ht).2⟩, fun t ht => ⟨(hB.var t ht).1, blk_lt (hB.var t ht).2⟩, ⟨hg1, hg2⟩, hB.apart,
          fun s t hs ht e => by have h1 := (hB.cell s hs).2; rw [e, (hB.var t ht).2] at h1; simp at h1, fun s hs e => by have h1 := (hB.cell s hs).2; rw [e, hgc] at h1; simp at h1⟩
        have hold : ∀ (k : Nat) (o : Obj), k < w1.heap.size + 1 + 1 → ws.heap[k]? = some o → wr.heap[k]? = some o := fun k o hk ho => by rw [hB.below.block k hk]; exact ho
        have h0 : Held j w.heap.size w1.heap.size wr.heap.size g l0 k0 l2 k2 cb iv a0 a2 av (fun t => decide (t < l2) && pan t) cur w (fun _ => false) (fun _ => false) (wr.alloc (.cells (arr j fun _ => .bool false) 4)) :=
          ⟨(bls.trans (hB.below.mono (by omega))).alloc (by omega) _, blk_alloc (hold _ _ (by omega) ws0) _, blk_alloc (hold _ _ (by omega) ws1) _, blk_alloc (hold _ _ (by omega) ws2) _, blk_alloc (hold _ _ (by omega) ws3) _, blk_alloc hgc _, blk_new wr _, fun t ht => blk_alloc (hB.var t ht).2 _, fun t ht => blk_alloc (hB.cell t ht).2 _⟩
        have hwr : w1.heap.size + 1 + 1 ≤ wr.heap.size := hsz
        clear hold hB hg1 hg2 hgc ws0 ws1 ws2 ws3 HP hpb hsz
        have HC : Hid (cur.toList.take j = (List.range j).map fun t => Value.pointer (some ⟨cb t, 0, none⟩)) := hcur
        clear hcur
        go_wp2_with fail
        clear cp
        obtain ⟨wz, hwz⟩ : ∃ wz, wz = wr := ⟨_, rfl⟩
        subst hwz
        go_loopw [12] (fun i wq => ∃ (m : Nat) (c : Nat → Bool), m ≤ 40 ∧ i = .int .i64 m ∧ Held j w.heap.size w1.heap.size wz.heap.size g l0 k0 l2 k2 cb iv a0 a2 av (fun t => decide (t < l2) && pan t) cur w c c wq) (fun i _ => 40 - (intOf i).toNat)
        case atStart => exact ⟨0, fun _ => false, by omega, rfl, h0⟩
        case round =>
          clear h0
          obtain ⟨m, c, hm, rfl, hH⟩ := hrel
          by_cases hm1 : m < l1
          · by_cases hm40 : m < 40
            · have m1 : (m : Int) < (l1 : Int) := by omega
              have m2 : (m : Int) < 40 := by omega
              obtain ⟨ob, oo, hob, hobw, ho⟩ : ∃ b o, a1 = some ⟨b, o, none⟩ ∧ b < w.heap.size ∧ ∀ t, t < l1 → w.cell? ⟨b, o + t, none⟩ = some (.int .i64 (ov t)) := HOr.out.resolve_left (by omega)
              obtain ⟨ab, ao, hab, habw, ha⟩ : ∃ b o, a0 = some ⟨b, o, none⟩ ∧ b < w.heap.size ∧ ∀ t, t < l0 → w.cell? ⟨b, o + t, none⟩ = some (.int .i64 (av t)) := HAn.out.resolve_left (by omega)
              have co : wr.cell? ⟨ob, oo + m, none⟩ = some (.int .i64 (ov m)) := (hH.below.cell (p := ⟨ob, oo + m, none⟩) hobw).trans (ho m hm1)
              subst hob hab
              clear ho HOr HAn
              go_wp2_with fail
              refine (pick_any _ j (by omega) (by omega) _).mono ?_
              rintro e w' ⟨k, -, hk, rfl, rfl⟩
              have kn : k < j := by omega
              have k0' : (0 : Int) ≤ (k : Int) := by omega
              have rk := row_cell hH.row HC.out kn
              have ak := arr_cell hH.asked kn
              have pv : w'.cell? ⟨w.heap.size + 1, 0, none⟩ = some (.slice a2 l2 k2) := by rw [blk_cell hH.panics]; rfl
              have aw : w.cell? ⟨ab, ao + k, none⟩ = some (.int .i64 (av k)) := ha k (by omega)
              clear ha co
              by_cases ck : c k = true
              · have hc1 : w'.heap[cb k]? = some (cobj 1 0 0 1 .nilFunc (if (decide (k < l2) && pan k) then 0 else av k)) := by have := hH.cell k kn; rwa [if_pos ck] at this
                rw [ck] at ak
                have CKH : Hid (c k = true) := ck
                clear ck
                go_wp2_with fail
                go_region_held3 (fun W => W.cell? ⟨g, k, none⟩ = some (.pointer (some ⟨cb k, 0, none⟩)) ∧ W.cell? ⟨wz.heap.size, k, none⟩ = some (.bool true)) (go_keep)
                  (first | (go_at_call 13; refine (done_any (cb k) _ _ _ _ _ _ _ (by exact hc1)).mono ?_; rintro e w'' ⟨rfl, rfl⟩))
                obtain ⟨wd, hwd⟩ : ∃ wd, wd = w'.drew := ⟨_, rfl⟩
                rw [← hwd]
                have hD := hH.drew
                rw [← hwd] at hD
                clear hwd hc1 rk ak pv hH
                have dr := row_cell hD.row HC.out kn
                have da : wd.cell? ⟨wz.heap.size, k, none⟩ = some (.bool true) := by rw [arr_cell hD.asked kn, CKH.out]
                have dp : wd.cell? ⟨w.heap.size + 1, 0, none⟩ = some (.slice a2 l2 k2) := by rw [blk_cell hD.panics]; rfl
                by_cases hkl : k < l2
                · by_cases hpk : pan k = true
                  · obtain ⟨pb2, po2, hpb2, hpbw, hp⟩ : ∃ b o, a2 = some ⟨b, o, none⟩ ∧ b < w.heap.size ∧ ∀ t, t < l2 → w.cell? ⟨b, o + t, none⟩ = some (.bool (pan t)) := HPa.out.resolve_left (by omega)
                    subst hpb2
                    have kl : (k : Int) < (l2 : Int) := by omega
                    have pw : w.cell? ⟨pb2, po2 + k, none⟩ = some (.bool (pan k)) := hp k hkl
                    have pc : wd.cell? ⟨pb2, po2 + k, none⟩ = some (.bool true) := ((hD.below.cell (p := ⟨pb2, po2 + k, none⟩) hpbw).trans pw).trans (by rw [hpk])
                    clear hp
                    have GG := hD.get L zw rfl kn n8 n0 ab ao habw rfl aw (.inr ⟨pb2, po2, hpbw, rfl, hkl, by simp only [hkl, decide_true, Bool.true_and]; exact pw⟩) 0 false (by simp [hkl, hpk]) (by simp [hkl, hpk, CKH.out])
                    go_wp2_with fail
                    refine GG.mono ?_
                    rintro e we ⟨rfl, hE⟩
                    clear GG dr dp
                    have e1 : we.cell? ⟨w.heap.size, 0, none⟩ = some (.slice (some ⟨ab, ao, none⟩) l0 k0) := by rw [blk_cell hE.answers]; rfl
                    have e2 : we.cell? ⟨ab, ao + k, none⟩ = some (.int .i64 (av k)) := (hE.below.cell (p := ⟨ab, ao + k, none⟩) habw).trans aw
                    have e3 : we.cell? ⟨wz.heap.size, k, none⟩ = some (.bool true) := by rw [arr_cell hE.asked kn, CKH.out]
                    have z3 := blk_free hE.asked
                    clear hD da
                    have k9 : (k : Int) < (l0 : Int) := by omega
                    go_wp2_with fail
                    obtain ⟨wf, hwf⟩ : ∃ wf, wf = we.setCell ⟨wz.heap.size, k, none⟩ (.bool true) := ⟨_, rfl⟩
                    rw [← hwf]
                    have hF := hE.store L zw k
                    rw [← hwf] at hF
                    clear hwf hE e1 e2 e3 z3
                    go_loopw [18] (fun q wq => ∃ s : Nat, s ≤ j ∧ q = .int .i64 s ∧ Held j w.heap.size w1.heap.size wz.heap.size g l0 k0 l2 k2 cb iv (some ⟨ab, ao, none⟩) (some ⟨pb2, po2, none⟩) av (fun t => decide (t < l2) && pan t) cur w (mark c k) (mark c k) wq) (fun q _ => j - (intOf q).toNat)
                    case atStart => exact ⟨0, by omega, rfl, hF⟩
                    case round =>
                      clear hF
                      obtain ⟨s, hs, rfl, hG⟩ := hrel
                      by_cases sj : s < j
                      · have s1 : (s : Int) < (j : Int) := by omega
                        have s0 : (0 : Int) ≤ (s : Int) := by omega
                        have f1 : wr.cell? ⟨w1.heap.size + 1, 0, none⟩ = some (.slice (some ⟨w1.heap.size, 0, none⟩) j j) := by rw [blk_cell hG.head]; rfl
                        have f2 := arr_cell hG.calls sj
                        have f3 := arr_cell hG.asked sj
                        by_cases ms : mark c k s = true
                        · rw [ms] at f3
                          rw [if_pos ms] at f2
                          clear ms
                          go_wp2_with fail
                          go_quiet (fail)
                          go_wp2
                          go_roundw
                          case rel => exact ⟨s + 1, by omega, by go_num, hG.drewN _⟩
                          case measure => simp [intOf]; omega
                        · have ms' : mark c k s = false := by simpa using ms
                          rw [ms'] at f3
                          rw [if_neg ms] at f2
                          clear ms ms'
                          go_wp2_with fail
                          go_quiet (fail)
                          go_wp2
                          go_roundw
                          case rel => exact ⟨s + 1, by omega, by go_num, hG.drewN _⟩
                          case measure => simp [intOf]; omega
                      · have s1 : ¬ (s : Int) < (j : Int) := by omega
                        go_wp2
                        go_roundw
                        case rel => exact ⟨m + 1, mark c k, by omega, by go_num, hG⟩
                        case measure => simp [intOf]; omega
                  · have hpk : pan k = false := by simpa using hpk
                    obtain ⟨pb2, po2, hpb2, hpbw, hp⟩ : ∃ b o, a2 = some ⟨b, o, none⟩ ∧ b < w.heap.size ∧ ∀ t, t < l2 → w.cell? ⟨b, o + t, none⟩ = some (.bool (pan t)) := HPa.out.resolve_left (by omega)
                    subst hpb2
                    have kl : (k : Int) < (l2 : Int) := by omega
                    have pw : w.cell? ⟨pb2, po2 + k, none⟩ = some (.bool (pan k)) := hp k hkl
                    have pc : wd.cell? ⟨pb2, po2 + k, none⟩ = some (.bool false) := ((hD.below.cell (p := ⟨pb2, po2 + k, none⟩) hpbw).trans pw).trans (by rw [hpk])
                    clear hp
                    have GG := hD.get L zw rfl kn n8 n0 ab ao habw rfl aw (.inr ⟨pb2, po2, hpbw, rfl, hkl, by simp only [hkl, decide_true, Bool.true_and]; exact pw⟩) (av k) false (by simp [hkl, hpk]) (by simp [hkl, hpk, CKH.out])
                    go_wp2_with fail
                    refine GG.mono ?_
                    rintro e we ⟨rfl, hE⟩
                    clear GG dr dp
                    have e1 : we.cell? ⟨w.heap.size, 0, none⟩ = some (.slice (some ⟨ab, ao, none⟩) l0 k0) := by rw [blk_cell hE.answers]; rfl
                    have e2 : we.cell? ⟨ab, ao + k, none⟩ = some (.int .i64 (av k)) := (hE.below.cell (p := ⟨ab, ao + k, none⟩) habw).trans aw
                    have e3 : we.cell? ⟨wz.heap.size, k, none⟩ = some (.bool true) := by rw [arr_cell hE.asked kn, CKH.out]
                    have z3 := blk_free hE.asked
                    clear hD da
                    have k9 : (k : Int) < (l0 : Int) := by omega
                    go_wp2_with fail
                    obtain ⟨wf, hwf⟩ : ∃ wf, wf = we.setCell ⟨wz.heap.size, k, none⟩ (.bool true) := ⟨_, rfl⟩
                    rw [← hwf]
                    have hF := hE.store L zw k
                    rw [← hwf] at hF
                    clear hwf hE e1 e2 e3 z3
                    go_loopw [18] (fun q wq => ∃ s : Nat, s ≤ j ∧ q = .int .i64 s ∧ Held j w.heap.size w1.heap.size wz.heap.size g l0 k0 l2 k2 cb iv (some ⟨ab, ao, none⟩) (some ⟨pb2, po2, none⟩) av (fun t => decide (t < l2) && pan t) cur w (mark c k) (mark c k) wq) (fun q _ => j - (intOf q).toNat)
                    case atStart => exact ⟨0, by omega, rfl, hF⟩
                    case round =>
                      clear hF
                      obtain ⟨s, hs, rfl, hG⟩ := hrel
                      by_cases sj : s < j
                      · have s1 : (s : Int) < (j : Int) := by omega
                        have s0 : (0 : Int) ≤ (s : Int) := by omega
                        have f1 : wr.cell? ⟨w1.heap.size + 1, 0, none⟩ = some (.slice (some ⟨w1.heap.size, 0, none⟩) j j) := by rw [blk_cell hG.head]; rfl
                        have f2 := arr_cell hG.calls sj
                        have f3 := arr_cell hG.asked sj
                        by_cases ms : mark c k s = true
                        · rw [ms] at f3
                          rw [if_pos ms] at f2
                          clear ms
                          go_wp2_with fail
                          go_quiet (fail)
                          go_wp2
                          go_roundw
                          case rel => exact ⟨s + 1, by omega, by go_num, hG.drewN _⟩
                          case measure => simp [intOf]; omega
                        · have ms' : mark c k s = false := by simpa using ms
                          rw [ms'] at f3
                          rw [if_neg ms] at f2
                          clear ms ms'
                          go_wp2_with fail
                          go_quiet (fail)
                          go_wp2
                          go_roundw
                          case rel => exact ⟨s + 1, by omega, by go_num, hG.drewN _⟩
                          case measure => simp [intOf]; omega
                      · have s1 : ¬ (s : Int) < (j : Int) := by omega
                        go_wp2
                        go_roundw
                        case rel => exact ⟨m + 1, mark c k, by omega, by go_num, hG⟩
                        case measure => simp [intOf]; omega
                · have kl : ¬ (k : Int) < (l2 : Int) := by omega
                  have GG := hD.get L zw rfl kn n8 n0 ab ao habw rfl aw (.inl ⟨by omega, by simp; omega⟩) (av k) false (by simp [show ¬ k < l2 by omega]) (by simp [show ¬ k < l2 by omega])
                  go_wp2_with fail
                  refine GG.mono ?_
                  rintro e we ⟨rfl, hE⟩
                  clear GG dr dp
                  have e1 : we.cell? ⟨w.heap.size, 0, none⟩ = some (.slice (some ⟨ab, ao, none⟩) l0 k0) := by rw [blk_cell hE.answers]; rfl
                  have e2 : we.cell? ⟨ab, ao + k, none⟩ = some (.int .i64 (av k)) := (hE.below.cell (p := ⟨ab, ao + k, none⟩) habw).trans aw
                  have e3 : we.cell? ⟨wz.heap.size, k, none⟩ = some (.bool true) := by rw [arr_cell hE.asked kn, CKH.out]
                  have z3 := blk_free hE.asked
                  clear hD da
                  have k9 : (k : Int) < (l0 : Int) := by omega
                  go_wp2_with fail
                  obtain ⟨wf, hwf⟩ : ∃ wf, wf = we.setCell ⟨wz.heap.size, k, none⟩ (.bool true) := ⟨_, rfl⟩
                  rw [← hwf]
                  have hF := hE.store L zw k
                  rw [← hwf] at hF
                  clear hwf hE e1 e2 e3 z3
                  go_loopw [18] (fun q wq => ∃ s : Nat, s ≤ j ∧ q = .int .i64 s ∧ Held j w.heap.size w1.heap.size wz.heap.size g l0 k0 l2 k2 cb iv (some ⟨ab, ao, none⟩) a2 av (fun t => decide (t < l2) && pan t) cur w (mark c k) (mark c k) wq) (fun q _ => j - (intOf q).toNat)
                  case atStart => exact ⟨0, by omega, rfl, hF⟩
                  case round =>
                    clear hF
                    obtain ⟨s, hs, rfl, hG⟩ := hrel
                    by_cases sj : s < j
                    · have s1 : (s : Int) < (j : Int) := by omega
                      have s0 : (0 : Int) ≤ (s : Int) := by omega
                      have f1 : wr.cell? ⟨w1.heap.size + 1, 0, none⟩ = some (.slice (some ⟨w1.heap.size, 0, none⟩) j j) := by rw [blk_cell hG.head]; rfl
                      have f2 := arr_cell hG.calls sj
                      have f3 := arr_cell hG.asked sj
                      by_cases ms : mark c k s = true
                      · rw [ms] at f3
                        rw [if_pos ms] at f2
                        clear ms
                        go_wp2_with fail
                        go_quiet (fail)
                        go_wp2
                        go_roundw
                        case rel => exact ⟨s + 1, by omega, by go_num, hG.drewN _⟩
                        case measure => simp [intOf]; omega
                      · have ms' : mark c k s = false := by simpa using ms
                        rw [ms'] at f3
                        rw [if_neg ms] at f2
                        clear ms ms'
                        go_wp2_with fail
                        go_quiet (fail)
                        go_wp2
                        go_roundw
                        case rel => exact ⟨s + 1, by omega, by go_num, hG.drewN _⟩
                        case measure => simp [intOf]; omega
                    · have s1 : ¬ (s : Int) < (j : Int) := by omega
                      go_wp2
                      go_roundw
                      case rel => exact ⟨m + 1, mark c k, by omega, by go_num, hG⟩
                      case measure => simp [intOf]; omega
              · have ckf : c k = false := by simpa using ck
                have hc1 : w'.heap[cb k]? = some (cobj 0 0 0 0 (.func (.func 16) #[] #[.pointer (some ⟨w1.heap.size + 1, 0, none⟩), .pointer (some ⟨iv k, 0, none⟩), .pointer (some ⟨w.heap.size + 1, 0, none⟩), .pointer (some ⟨w.heap.size, 0, none⟩)]) 0) := by have := hH.cell k kn; rwa [if_neg ck] at this
                rw [ckf] at ak
                have CKH : Hid (c k = false) := ckf
                clear ck ckf
                go_wp2_with fail
                go_region_held3 (fun W => W.cell? ⟨g, k, none⟩ = some (.pointer (some ⟨cb k, 0, none⟩)) ∧ W.cell? ⟨wz.heap.size, k, none⟩ = some (.bool false)) (go_keep)
                  (first | (go_at_call 13; refine (done_any (cb k) _ _ _ _ _ _ _ (by exact hc1)).mono ?_; rintro e w'' ⟨rfl, rfl⟩))
                obtain ⟨wd, hwd⟩ : ∃ wd, wd = w'.drew := ⟨_, rfl⟩
                rw [← hwd]
                have hD := hH.drew
                rw [← hwd] at hD
                clear hwd hc1 rk ak pv hH
                have dr := row_cell hD.row HC.out kn
                have da : wd.cell? ⟨wz.heap.size, k, none⟩ = some (.bool false) := by rw [arr_cell hD.asked kn, CKH.out]
                have dp : wd.cell? ⟨w.heap.size + 1, 0, none⟩ = some (.slice a2 l2 k2) := by rw [blk_cell hD.panics]; rfl
                by_cases hkl : k < l2
                · by_cases hpk : pan k = true
                  · obtain ⟨pb2, po2, hpb2, hpbw, hp⟩ : ∃ b o, a2 = some ⟨b, o, none⟩ ∧ b < w.heap.size ∧ ∀ t, t < l2 → w.cell? ⟨b, o + t, none⟩ = some (.bool (pan t)) := HPa.out.resolve_left (by omega)
                    subst hpb2
                    have kl : (k : Int) < (l2 : Int) := by omega
                    have pw : w.cell? ⟨pb2, po2 + k, none⟩ = some (.bool (pan k)) := hp k hkl
                    have pc : wd.cell? ⟨pb2, po2 + k, none⟩ = some (.bool true) := ((hD.below.cell (p := ⟨pb2, po2 + k, none⟩) hpbw).trans pw).trans (by rw [hpk])
                    clear hp
                    have GG := hD.get L zw rfl kn n8 n0 ab ao habw rfl aw (.inr ⟨pb2, po2, hpbw, rfl, hkl, by simp only [hkl, decide_true, Bool.true_and]; exact pw⟩) 0 true (by simp [hkl, hpk]) (by simp [hkl, hpk, CKH.out])
                    go_wp2_with fail
                    refine GG.mono ?_
                    rintro e we ⟨rfl, hE⟩
                    clear GG dr dp
                    have e1 : we.cell? ⟨w.heap.size, 0, none⟩ = some (.slice (some ⟨ab, ao, none⟩) l0 k0) := by rw [blk_cell hE.answers]; rfl
                    have e2 : we.cell? ⟨ab, ao + k, none⟩ = some (.int .i64 (av k)) := (hE.below.cell (p := ⟨ab, ao + k, none⟩) habw).trans aw
                    have e3 : we.cell? ⟨wz.heap.size, k, none⟩ = some (.bool false) := by rw [arr_cell hE.asked kn, CKH.out]
                    have z3 := blk_free hE.asked
                    clear hD da
                    have k9 : (k : Int) < (l0 : Int) := by omega
                    go_wp2_with fail
                    obtain ⟨wf, hwf⟩ : ∃ wf, wf = we.setCell ⟨wz.heap.size, k, none⟩ (.bool true) := ⟨_, rfl⟩
                    rw [← hwf]
                    have hF := hE.store L zw k
                    rw [← hwf] at hF
                    clear hwf hE e1 e2 e3 z3
                    go_loopw [18] (fun q wq => ∃ s : Nat, s ≤ j ∧ q = .int .i64 s ∧ Held j w.heap.size w1.heap.size wz.heap.size g l0 k0 l2 k2 cb iv (some ⟨ab, ao, none⟩) (some ⟨pb2, po2, none⟩) av (fun t => decide (t < l2) && pan t) cur w (mark c k) (mark c k) wq) (fun q _ => j - (intOf q).toNat)
                    case atStart => exact ⟨0, by omega, rfl, hF⟩
                    case round =>
                      clear hF
                      obtain ⟨s, hs, rfl, hG⟩ := hrel
                      by_cases sj : s < j
                      · have s1 : (s : Int) < (j : Int) := by omega
                        have s0 : (0 : Int) ≤ (s : Int) := by omega
                        have f1 : wr.cell? ⟨w1.heap.size + 1, 0, none⟩ = some (.slice (some ⟨w1.heap.size, 0, none⟩) j j) := by rw [blk_cell hG.head]; rfl
                        have f2 := arr_cell hG.calls sj
                        have f3 := arr_cell hG.asked sj
                        by_cases ms : mark c k s = true
                        · rw [ms] at f3
                          rw [if_pos ms] at f2
                          clear ms
                          go_wp2_with fail
                          go_quiet (fail)
                          go_wp2
                          go_roundw
                          case rel => exact ⟨s + 1, by omega, by go_num, hG.drewN _⟩
                          case measure => simp [intOf]; omega
                        · have ms' : mark c k s = false := by simpa using ms
                          rw [ms'] at f3
                          rw [if_neg ms] at f2
                          clear ms ms'
                          go_wp2_with fail
                          go_quiet (fail)
                          go_wp2
                          go_roundw
                          case rel => exact ⟨s + 1, by omega, by go_num, hG.drewN _⟩
                          case measure => simp [intOf]; omega
                      · have s1 : ¬ (s : Int) < (j : Int) := by omega
                        go_wp2
                        go_roundw
                        case rel => exact ⟨m + 1, mark c k, by omega, by go_num, hG⟩
                        case measure => simp [intOf]; omega
                  · have hpk : pan k = false := by simpa using hpk
                    obtain ⟨pb2, po2, hpb2, hpbw, hp⟩ : ∃ b o, a2 = some ⟨b, o, none⟩ ∧ b < w.heap.size ∧ ∀ t, t < l2 → w.cell? ⟨b, o + t, none⟩ = some (.bool (pan t)) := HPa.out.resolve_left (by omega)
                    subst hpb2
                    have kl : (k : Int) < (l2 : Int) := by omega
                    have pw : w.cell? ⟨pb2, po2 + k, none⟩ = some (.bool (pan k)) := hp k hkl
                    have pc : wd.cell? ⟨pb2, po2 + k, none⟩ = some (.bool false) := ((hD.below.cell (p := ⟨pb2, po2 + k, none⟩) hpbw).trans pw).trans (by rw [hpk])
                    clear hp
                    have GG := hD.get L zw rfl kn n8 n0 ab ao habw rfl aw (.inr ⟨pb2, po2, hpbw, rfl, hkl, by simp only [hkl, decide_true, Bool.true_and]; exact pw⟩) (av k) false (by simp [hkl, hpk]) (by simp [hkl, hpk, CKH.out])
                    go_wp2_with fail
                    refine GG.mono ?_
                    rintro e we ⟨rfl, hE⟩
                    clear GG dr dp
                    have e1 : we.cell? ⟨w.heap.size, 0, none⟩ = some (.slice (some ⟨ab, ao, none⟩) l0 k0) := by rw [blk_cell hE.answers]; rfl
                    have e2 : we.cell? ⟨ab, ao + k, none⟩ = some (.int .i64 (av k)) := (hE.below.cell (p := ⟨ab, ao + k, none⟩) habw).trans aw
                    have e3 : we.cell? ⟨wz.heap.size, k, none⟩ = some (.bool false) := by rw [arr_cell hE.asked kn, CKH.out]
                    have z3 := blk_free hE.asked
                    clear hD da
                    have k9 : (k : Int) < (l0 : Int) := by omega
                    go_wp2_with fail
                    obtain ⟨wf, hwf⟩ : ∃ wf, wf = we.setCell ⟨wz.heap.size, k, none⟩ (.bool true) := ⟨_, rfl⟩
                    rw [← hwf]
                    have hF := hE.store L zw k
                    rw [← hwf] at hF
                    clear hwf hE e1 e2 e3 z3
                    go_loopw [18] (fun q wq => ∃ s : Nat, s ≤ j ∧ q = .int .i64 s ∧ Held j w.heap.size w1.heap.size wz.heap.size g l0 k0 l2 k2 cb iv (some ⟨ab, ao, none⟩) (some ⟨pb2, po2, none⟩) av (fun t => decide (t < l2) && pan t) cur w (mark c k) (mark c k) wq) (fun q _ => j - (intOf q).toNat)
                    case atStart => exact ⟨0, by omega, rfl, hF⟩
                    case round =>
                      clear hF
                      obtain ⟨s, hs, rfl, hG⟩ := hrel
                      by_cases sj : s < j
                      · have s1 : (s : Int) < (j : Int) := by omega
                        have s0 : (0 : Int) ≤ (s : Int) := by omega
                        have f1 : wr.cell? ⟨w1.heap.size + 1, 0, none⟩ = some (.slice (some ⟨w1.heap.size, 0, none⟩) j j) := by rw [blk_cell hG.head]; rfl
                        have f2 := arr_cell hG.calls sj
                        have f3 := arr_cell hG.asked sj
                        by_cases ms : mark c k s = true
                        · rw [ms] at f3
                          rw [if_pos ms] at f2
                          clear ms
                          go_wp2_with fail
                          go_quiet (fail)
                          go_wp2
                          go_roundw
                          case rel => exact ⟨s + 1, by omega, by go_num, hG.drewN _⟩
                          case measure => simp [intOf]; omega
                        · have ms' : mark c k s = false := by simpa using ms
                          rw [ms'] at f3
                          rw [if_neg ms] at f2
                          clear ms ms'
                          go_wp2_with fail
                          go_quiet (fail)
                          go_wp2
                          go_roundw
                          case rel => exact ⟨s + 1, by omega, by go_num, hG.drewN _⟩
                          case measure => simp [intOf]; omega
                      · have s1 : ¬ (s : Int) < (j : Int) := by omega
                        go_wp2
                        go_roundw
                        case rel => exact ⟨m + 1, mark c k, by omega, by go_num, hG⟩
                        case measure => simp [intOf]; omega
                · have kl : ¬ (k : Int) < (l2 : Int) := by omega
                  have GG := hD.get L zw rfl kn n8 n0 ab ao habw rfl aw (.inl ⟨by omega, by simp; omega⟩) (av k) false (by simp [show ¬ k < l2 by omega]) (by simp [show ¬ k < l2 by omega])
                  go_wp2_with fail
                  refine GG.mono ?_
                  rintro e we ⟨rfl, hE⟩
                  clear GG dr dp
                  have e1 : we.cell? ⟨w.heap.size, 0, none⟩ = some (.slice (some ⟨ab, ao, none⟩) l0 k0) := by rw [blk_cell hE.answers]; rfl
                  have e2 : we.cell? ⟨ab, ao + k, none⟩ = some (.int .i64 (av k)) := (hE.below.cell (p := ⟨ab, ao + k, none⟩) habw).trans aw
                  have e3 : we.cell? ⟨wz.heap.size, k, none⟩ = some (.bool false) := by rw [arr_cell hE.asked kn, CKH.out]
                  have z3 := blk_free hE.asked
                  clear hD da
                  have k9 : (k : Int) < (l0 : Int) := by omega
                  go_wp2_with fail
                  obtain ⟨wf, hwf⟩ : ∃ wf, wf = we.setCell ⟨wz.heap.size, k, none⟩ (.bool true) := ⟨_, rfl⟩
                  rw [← hwf]
                  have hF := hE.store L zw k
                  rw [← hwf] at hF
                  clear hwf hE e1 e2 e3 z3
                  go_loopw [18] (fun q wq => ∃ s : Nat, s ≤ j ∧ q = .int .i64 s ∧ Held j w.heap.size w1.heap.size wz.heap.size g l0 k0 l2 k2 cb iv (some ⟨ab, ao, none⟩) a2 av (fun t => decide (t < l2) && pan t) cur w (mark c k) (mark c k) wq) (fun q _ => j - (intOf q).toNat)
                  case atStart => exact ⟨0, by omega, rfl, hF⟩
                  case round =>
                    clear hF
                    obtain ⟨s, hs, rfl, hG⟩ := hrel
                    by_cases sj : s < j
                    · have s1 : (s : Int) < (j : Int) := by omega
                      have s0 : (0 : Int) ≤ (s : Int) := by omega
                      have f1 : wr.cell? ⟨w1.heap.size + 1, 0, none⟩ = some (.slice (some ⟨w1.heap.size, 0, none⟩) j j) := by rw [blk_cell hG.head]; rfl
                      have f2 := arr_cell hG.calls sj
                      have f3 := arr_cell hG.asked sj
                      by_cases ms : mark c k s = true
                      · rw [ms] at f3
                        rw [if_pos ms] at f2
                        clear ms
                        go_wp2_with fail
                        go_quiet (fail)
                        go_wp2
                        go_roundw
                        case rel => exact ⟨s + 1, by omega, by go_num, hG.drewN _⟩
                        case measure => simp [intOf]; omega
                      · have ms' : mark c k s = false := by simpa using ms
                        rw [ms'] at f3
                        rw [if_neg ms] at f2
                        clear ms ms'
                        go_wp2_with fail
                        go_quiet (fail)
                        go_wp2
                        go_roundw
                        case rel => exact ⟨s + 1, by omega, by go_num, hG.drewN _⟩
                        case measure => simp [intOf]; omega
                    · have s1 : ¬ (s : Int) < (j : Int) := by omega
                      go_wp2
                      go_roundw
                      case rel => exact ⟨m + 1, mark c k, by omega, by go_num, hG⟩
                      case measure => simp [intOf]; omega
            · have m2 : ¬ (m : Int) < 40 := by omega
              have m1 : (m : Int) < (l1 : Int) := by omega
              go_wp2
              go_ret
              exact ⟨rfl, hH.below⟩
          · have m1 : ¬ (m : Int) < (l1 : Int) := by omega
            go_wp2
            go_ret
            exact ⟨rfl, hH.below⟩
end Go.Proofs.Ytbaolijhjijlmaa
