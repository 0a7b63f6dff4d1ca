/-
  The walk of LazyNests.
-/
import Derived.Test.YtbaolijhjijlmaaNestsK
import Derived.Deep.RegionHeld3
import Derived.Deep.RegionLaw
import Derived.Deep.LoopGhost
import Derived.LoopTactic
namespace Go.Proofs.Ytbaolijhjijlmaa
open Go.RowKit

theorem grownBy_undrew {w w2 : World} {r : Option Nat} (h : w.drew.grownBy w2 r) : w.grownBy w2 r := ⟨h.os, h.tape, h.output, h.size, h.block⟩

theorem Built.drew {K : Nat} {capf : Nat → Array Value} {base : Nat} {ws : World} {j : Nat} {v : Value} {cb iv : Nat → Nat} {wr : World} (h : Built K capf base ws j v cb iv wr) : Built K capf base ws j v cb iv wr.drew :=
  ⟨h.below.drew, h.own, h.cell, h.var, h.apart⟩

theorem own_second' (w : World) (x y : Obj) : ((w.alloc x).alloc y).heap[w.heap.size + 1]? = some y := by
  have := blk_new (w.alloc x) y
  rwa [World.size_alloc] at this

/-- lazy.New at a step of a region that draws its order. -/
theorem step_new {ops : Array Oper} {o : Oper} {a : Act} {w : World} {K : Act → World → Prop} {Q : Exit → Act → World → Prop} {E : Prop} (hgd : o.guard = none) (x : Operand)
    (hop : o.op = .call { callee := .value (.func 7), args := #[x], argTypes := #[24] }) (fn : Fn) (first cap : Array Value) (hx : a.eval x = .func fn first cap)
    (hK : K (a.put o.dst (.pointer (some ⟨w.heap.size, 0, none⟩))) (w.alloc (cobj 0 0 0 0 (.func fn first cap) 0))) :
    if Region.wanted o (yielded ops a.tmps) = true then Oper.wp Try.prog o a w K Q else E := by
  have hw : Region.wanted o (yielded ops a.tmps) = true := by simp [Region.wanted, hgd]
  rw [if_pos hw]
  have hr : (execOp a.eval o).run Try.prog w = .ok (.enter 7 #[.func fn first cap]) w := by
    simp [execOp, hop, resolve, invoke, go_sem]
    cases x <;> simp_all [Act.eval]
  unfold Oper.wp
  rw [hr, Oper.upon_enter]
  refine (new_func fn first cap w).mono ?_
  rintro e w' ⟨rfl, rfl⟩
  exact hK

/-- A store into the cells' own variable. -/
theorem Built.store {K : Nat} {capf : Nat → Array Value} {base : Nat} {ws : World} {j : Nat} {v : Value} {cb iv : Nat → Nat} {wr : World} (h : Built K capf base ws j v cb iv wr) {CS : Nat} (hb : base ≤ CS) {c : Array Value} (hc : wr.heap[CS]? = some (.cells c 39)) (x : Value) :
    Built K capf base ws j v cb iv (wr.setCell ⟨CS, 0, none⟩ x) := by
  have same : ∀ (b : Nat) (o : Obj), wr.heap[b]? = some o → (∀ c, o ≠ Obj.cells c 39 (0, 0)) → (wr.setCell ⟨CS, 0, none⟩ x).heap[b]? = some o := fun b o hb' ho => by
    rw [blk_other x (fun e => by subst e; rw [hc] at hb'; exact ho c (by simpa using hb'.symm))]; exact hb'
  refine ⟨h.below.setCell (by exact hb) x, ⟨h.own.1, ?_⟩, fun t ht => ⟨(h.cell t ht).1, same _ _ (h.cell t ht).2 (by simp)⟩, fun t ht => ⟨(h.var t ht).1, same _ _ (h.var t ht).2 (by simp)⟩, h.apart⟩
  rcases h.own.2 with h1 | ⟨g, cap, cur, h1, h2, h3, h4⟩
  · exact .inl h1
  · exact .inr ⟨g, cap, cur, h1, h2, same _ _ h3 (by simp), h4⟩

/-- 'want' while it is reckoned: the first m are told, c stands at m, behind it there is nothing yet. -/
def fw (av : Nat → Int) (m : Nat) (c : Int) : Nat → Value := fun t => .int .i64 (if t < m then val av t else if t = m then c else 0)
theorem fw_set (av : Nat → Int) (m : Nat) (c d : Int) : (fun s => if s = m then Value.int .i64 d else fw av m c s) = fw av m d := by
  funext s; unfold fw
  by_cases h : s = m
  · subst h; simp
  · simp [h]
theorem fw_next (av : Nat → Int) (m : Nat) : fw av m (val av m) = fw av (m + 1) 0 := by
  funext s; unfold fw
  by_cases h : s = m
  · subst h; simp
  · by_cases h2 : s < m
    · simp [h2, show s < m + 1 by omega]
    · simp [h2, h, show ¬ s < m + 1 by omega]
theorem fw_at (av : Nat → Int) (m : Nat) (c : Int) : fw av m c m = .int .i64 c := by simp [fw]
theorem fw_below (av : Nat → Int) (m : Nat) (c : Int) {t : Nat} (h : t < m) : fw av m c t = .int .i64 (val av t) := by simp [fw, h]

theorem NS.alloc {n B CL CS g l0 k0 cap : Nat} {cb iv : Nat → Nat} {a0 : Option Addr} {av : Nat → Int} {cur : Array Value} {w : World} {u p : Nat} {cnt : Int} {wq : World} (h : NS n B CL CS g l0 k0 cap cb iv a0 av cur w u p cnt wq) (o : Obj) : NS n B CL CS g l0 k0 cap cb iv a0 av cur w u p cnt (wq.alloc o) :=
  ⟨h.below.alloc (by have := blk_lt h.answers; omega) o, blk_alloc h.answers o, blk_alloc h.count o, blk_alloc h.head o, blk_alloc h.row o, fun t ht => blk_alloc (h.var t ht) o, fun t ht => blk_alloc (h.cell t ht) o⟩

/-- A store into a block that is none of these. -/
theorem NS.set {n B CL CS g l0 k0 cap : Nat} {cb iv : Nat → Nat} {a0 : Option Addr} {av : Nat → Int} {cur : Array Value} {w : World} {u p : Nat} {cnt : Int} {wq : World} (h : NS n B CL CS g l0 k0 cap cb iv a0 av cur w u p cnt wq) {WA : Nat} (h1 : B < WA) (h2 : CL < WA) (h3 : CS < WA) (h4 : g < WA) (h5 : ∀ t, t < n → iv t < WA) (h6 : ∀ t, t < u → cb t < WA) (i : Nat) (x : Value) :
    NS n B CL CS g l0 k0 cap cb iv a0 av cur w u p cnt (wq.setCell ⟨WA, i, none⟩ x) := by
  have same : ∀ (b : Nat) (o : Obj), b < WA → wq.heap[b]? = some o → (wq.setCell ⟨WA, i, none⟩ x).heap[b]? = some o := fun b o hb ho => by rw [blk_other _ (by simp; omega)]; exact ho
  exact ⟨h.below.setCell (by simp; omega) x, same _ _ h1 h.answers, same _ _ h2 h.count, same _ _ h3 h.head, same _ _ h4 h.row, fun t ht => same _ _ (h5 t ht) (h.var t ht), fun t ht => same _ _ (h6 t ht) (h.cell t ht)⟩

set_option maxRecDepth 100000 in
set_option maxHeartbeats 3200000 in
theorem nests_walk (a0 : Option Addr) (l0 k0 : Nat) (x : Int) (av : Nat → Int) (w : World) (hl0 : l0 ≤ maxLen) (n : Nat) (hn : n = min l0 12)
    (hAn : l0 = 0 ∨ ∃ b o, a0 = some ⟨b, o, none⟩ ∧ b < w.heap.size ∧ ∀ t, t < l0 → w.cell? ⟨b, o + t, none⟩ = some (.int .i64 (av t))) :
    Calls Try.prog 6 #[.slice a0 l0 k0, .int .i64 x] w fun e w' => e = .returned (.bool true) ∧ Below w.heap.size w w' := by
  have n0 : n ≤ l0 := by rw [hn]; exact Nat.min_le_left _ _
  have n12 : n ≤ 12 := by rw [hn]; exact Nat.min_le_right _ _
  have HAn : Hid (l0 = 0 ∨ ∃ b o, a0 = some ⟨b, o, none⟩ ∧ b < w.heap.size ∧ ∀ t, t < l0 → w.cell? ⟨b, o + t, none⟩ = some (.int .i64 (av t))) := hAn
  clear hAn
  unfold maxLen at hl0
  have hnot : ∀ (x : Bool) (w : World), (Op.unary .not (.bool x)).run Try.prog w = .ok (.bool (!x)) w := fun _ _ => rfl
  have hmf : ∀ (fn : Fn) (first cap : Array Value) (w : World), (Instr.makeFunc fn first cap).run Try.prog w = .ok (.func fn first cap) w := fun _ _ _ _ => rfl
  have hm37 := make37 n (by omega)
  go_enter Try.func6, Try.ntmps6
  go_wp2_with fail
  refine (known_any _).mono ?_
  rintro e w1 ⟨rfl, bl1⟩
  have b0 : w1.heap[w.heap.size]? = some (.cells #[.slice a0 l0 k0] 37) := by rw [bl1.block _ (by simp)]; exact blk_new w _
  have g0 : w1.cell? ⟨w.heap.size, 0, none⟩ = some (.slice a0 l0 k0) := by rw [blk_cell b0]; rfl
  have hmin : (if (12 : Int) < (l0 : Int) then (12 : Int) else (l0 : Int)) = (n : Int) := by rw [hn]; split <;> omega
  clear hn
  go_wp2_with fail
  obtain ⟨ws, hws⟩ : ∃ ws, ws = w1.alloc (.cells #[.int .i64 0] 3) := ⟨_, rfl⟩
  rw [← hws]
  have zs : ws.heap.size = w1.heap.size + 1 := by rw [hws]; simp
  have ws0 : ws.heap[w.heap.size]? = some (.cells #[.slice a0 l0 k0] 37) := by rw [hws]; exact blk_alloc b0 _
  have ws2 : ws.heap[w1.heap.size]? = some (.cells #[.int .i64 0] 3) := by rw [hws]; exact blk_new w1 _
  have zw : w.heap.size < w1.heap.size := blk_lt b0
  have bls : Below w.heap.size w ws := by
    rw [hws]
    have b2 : Below w.heap.size w w1 := ((Below.refl _ _).alloc (Nat.le_refl _) _).trans (bl1.mono (by simp))
    exact b2.alloc (by omega) _
  have ZS : Hid (ws.heap.size = w1.heap.size + 1) := zs
  clear hws b0 g0 hmin bl1 zs
  obtain ⟨i22, hi22, z22, y22, s22⟩ := info_of info22
  have I22 : Hid (Try.prog.info? 22 = some i22 ∧ i22.zero = some (.pointer none) ∧ i22.bytes = 8 ∧ i22.size = 1) := ⟨hi22, z22, y22, s22⟩
  clear hi22 z22 y22 s22
  go_loopg [8] n (fun g p wr => ∃ (j pb : Nat) (cb iv : Nat → Nat) (v : Value), g = n - j ∧ j ≤ n ∧ p = .pointer (some ⟨pb, 0, none⟩) ∧ Built 18 (fun q => #[.pointer (some ⟨w1.heap.size, 0, none⟩), .pointer (some ⟨w.heap.size, 0, none⟩), .pointer (some ⟨q, 0, none⟩), .pointer (some ⟨w1.heap.size + 1, 0, none⟩)]) (w1.heap.size + 1) ws j v cb iv wr ∧ wr.heap[w1.heap.size + 1]? = some (.cells #[v] 39) ∧ w1.heap.size + 1 ≤ pb ∧ wr.heap[pb]? = some (.cells #[.int .i64 j] 3) ∧ w1.heap.size + 1 ≤ wr.heap.size)
  case atStart =>
    have e1 := blk_new ws (.cells #[.slice none 0 0] 39)
    rw [ZS.out] at e1
    have e2 := blk_new (ws.alloc (.cells #[.slice none 0 0] 39)) (.cells #[.int .i64 0] 3)
    rw [World.size_alloc, ZS.out] at e2
    refine ⟨0, _, fun _ => 0, fun _ => 0, .slice none 0 0, rfl, by omega, rfl, ⟨((Below.refl _ _).alloc (by rw [ZS.out]; omega) _).alloc (by simp; rw [ZS.out]; omega) _, ?_, fun t h => absurd h (by omega), fun t h => absurd h (by omega), fun s t h => absurd h (by omega)⟩, ?_, ?_, ?_, ?_⟩
    · exact World.ownsRow_nil _ _ _ _
    · exact blk_alloc e1 _
    · omega
    · exact e2
    · simp [ZS.out]
  case round =>
    obtain ⟨j, pb, cb, iv, v, hg, hj, rfl, hB, hcs, hpb, hpv, hsz⟩ := hrel
    have cp : wr.cell? ⟨pb, 0, none⟩ = some (.int .i64 j) := by rw [blk_cell hpv]; rfl
    have cs : wr.cell? ⟨w1.heap.size + 1, 0, none⟩ = some v := by rw [blk_cell hcs]; rfl
    have cs' : ∀ X : Obj, (wr.alloc X).cell? ⟨w1.heap.size + 1, 0, none⟩ = some v := fun X => by rw [blk_cell (blk_alloc hcs X)]; rfl
    have cs'' : ∀ X Y : Obj, ((wr.alloc X).alloc Y).cell? ⟨w1.heap.size + 1, 0, none⟩ = some v := fun X Y => by rw [blk_cell (blk_alloc (blk_alloc hcs X) Y)]; rfl
    have HG : Hid (gk = n - j) := hg
    have HP : Hid (wr.heap[pb]? = some (.cells #[.int .i64 j] 3)) := hpv
    have HCS : Hid (wr.heap[w1.heap.size + 1]? = some (.cells #[v] 39)) := hcs
    have cslt : w1.heap.size + 1 < wr.heap.size := blk_lt hcs
    have pbne : pb ≠ w1.heap.size + 1 := fun e => by rw [e, hcs] at hpv; simp at hpv
    clear hg hpv hcs
    by_cases hjn : j < n
    · have hjn' : (j : Int) < (n : Int) := by omega
      go_wp2_with fail
      go_region_law (first
        | (refine step_new (by rfl) _ (by rfl) (.func 18) #[] _ (by rfl) ?_)
        | (refine step_append_lies _ (by rfl) _ _ _ (by rfl) (w1.heap.size + 1) 22 i22 (.pointer none) 1 8 Try.underlying39 I22.out.1 I22.out.2.1 I22.out.2.2.2 I22.out.2.2.1 rfl (by omega) v j _ (by rfl) (by exact (hB.own.alloc _).alloc _) ⟨wr.heap.size + 1, 0, none⟩ 1 1 [.pointer (some ⟨wr.heap.size, 0, none⟩)] (by rfl) rfl (by exact World.news_of_block (cs := #[.pointer (some ⟨wr.heap.size, 0, none⟩)]) (own_second' wr _ _)) (by intro u hu; simp at hu; subst hu; rfl) (by omega) (by unfold maxLen; omega) (by omega) (by simp; omega) (wr.heap.size + 1 + 1) (by simp) ?_; intro g cap w2 hown hgrow hat hlt
           have hq := grown_old hB.own (grownBy_undrew hgrow) HCS.out (by simp)
           have cs2 : w2.cell? ⟨w1.heap.size + 1, 0, none⟩ = some v := by rw [blk_cell hq]; rfl
           have cf2 := blk_free hq
           have HQ : Hid (w2.heap[w1.heap.size + 1]? = some (.cells #[v] 39)) := hq
           have cp2 : w2.cell? ⟨pb, 0, none⟩ = some (.int .i64 j) := by rw [blk_cell (grown_old hB.own (grownBy_undrew hgrow) HP.out (by simp))]; rfl
           have cp3 : ∀ X, (w2.setCell ⟨w1.heap.size + 1, 0, none⟩ X).cell? ⟨pb, 0, none⟩ = some (.int .i64 j) := fun X => (World.cell?_setCell_other _ _ _ _ (fun e => pbne (congrArg Addr.block e).symm)).trans cp2
           have st := hB.step ⟨hpb, HP.out⟩ hsz (grownBy_undrew hgrow) hown rfl
           clear hq hat hlt hown hgrow))
      all_goals
        clear cs cs' cs'' cp cs2 cf2 cp2
        go_wp2
        go_roundg (n - (j + 1))
        case measure => rw [HG.out]; omega
        case rel =>
          obtain ⟨s1, s2, s3, s4⟩ := st
          have q1 : (w2.alloc (.cells #[.int .i64 (j + 1)] 3)).heap[w1.heap.size + 1]? = some (.cells #[v] 39) := blk_alloc HQ.out _
          have q2 := s1.store (Nat.le_refl _) q1 (.slice (some ⟨g, 0, none⟩) (j + 1) cap)
          have q3 := blk_set q1 0 (.slice (some ⟨g, 0, none⟩) (j + 1) cap)
          have ne : w2.heap.size ≠ w1.heap.size + 1 := by have := blk_lt HQ.out; omega
          rw [World.setCell_alloc_past _ _ _ _ (blk_lt HQ.out)] at q2 q3
          refine ⟨j + 1, _, _, _, _, rfl, by omega, rfl, q2, q3, by omega, ?_, by have := blk_lt HQ.out; simp; omega⟩
          rw [← World.setCell_alloc_past _ _ _ _ (blk_lt HQ.out), blk_other _ ne]; exact s3
    · obtain rfl : j = n := by omega
      clear hjn HG hj cs' cs''
      by_cases hz : j = 0
      · have jz : ((j : Int) == 0) = true := by simp [hz]
        clear hz
        go_wp2
        go_ret
        exact ⟨rfl, bls.trans (hB.below.mono (by omega))⟩
      · obtain ⟨i, rfl⟩ : ∃ i, j = i + 1 := ⟨j - 1, by omega⟩
        clear hz
        obtain ⟨ab, ao, hab, habw, ha⟩ : ∃ b o, a0 = some ⟨b, o, none⟩ ∧ b < w.heap.size ∧ ∀ t, t < l0 → w.cell? ⟨b, o + t, none⟩ = some (.int .i64 (av t)) := HAn.out.resolve_left (by omega)
        subst hab
        have hav : ∀ t, t < i + 1 → w.cell? ⟨ab, ao + t, none⟩ = some (.int .i64 (av t)) := fun t ht => ha t (by omega)
        have HV : Hid (∀ t, t < i + 1 → w.cell? ⟨ab, ao + t, none⟩ = some (.int .i64 (av t))) := hav
        obtain ⟨g, cap, hv, hg1, hg2⟩ := hB.own.form (by omega)
        subst hv
        obtain ⟨cur, hgc, hcur⟩ : ∃ cur, wr.heap[g]? = some (.cells cur 22) ∧ cur.toList.take (i + 1) = (List.range (i + 1)).map fun t => Value.pointer (some ⟨cb t, 0, none⟩) := by
          rcases hB.own.2 with ⟨h1, _⟩ | ⟨g', cap', cur, h1, _, h3, _, _, _, h4⟩
          · simp at h1
          · simp at h1
            obtain ⟨rfl, _⟩ := h1
            exact ⟨cur, h3, by simpa using h4⟩
        have L : NLie (i + 1) w.heap.size w1.heap.size (w1.heap.size + 1) g cb iv := ⟨⟨zw, by omega⟩,
          fun t ht => ⟨(hB.cell t ht).1, fun e => by have h1 := (hB.cell t ht).2; rw [e, HCS.out] at h1; simp at h1, fun e => by have h1 := (hB.cell t ht).2; rw [e, hgc] at h1; simp at h1⟩, hB.apart,
          fun s t hs ht e => by have h1 := (hB.cell s hs).2; rw [e, (hB.var t ht).2] at h1; simp at h1, fun t ht => (hB.var t ht).1, hg1⟩
        have hold : ∀ (k : Nat) (o : Obj), k < w1.heap.size + 1 → ws.heap[k]? = some o → wr.heap[k]? = some o := fun k o hk ho => by rw [hB.below.block k hk]; exact ho
        have h0 : NS (i + 1) w.heap.size w1.heap.size (w1.heap.size + 1) g l0 k0 cap cb iv (some ⟨ab, ao, none⟩) av cur w (i + 1) 0 0 wr :=
          ⟨bls.trans (hB.below.mono (by omega)), hold _ _ (by omega) ws0, hold _ _ (by omega) ws2, HCS.out, hgc, fun t ht => (hB.var t ht).2, fun t ht => (hB.cell t ht).2⟩
        have r0 := row_at hgc hcur (show i < i + 1 by omega)
        have HC : Hid (cur.toList.take (i + 1) = (List.range (i + 1)).map fun t => Value.pointer (some ⟨cb t, 0, none⟩)) := hcur
        have GG := h0.first L rfl habw n12 n0 hcur hav
        clear hold hB hg1 hg2 hgc ws0 ws2 HP hpb HCS hcur ha hav HAn h0 pbne bls
        go_wp2_with fail
        refine GG.mono ?_
        rintro e w2 ⟨rfl, hN⟩
        clear GG r0 cs
        have d5 : w2.cell? ⟨w1.heap.size + 1, 0, none⟩ = some (.slice (some ⟨g, 0, none⟩) (i + 1) cap) := by rw [blk_cell hN.head]; rfl
        have d6 := row_at hN.row HC.out (show i < i + 1 by omega)
        have d7 : w2.heap[cb i]? = some (cobj 1 0 0 1 .nilFunc (val av i)) := by have := hN.cell i (by omega); rwa [if_pos (by omega)] at this
        go_wp2_with fail
        go_loopw [10] (fun q wx => ∃ m : Nat, m ≤ 5 ∧ q = .int .i64 m ∧ wx = w2) (fun q _ => 5 - (intOf q).toNat)
        case atStart => exact ⟨0, by omega, rfl, rfl⟩
        case round =>
          obtain ⟨m, hm, rfl, rfl⟩ := hrel
          go_wp2_with fail
          refine (pick_any _ 5 (by decide) (by decide) _).mono ?_
          rintro e w' ⟨k, -, hk, rfl, rfl⟩
          by_cases mk : (m : Int) < (k : Int)
          · go_wp2_with fail
            refine (get_again _ _ _ _ _ _ _ d7).mono ?_
            rintro e w'' ⟨v, rfl, rfl, rfl⟩
            go_wp2
            go_roundw
            case rel => exact ⟨m + 1, by omega, by go_num, by first | rfl | trivial⟩
            case measure => simp [intOf]; omega
          · clear d5 d6 d7
            have dk : decide (m < k) = false := decide_eq_false (by omega)
            have hmk : ∀ W : World, (Instr.makeSlice 37 (.int .i64 ((i : Int) + 1)) (.int .i64 ((i : Int) + 1))).run Try.prog W = .ok (.slice (some ⟨W.heap.size, 0, none⟩) (i + 1) (i + 1)) (W.alloc (.cells (arr (i + 1) fun _ => .int .i64 0) 3)) := hm37
            clear hm37
            go_wp2_with fail
            obtain ⟨wz, hwz⟩ : ∃ wz, wz = w' := ⟨_, rfl⟩
            subst hwz
            have hN0 := hN.alloc (.cells (arr (i + 1) fun _ => .int .i64 0) 3)
            have hW0 : (wz.alloc (.cells (arr (i + 1) fun _ => .int .i64 0) 3)).heap[wz.heap.size]? = some (.cells (arr (i + 1) (fw av 0 0)) 3) := by
              rw [blk_new]; congr 2; exact arr_congr _ _ _ fun t _ => by simp [fw]
            have z1 : w1.heap.size + 1 < wz.heap.size := blk_lt hN.head
            have z2 : g < wz.heap.size := blk_lt hN.row
            have z3 : ∀ t, t < i + 1 → iv t < wz.heap.size ∧ cb t < wz.heap.size := fun t ht => ⟨blk_lt (hN.var t ht), blk_lt (hN.cell t ht)⟩
            clear hN
            go_loopw [12] (fun q wx => ∃ m : Nat, m ≤ i + 1 ∧ q = .int .i64 m ∧ NS (i + 1) w.heap.size w1.heap.size (w1.heap.size + 1) g l0 k0 cap cb iv (some ⟨ab, ao, none⟩) av cur w (i + 1) (i + 1) ((i : Int) + 1) wx ∧ Hid (wx.heap[wz.heap.size]? = some (.cells (arr (i + 1) (fw av m 0)) 3))) (fun q _ => i + 1 - (intOf q).toNat)
            case atStart => exact ⟨0, by omega, rfl, hN0, hW0⟩
            case round =>
              clear hN0 hW0
              obtain ⟨m, hm, rfl, hN, hW⟩ := hrel
              by_cases mi : m < i + 1
              · have m1 : (m : Int) < (i : Int) + 1 := by omega
                have m0 : (0 : Int) ≤ (m : Int) := by omega
                have ml : (m : Int) < (l0 : Int) := by omega
                have c1 : wr.cell? ⟨w.heap.size, 0, none⟩ = some (.slice (some ⟨ab, ao, none⟩) l0 k0) := by rw [blk_cell hN.answers]; rfl
                have c2 : wr.cell? ⟨ab, ao + m, none⟩ = some (.int .i64 (av m)) := (hN.below.cell (p := ⟨ab, ao + m, none⟩) habw).trans (HV.out m mi)
                have c3 := arr_cell hW.out mi
                have c4 := blk_free hW.out
                have A0 : Hid (acc av m 0 = (av m).tmod 1099511627776) := acc_zero av m
                go_wp2_with fail
                obtain ⟨wa, hwa⟩ : ∃ wa, wa = wr.setCell ⟨wz.heap.size, m, none⟩ (.int .i64 ((av m).tmod 1099511627776)) := ⟨_, rfl⟩
                rw [← hwa]
                have hNa : NS (i + 1) w.heap.size w1.heap.size (w1.heap.size + 1) g l0 k0 cap cb iv (some ⟨ab, ao, none⟩) av cur w (i + 1) (i + 1) ((i : Int) + 1) wa := by
                  rw [hwa]; exact hN.set (by omega) (by omega) z1 z2 (fun t ht => (z3 t ht).1) (fun t ht => (z3 t ht).2) _ _
                have hWa : wa.heap[wz.heap.size]? = some (.cells (arr (i + 1) (fw av m (acc av m 0))) 3) := by
                  rw [hwa, arr_blk_set hW.out, fw_set, A0.out]
                clear hwa c1 c2 c3 c4 hN hW
                go_loopw [13] (fun q wx => ∃ k : Nat, k ≤ m ∧ q = .int .i64 k ∧ NS (i + 1) w.heap.size w1.heap.size (w1.heap.size + 1) g l0 k0 cap cb iv (some ⟨ab, ao, none⟩) av cur w (i + 1) (i + 1) ((i : Int) + 1) wx ∧ Hid (wx.heap[wz.heap.size]? = some (.cells (arr (i + 1) (fw av m (acc av m k))) 3))) (fun q _ => m - (intOf q).toNat)
                case atStart => exact ⟨0, by omega, rfl, hNa, hWa⟩
                case round =>
                  clear hNa hWa
                  obtain ⟨k, hk', rfl, hN, hW⟩ := hrel
                  have c3 : wr.cell? ⟨wz.heap.size, m, none⟩ = some (.int .i64 (acc av m k)) := by rw [arr_cell hW.out mi, fw_at]
                  have c4 := blk_free hW.out
                  by_cases km : k < m
                  · have k1 : (k : Int) < (m : Int) := by omega
                    have kp : (0 : Int) ≤ (k : Int) := by omega
                    have k2 : (k : Int) < (i : Int) + 1 := by omega
                    have c5 : wr.cell? ⟨wz.heap.size, k, none⟩ = some (.int .i64 (val av k)) := by rw [arr_cell hW.out (by omega), fw_below av m _ km]
                    have AS : Hid (acc av m (k + 1) = wrap64 (acc av m k + val av k)) := acc_succ av m k km
                    go_wp2_with fail
                    go_region
                    all_goals
                      go_wp2
                      go_roundw
                      case rel =>
                        refine ⟨k + 1, by omega, by go_num, (hN.set (by omega) (by omega) z1 z2 (fun t ht => (z3 t ht).1) (fun t ht => (z3 t ht).2) _ _).drew, ?_⟩
                        refine (congrArg some ?_ : _ = _) |> fun e => (Eq.trans (blk_drew) ((arr_blk_set hW.out m _).trans e) : _)
                        rw [fw_set, AS.out]
                      case measure => simp [intOf]; omega
                  · have k1 : ¬ (k : Int) < (m : Int) := by omega
                    obtain rfl : k = m := by omega
                    have VA : Hid (val av k = (acc av k k).tmod 1099511627776) := val_acc av k
                    go_wp2_with fail
                    obtain ⟨wb, hwb⟩ : ∃ wb, wb = wr.setCell ⟨wz.heap.size, k, none⟩ (.int .i64 ((acc av k k).tmod 1099511627776)) := ⟨_, rfl⟩
                    rw [← hwb]
                    have hNb : NS (i + 1) w.heap.size w1.heap.size (w1.heap.size + 1) g l0 k0 cap cb iv (some ⟨ab, ao, none⟩) av cur w (i + 1) (i + 1) ((i : Int) + 1) wb := by
                      rw [hwb]; exact hN.set (by omega) (by omega) z1 z2 (fun t ht => (z3 t ht).1) (fun t ht => (z3 t ht).2) _ _
                    have hWb : wb.heap[wz.heap.size]? = some (.cells (arr (i + 1) (fw av (k + 1) 0)) 3) := by
                      rw [hwb, arr_blk_set hW.out, fw_set, ← VA.out, fw_next]
                    clear hwb c3 c4 hN hW
                    have e1 : wb.cell? ⟨w1.heap.size + 1, 0, none⟩ = some (.slice (some ⟨g, 0, none⟩) (i + 1) cap) := by rw [blk_cell hNb.head]; rfl
                    have e2 := row_at hNb.row HC.out mi
                    have e3 : wb.heap[cb k]? = some (cobj 1 0 0 1 .nilFunc (val av k)) := by have := hNb.cell k mi; rwa [if_pos mi] at this
                    have e4 : wb.cell? ⟨wz.heap.size, k, none⟩ = some (.int .i64 (val av k)) := by rw [arr_cell hWb mi, fw_below av (k + 1) _ (by omega)]
                    have HWB : Hid (wb.heap[wz.heap.size]? = some (.cells (arr (i + 1) (fw av (k + 1) 0)) 3)) := hWb
                    clear hWb
                    go_region_held3 (fun W => W.cell? ⟨w1.heap.size + 1, 0, none⟩ = some (.slice (some ⟨g, 0, none⟩) (i + 1) cap) ∧ W.cell? ⟨g, k, none⟩ = some (.pointer (some ⟨cb k, 0, none⟩)) ∧ W.cell? ⟨wz.heap.size, k, none⟩ = some (.int .i64 (val av k))) (go_keep)
                      (first | (go_at_call 14; refine (get_again (cb k) _ _ _ _ _ _ (by exact e3)).mono ?_; rintro e w'' ⟨v, rfl, rfl, rfl⟩))
                    go_wp2
                    go_roundw
                    case rel => exact ⟨k + 1, by omega, by go_num, hNb.drew, HWB⟩
                    case measure => simp [intOf]; omega
              · have m1 : ¬ (m : Int) < (i : Int) + 1 := by omega
                obtain rfl : m = i + 1 := by omega
                have e1 : wr.cell? ⟨w1.heap.size, 0, none⟩ = some (.int .i64 ((i : Int) + 1)) := by rw [blk_cell hN.count]; rfl
                have e4 : wr.cell? ⟨wz.heap.size, i, none⟩ = some (.int .i64 (val av i)) := by rw [arr_cell hW.out (by omega), fw_below av (i + 1) _ (by omega)]
                go_wp2
                go_ret
                exact ⟨rfl, hN.below⟩
end Go.Proofs.Ytbaolijhjijlmaa
