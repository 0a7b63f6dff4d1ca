/-
  flate's run and lengths as contracts.
-/
import Derived.Test.YtahibacjaoohiaaDoorSprd
import Derived.Test.YtahibacjaoohiaaDoorCoded2
import Derived.Test.YtahibacjaoohiaaDoorFixl
namespace Go.Proofs.YtahibacjaoohiaaDoor
open Go.RowKit

/-- What run answers. -/
def Tells3 (B s b g len : Nat) (z : Nat → Nat) (most : Nat) (v : Value) (x : Six) (out : List Int) (E : Except Nat (Int × Nat × Nat)) (w : World) (e : Ending) (w' : World) : Prop :=
  Moves s b v v w w' ∧ ((∃ k, Hid (E = .error k) ∧ 0 < k ∧ e = .returned (.tuple #[.int .i64 0, .int .i64 0, .int .i64 (k : Nat)])) ∨ ∃ l t q, Hid (E = .ok (l, t, q)) ∧ e = .returned (.tuple #[.int .i64 l, .int .i64 (t : Nat), .int .i64 0]) ∧ Strm w' B s b g len z most v x q out)
theorem ret3 {a b : Int} {u y : Value} (h : a = b) : Ending.returned (.tuple #[u, .int .i64 a, y]) = .returned (.tuple #[u, .int .i64 b, y]) := by rw [h]

set_option maxRecDepth 100000 in
set_option maxHeartbeats 1600000 in
theorem run_any (B s b g len : Nat) (z : Nat → Nat) (most : Nat) (v : Value) (x : Six) (p : Nat) (out : List Int) (sy : Nat) (hs : sy < 19) (base : Nat) (r : Value) (acc : List Int) (w : World) (h : Strm w B s b g len z most v x p out) (hO : OwnV w base 3 .i64 r acc) (hl : acc.length ≤ 1000) :
    Calls Tryd.prog 75 #[.pointer (some ⟨s, 0, none⟩), .int .i64 (sy : Nat), r] w (Tells3 B s b g len z most v x out (runE z (8 * len) p sy acc) w) := by
  by_cases h1 : sy < 16
  · have h1' : (sy : Int) < 16 := by omega
    go_enter Tryd.func75, Tryd.ntmps75
    go_wp2
    go_ret3
    exact ⟨Moves.refl _ _ _ _, .inr ⟨sy, 1, p, by show _ = _; unfold runE; rw [if_pos h1], rfl, h⟩⟩
  · have h1' : ¬ (sy : Int) < 16 := by omega
    by_cases h2 : sy = 16
    · subst h2
      by_cases h0 : acc.length = 0
      · have e0 : acc = [] := List.length_eq_zero_iff.1 h0
        subst e0
        obtain ⟨a, cap, rfl⟩ := hO.form
        go_enter Tryd.func75, Tryd.ntmps75
        go_wp2
        go_ret3
        exact ⟨Moves.refl _ _ _ _, .inl ⟨2, by show _ = _; unfold runE; rw [if_neg (by omega), if_pos rfl, if_pos h0], by omega, rfl⟩⟩
      · obtain ⟨g1, cap, rfl, hO1⟩ := hO.own (by omega)
        have hc := hO1.cell (j := acc.length - 1) (by omega)
        have hlc := hO1.lc.1
        have hcm := hO1.lc.2
        unfold maxLen at hcm
        have hX : (acc.length : Int) - 1 = ((acc.length - 1 : Nat) : Int) := by omega
        have hXl : acc.length - 1 < acc.length := by omega
        obtain ⟨X, hXe⟩ : ∃ X, Hid (acc.length - 1 = X) := ⟨_, rfl⟩
        obtain ⟨l, hle⟩ : ∃ l, Hid (acc.getD (acc.length - 1) 0 = l) := ⟨_, rfl⟩
        rw [hle.out] at hc
        rw [hXe.out] at hX hXl hc
        have h0' : ¬ (acc.length : Int) = 0 := by omega
        by_cases hp : p + 2 ≤ 8 * len
        · go_enter Tryd.func75, Tryd.ntmps75
          go_wp2_with fail
          refine (take_yes B s b g len z most v x p out 2 (by omega) _ h hp).mono ?_
          rintro e w1 ⟨rfl, hS, hM⟩
          have t1 : takev z p 2 < 4 := takev_lt z p 2
          go_wp2
          go_ret3
          exact ⟨hM, .inr ⟨l, 3 + takev z p 2, p + 2, by show _ = _; unfold runE; rw [if_neg (by omega), if_pos rfl, if_neg h0, if_pos hp, hle.out], ret3 (by omega), hS⟩⟩
        · go_enter Tryd.func75, Tryd.ntmps75
          go_wp2_with fail
          refine (take_no B s b g len z most v x p out 2 (by omega) _ h hp).mono ?_
          rintro e w1 ⟨rfl, hM⟩
          go_wp2
          go_ret3
          exact ⟨hM, .inl ⟨3, by show _ = _; unfold runE; rw [if_neg (by omega), if_pos rfl, if_neg h0, if_neg hp], by omega, rfl⟩⟩
    · have h2' : ¬ (sy : Int) = 16 := by omega
      by_cases h3 : sy = 18
      · subst h3
        by_cases hp : p + 7 ≤ 8 * len
        · go_enter Tryd.func75, Tryd.ntmps75
          go_wp2_with fail
          refine (take_yes B s b g len z most v x p out 7 (by omega) _ h hp).mono ?_
          rintro e w1 ⟨rfl, hS, hM⟩
          have t1 : takev z p 7 < 128 := takev_lt z p 7
          go_wp2
          go_ret3
          exact ⟨hM, .inr ⟨0, 11 + takev z p 7, p + 7, by show _ = _; unfold runE; rw [if_neg (by omega), if_neg (by omega), if_pos rfl, if_pos hp], ret3 (by omega), hS⟩⟩
        · go_enter Tryd.func75, Tryd.ntmps75
          go_wp2_with fail
          refine (take_no B s b g len z most v x p out 7 (by omega) _ h hp).mono ?_
          rintro e w1 ⟨rfl, hM⟩
          go_wp2
          go_ret3
          exact ⟨hM, .inl ⟨3, by show _ = _; unfold runE; rw [if_neg (by omega), if_neg (by omega), if_pos rfl, if_neg hp], by omega, rfl⟩⟩
      · have h3' : ¬ (sy : Int) = 18 := by omega
        by_cases hp : p + 3 ≤ 8 * len
        · go_enter Tryd.func75, Tryd.ntmps75
          go_wp2_with fail
          refine (take_yes B s b g len z most v x p out 3 (by omega) _ h hp).mono ?_
          rintro e w1 ⟨rfl, hS, hM⟩
          have t1 : takev z p 3 < 8 := takev_lt z p 3
          go_wp2
          go_ret3
          exact ⟨hM, .inr ⟨0, 3 + takev z p 3, p + 3, by show _ = _; unfold runE; rw [if_neg h1, if_neg h2, if_neg h3, if_pos hp], ret3 (by omega), hS⟩⟩
        · go_enter Tryd.func75, Tryd.ntmps75
          go_wp2_with fail
          refine (take_no B s b g len z most v x p out 3 (by omega) _ h hp).mono ?_
          rintro e w1 ⟨rfl, hM⟩
          go_wp2
          go_ret3
          exact ⟨hM, .inl ⟨3, by show _ = _; unfold runE; rw [if_neg h1, if_neg h2, if_neg h3, if_neg hp], by omega, rfl⟩⟩

/-- A row of the call's own grows: the stream stands. -/
theorem Strm.row {w w1 w2 : World} {B s b g len : Nat} {z : Nat → Nat} {most : Nat} {v : Value} {x : Six} {p : Nat} {out : List Int} {q : Nat} {u u' : Value} {acc : List Int} (h0 : Strm w B s b g len z most v x p out) (h1 : Strm w1 B s b g len z most v x q out) (M1 : Moves s b v v w w1) (hO : OwnV w1 w.heap.size 3 .i64 u acc) (m : RowM u u' w1 w2) :
    Strm w2 B s b g len z most v x q out ∧ Moves s b v v w w2 := by
  have hu : ∀ k, u.ownBlock = some k → w.heap.size ≤ k := fun k hk => (World.ownsRow.lt hO k hk).1
  have M2 : Moves s b v v w w2 := ⟨⟨m.kept.os.trans M1.kept.os, m.kept.tape.trans M1.kept.tape, m.kept.output.trans M1.kept.output, Nat.le_trans M1.kept.size m.kept.size, fun k hk ha => by
    rw [m.kept.block k (Nat.lt_of_lt_of_le hk M1.kept.size) (fun e => by have := hu k e; omega)]; exact M1.kept.block k hk ha⟩, .inl rfl⟩
  have ns : ∀ k, k < w.heap.size → ¬ (u.ownBlock = some k) := fun k hk e => by have := hu k e; omega
  refine ⟨⟨m.kept.blk h1.obj (ns s (blk_lt h0.obj)), h1.bits.kept m.kept (ns b (blk_lt h0.bits.obj)) (ns g (blk_lt h0.bits.row)), h1.own.kept' m.kept (fun i hi => ns i (h0.mine (.inr (.inr hi))).2), h1.byte, h1.fit, h1.small, h0.fx.moves M2, h1.ng, h1.bs, h1.bb, Nat.le_trans h1.sz m.kept.size⟩, M2⟩
/-- The stream's own calls turn no row of the call's own. -/
theorem OwnV.moves {w w1 w2 : World} {B s b g len : Nat} {z : Nat → Nat} {most : Nat} {v : Value} {x : Six} {p : Nat} {out : List Int} {u : Value} {acc : List Int} (h0 : Strm w B s b g len z most v x p out) (hO : OwnV w1 w.heap.size 3 .i64 u acc) (M : Moves s b v v w1 w2) : OwnV w2 w.heap.size 3 .i64 u acc :=
  hO.kept' M.kept (fun i hi e => by have := (h0.mine e).2; have := (World.ownsRow.lt hO i hi).1; omega)

/-- What lengths answers. -/
def TellsL (B s b g len : Nat) (z : Nat → Nat) (most : Nat) (v : Value) (x : Six) (out : List Int) (count : Nat) (E : Except Nat St) (w : World) (e : Ending) (w' : World) : Prop :=
  Moves s b v v w w' ∧ ((∃ k, Hid (E = .error k) ∧ 0 < k ∧ e = .returned (.tuple #[.slice none 0 0, .int .i64 (k : Nat)])) ∨ ∃ q acc r, Hid (E = .ok (q, acc)) ∧ e = .returned (.tuple #[r, .int .i64 0]) ∧ Strm w' B s b g len z most v x q out ∧ OwnV w' w.heap.size 3 .i64 r acc ∧ Hid (∀ y ∈ acc, 0 ≤ y ∧ y ≤ 15) ∧ Hid (acc.length = count))

set_option maxRecDepth 100000 in
set_option maxHeartbeats 1600000 in
theorem lengths_any (B s b g len : Nat) (z : Nat → Nat) (most : Nat) (v : Value) (x : Six) (p : Nat) (out : List Int) (a0 a1 a2 : Value) (A : Nat → Nat) (count : Nat) (hcount : count ≤ 320) (w : World) (h : Strm w B s b g len z most v x p out) (hA : Alph w s b v a0 a1 a2 19 A) :
    Calls Tryd.prog 72 #[.pointer (some ⟨s, 0, none⟩), .agg #[a0, a1, a2], .int .i64 (count : Nat)] w (TellsL B s b g len z most v x out count (lensE A count z (8 * len) (p, [])) w) := by
  have hmk := make29c count (by omega)
  have bw : Below w.heap.size w ((w.alloc (.cells #[a0, a1, a2] 55)).alloc (.cells (arr count fun _ => .int .i64 0) 3)) := ((Below.refl _ _).alloc (Nat.le_refl _) _).alloc (by simp) _
  have h' := h.below bw
  have m' : Moves s b v v w _ := Moves.of_below bw
  have gb := blk_alloc (blk_new w (.cells #[a0, a1, a2] 55)) (.cells (arr count fun _ => .int .i64 0) 3)
  have nm : ¬ Mine s b v w.heap.size := fun e => by have := h.mine e; omega
  have hO := own_made (w.alloc (.cells #[a0, a1, a2] 55)) w.heap.size count (by simp) (by omega)
  rw [World.size_alloc] at hO
  obtain ⟨W, hW⟩ : ∃ W, W = (w.alloc (.cells #[a0, a1, a2] 55)).alloc (.cells (arr count fun _ => .int .i64 0) 3) := ⟨_, rfl⟩
  rw [← hW] at h' m' gb hO
  go_enter Tryd.func72, Tryd.ntmps72
  go_wp2_with fail
  rw [← hW]
  clear hW bw hmk
  go_loopw [8] (fun u wq => ∃ (p1 : Nat) (acc : List Int), Strm wq B s b g len z most v x p1 out ∧ Moves s b v v w wq ∧ OwnV wq w.heap.size 3 .i64 u acc ∧ wq.heap[w.heap.size]? = some (.cells #[a0, a1, a2] 55) ∧ Hid (∀ y ∈ acc, 0 ≤ y ∧ y ≤ 15) ∧ acc.length ≤ count ∧ Hid (lensE A count z (8 * len) (p1, acc) = lensE A count z (8 * len) (p, []))) (fun _ wq => 8 * len - pOf b wq)
  case atStart => exact ⟨p, [], h', m', hO, gb, fun y hy => by simp at hy, by simp, rfl⟩
  case round =>
    clear h' m' hO gb W
    obtain ⟨p1, acc, hS, hM, hO, gb, h15, hlc, hls⟩ := hrel
    have HP : Hid (pOf b wr = p1) := hS.pOf
    obtain ⟨a, cap, rfl⟩ := hO.form
    by_cases hlt : acc.length < count
    · have hlt' : (acc.length : Int) < count := by omega
      have c0 : wr.cell? ⟨w.heap.size, 0, none⟩ = some a0 := blk_cell gb 0
      have c1 : wr.cell? ⟨w.heap.size, 1, none⟩ = some a1 := blk_cell gb 1
      have c2 : wr.cell? ⟨w.heap.size, 2, none⟩ = some a2 := blk_cell gb 2
      have A1 := hA.moves hM
      go_wp2_with fail
      refine (symbol_any B s b g len z most v x p1 out a0 a1 a2 19 A _ hS A1).mono ?_
      rintro e w1 ⟨hM1, ⟨k, hE, hk, rfl⟩ | ⟨n, q, hE, rfl, hS1⟩⟩
      · have hk0 : ¬ (k : Int) = 0 := by omega
        go_wp2
        go_ret2
        exact ⟨hM.trans hM1, .inl ⟨k, by show _ = _; rw [← hls.out]; exact lensE_done (by unfold lensS; rw [if_neg (by simp; omega), hE.out]), hk, rfl⟩⟩
      · have hok := symE_ok hE.out
        have hn19 : n < 19 := hok.2.2
        have HQ : Hid (p1 < q ∧ q ≤ 8 * len) := ⟨hok.1, hok.2.1⟩
        have O1 := hO.moves h hM1
        have gb1 := hM1.blk gb nm
        have M1 := hM.trans hM1
        clear hok c0 c1 c2 A1 hS hO hM hM1 gb
        go_wp2_with fail
        refine (run_any B s b g len z most v x q out n hn19 w.heap.size _ acc _ hS1 O1 (by omega)).mono ?_
        rintro e w2 ⟨hM2, ⟨k, hE2, hk, rfl⟩ | ⟨l, t, q2, hE2, rfl, hS2⟩⟩
        · have hk0 : ¬ (k : Int) = 0 := by omega
          go_wp2
          go_ret2
          exact ⟨M1.trans hM2, .inl ⟨k, by show _ = _; rw [← hls.out]; exact lensE_done (by unfold lensS; rw [if_neg (by simp; omega), hE.out]; simp only; rw [hE2.out]), hk, rfl⟩⟩
        · have hr := runE_ok hE2.out HQ.out.2 h15.out
          have hq2 : q ≤ q2 := hr.1
          have HQ2 : Hid (p1 < q2 ∧ q2 ≤ 8 * len) := ⟨Nat.lt_of_lt_of_le HQ.out.1 hr.1, hr.2.1⟩
          have HL : Hid (0 ≤ l ∧ l ≤ 15) := ⟨hr.2.2.1, hr.2.2.2.1⟩
          have ht : t ≤ 200 := hr.2.2.2.2.2
          have O2 := O1.moves h hM2
          have gb2 := hM2.blk gb1 nm
          have M2 := M1.trans hM2
          clear hr hq2 O1 gb1 M1 hM2 hS1 HQ
          by_cases hbig : count - acc.length < t
          · have hbig' : (count : Int) - (acc.length : Int) < t := by omega
            go_wp2
            go_ret2
            exact ⟨M2, .inl ⟨2, by show _ = _; rw [← hls.out]; exact lensE_done (by unfold lensS; rw [if_neg (by simp; omega), hE.out]; simp only; rw [hE2.out]; simp only; rw [if_pos (by simpa using hbig)]), by omega, rfl⟩⟩
          · have hbig' : ¬ (count : Int) - (acc.length : Int) < t := by omega
            go_wp2_with fail
            refine (repeat_any w.heap.size _ acc l t _ O2 M2.kept.size (by omega)).mono ?_
            rintro e w3 ⟨r3, rfl, O3, m3⟩
            obtain ⟨S3, M3⟩ := h.row hS2 M2 O2 m3
            have gb3 : w3.heap[w.heap.size]? = some (.cells #[a0, a1, a2] 55) := m3.kept.blk gb2 (fun e => by
              rcases O2.2 with ⟨hv, _⟩ | ⟨g', cap', cur, hv, _, hg', _⟩
              · rw [hv] at e; simp [Value.ownBlock] at e
              · rw [hv] at e; simp [Value.ownBlock] at e; subst e; rw [hg'] at gb2; simp at gb2)
            have HO3 : Hid (OwnV w3 w.heap.size 3 .i64 r3 (acc ++ List.replicate t l)) := O3
            have HS3 : Hid (Strm w3 B s b g len z most v x q2 out) := S3
            clear O3 S3 O2 gb2 hS2 M2 m3
            go_wp2
            refine ⟨⟨q2, acc ++ List.replicate t l, HS3.out, M3, HO3.out, gb3, ?_, by simp; omega, ?_⟩, ?_⟩
            · intro y hy
              simp at hy
              rcases hy with hy | hy
              · exact h15.out y hy
              · rw [hy.2]; exact HL.out
            · show _ = _
              rw [← hls.out]
              exact (lensE_more (by unfold lensS; rw [if_neg (by simp; omega), hE.out]; simp only; rw [hE2.out]; simp only; rw [if_neg (by simpa using hbig)]) h15.out).symm
            · rw [HS3.out.pOf, HP.out]; have := HQ2.out; omega
    · have hlt' : ¬ (acc.length : Int) < count := by omega
      go_wp2
      go_ret2
      exact ⟨hM, .inr ⟨p1, acc, _, by show _ = _; rw [← hls.out]; exact lensE_done (by unfold lensS; rw [if_pos (by simp; omega)]), rfl, hS, hO, h15, by show _ = _; omega⟩⟩
end Go.Proofs.YtahibacjaoohiaaDoor
