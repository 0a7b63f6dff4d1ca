
/-
  codes.New as a contract.
-/
import Derived.Test.YtahibacjaoohiaaDoorAssign
namespace Go.Proofs.YtahibacjaoohiaaDoor
open Go.RowKit

theorem fits_lit (c : Nat → Nat) (hc : ∀ n, c n ≤ 320) (w : World) :
    Calls Tryd.prog 76 #[.agg #[.int .i64 (c 0 : Nat), .int .i64 (c 1 : Nat), .int .i64 (c 2 : Nat), .int .i64 (c 3 : Nat), .int .i64 (c 4 : Nat), .int .i64 (c 5 : Nat), .int .i64 (c 6 : Nat), .int .i64 (c 7 : Nat), .int .i64 (c 8 : Nat), .int .i64 (c 9 : Nat), .int .i64 (c 10 : Nat), .int .i64 (c 11 : Nat), .int .i64 (c 12 : Nat), .int .i64 (c 13 : Nat), .int .i64 (c 14 : Nat), .int .i64 (c 15 : Nat)]] w
      fun e w' => e = .returned (.bool (fitsv c)) ∧ Below w.heap.size w w' := by
  have h := fits_any c hc w
  have e : (arr 16 fun n => Value.int .i64 (c n : Nat)) = #[.int .i64 (c 0 : Nat), .int .i64 (c 1 : Nat), .int .i64 (c 2 : Nat), .int .i64 (c 3 : Nat), .int .i64 (c 4 : Nat), .int .i64 (c 5 : Nat), .int .i64 (c 6 : Nat), .int .i64 (c 7 : Nat), .int .i64 (c 8 : Nat), .int .i64 (c 9 : Nat), .int .i64 (c 10 : Nat), .int .i64 (c 11 : Nat), .int .i64 (c 12 : Nat), .int .i64 (c 13 : Nat), .int .i64 (c 14 : Nat), .int .i64 (c 15 : Nat)] := by
    simp [arr, List.range, List.range.loop]
  rwa [e] at h

set_option maxRecDepth 100000 in
set_option maxHeartbeats 1600000 in
theorem new_any (a : Option Addr) (len cap : Nat) (f : Nat → Int) (w : World) (h : Ints w a len cap f) :
    Calls Tryd.prog 74 #[.slice a len cap] w fun e w' => Below w.heap.size w w' ∧ ((¬ GoodL f len ∧ e = .returned (.tuple #[.pointer none, .int .i64 2])) ∨
      (GoodL f len ∧ ∃ o gw gs, w.heap.size ≤ o ∧ w.heap.size ≤ gw ∧ w.heap.size ≤ gs ∧ e = .returned (.tuple #[.pointer (some ⟨o, 0, none⟩), .int .i64 0]) ∧ CodeAt w' o gw gs len fun i => (f i).toNat)) := by
  by_cases hlen : len ≤ 320
  · have hlen' : ¬ (320 : Int) < (len : Int) := by omega
    obtain ⟨L, hL⟩ : ∃ L : Nat → Nat, Hid (L = fun i => (f i).toNat) := ⟨_, rfl⟩
    go_enter Tryd.func74, Tryd.ntmps74
    go_wp2_with fail
    rw [cobj0_new L]
    have hg := blk_new w (.cells (arr 18 (cobj0 (cn L 0))) 118)
    have hbel : Below w.heap.size w (w.alloc (.cells (arr 18 (cobj0 (cn L 0))) 118)) := (Below.refl _ _).alloc (Nat.le_refl _) _
    obtain ⟨W, hW⟩ : ∃ W, W = w.alloc (.cells (arr 18 (cobj0 (cn L 0))) 118) := ⟨_, rfl⟩
    rw [← hW] at hg hbel ⊢
    clear hW
    go_loopw [13] (fun j wq => ∃ i : Nat, i ≤ len ∧ (∀ k, k < i → 0 ≤ f k ∧ f k ≤ 15) ∧ j = .int .i64 i ∧ wq.heap[w.heap.size]? = some (.cells (arr 18 (cobj0 (cn L i))) 118) ∧ Below w.heap.size w wq) (fun j _ => len - (intOf j).toNat)
    case atStart => exact ⟨0, by omega, fun k hk => by omega, rfl, hg, hbel⟩
    case round =>
      clear hg hbel W
      obtain ⟨i, hi, hk, rfl, hg, hbel⟩ := hrel
      by_cases hil : i < len
      · have hil' : (i : Int) < (len : Int) := by omega
        obtain ⟨b, off, rfl, hb, hc⟩ := h.spot (by omega)
        have hci : wr.cell? ⟨b, off + i, none⟩ = some (.int .i64 (f i)) := by
          rw [World.cell?_of_block (a := ⟨b, off + i, none⟩) (hbel.block b hb)]; exact hc i hil
        by_cases g1 : f i < 0
        · have hbad : ¬ GoodL f len := fun hg => by have := hg.each i hil; omega
          have HB : Hid (¬ GoodL f len) := hbad
          clear hbad
          go_wp2
          go_ret2
          exact ⟨hbel, .inl ⟨HB.out, rfl⟩⟩
        · by_cases g2 : 15 < f i
          · have hbad : ¬ GoodL f len := fun hg => by have := hg.each i hil; omega
            have HB : Hid (¬ GoodL f len) := hbad
            clear hbad
            go_wp2
            go_ret2
            exact ⟨hbel, .inl ⟨HB.out, rfl⟩⟩
          · by_cases g3 : 0 < f i
            · obtain ⟨n, hn⟩ : ∃ n : Nat, f i = n := ⟨(f i).toNat, by omega⟩
              rw [hn] at hci g1 g2 g3
              have HN : Hid (f i = n) := hn
              clear hn
              have hLi : L i = n := by rw [hL.out]; show (f i).toNat = n; rw [HN.out]; rfl
              have hcc : wr.cell? ⟨w.heap.size, 1 + n, none⟩ = some (.int .i64 (cn L i n : Nat)) := by
                rw [arr_cell hg (t := 1 + n) (by omega)]; unfold cobj0; rw [if_neg (by omega), show 1 + n - 1 = n by omega]
              have hcn := cn_le L i n
              go_wp2_with fail
              have hin := Ext.inh wr
              have hcx := fun k : Ext wr => Ext.cell hcc k
              refine region_ext_cone 10 (by kernel_rfl) (by kernel_rfl) ?_
              simp only [List.take_succ_cons, List.take_zero, List.drop_succ_cons, List.drop_zero]
              repeat (go_big_quiet_step (fail))
              refine wpQuiet_nil ?_
              rintro _ ⟨k, rfl⟩
              have gk := Ext.blk hg k
              have fk := blk_free gk (1 + n)
              have ck := hcx k
              clear hcx hin
              go_wp2
              refine ⟨⟨i + 1, by omega, fun k hk' => ?_, by go_num, ?_, ?_⟩, by simp [intOf]; omega⟩
              · by_cases e : k = i
                · subst e; rw [HN.out]; omega
                · exact hk k (by omega)
              · rw [arr_blk_set gk, cobj0_up L i n hLi (by omega) (by omega) rfl]
              · exact (hbel.trans (k.h.mono hbel.size)).setCell (by simp) _
            · have hf0 : f i = 0 := by omega
              rw [hf0] at hci
              have HF : Hid (f i = 0) := hf0
              clear hf0 g1 g2 g3
              go_wp2
              refine ⟨⟨i + 1, by omega, fun k hk' => ?_, by go_num, ?_, hbel⟩, by simp [intOf]; omega⟩
              · by_cases e : k = i
                · subst e; rw [HF.out]; omega
                · exact hk k (by omega)
              · rw [hg, cobj0_same L i (by rw [hL.out]; show (f i).toNat = 0; rw [HF.out]; rfl)]
      · have hil' : ¬ (i : Int) < (len : Int) := by omega
        obtain rfl : i = len := by omega
        have each : ∀ k, k < i → L k ≤ 15 := fun k hk' => by have := hk k hk'; rw [hL.out]; show (f k).toNat ≤ 15; omega
        have hr : wr.rangeAt w.heap.size 1 ((List.range 16).map fun n => .int .i64 (cn L i n : Nat)) := fun j v hv => by
          have hj : j < 16 := by have := (List.getElem?_eq_some_iff.1 hv).1; simpa using this
          simp [hj] at hv
          rw [arr_cell hg (t := 1 + j) (by omega), ← hv]; unfold cobj0; rw [if_neg (by omega), show 1 + j - 1 = j by omega]
        have HR : Hid (wr.rangeAt w.heap.size 1 ((List.range 16).map fun n => .int .i64 (cn L i n : Nat))) := hr
        clear hr
        go_wp2_with (refine wpList_load_mid (by rfl) 116 _ (by rfl) w.heap.size 1 (by rfl) _ _ HR.out Tryd.underlying116 rfl (by kernel_rfl) ?_)
        refine (fits_lit (cn L i) (fun n => Nat.le_trans (cn_le L i n) hlen) _).mono ?_
        rintro e w1 ⟨rfl, b1⟩
        have hg1 := Below.blk b1 hg (blk_lt hg)
        have hbel1 : Below w.heap.size w w1 := hbel.trans (b1.mono hbel.size)
        have hfo : fitsv (cn L i) = okc L i := (okc_left L i each).symm
        clear HR hg hbel b1
        by_cases hok : okc L i = true
        · rw [hfo, hok]
          have hgood : GoodL f i := ⟨hlen, hk, by rw [← hL.out]; exact hok⟩
          have HG : Hid (GoodL f i) := hgood
          have hI1 := h.below hbel1 (Nat.le_refl _)
          have hlf : ∀ k, k < i → f k = (L k : Nat) := fun k hk' => by have := hk k hk'; rw [hL.out]; show f k = ((f k).toNat : Int); omega
          clear hfo
          go_wp2_with fail
          refine (assign_any w.heap.size a i cap f L hlf _ hI1 hlen each hok hg1 (fun h0 b off hab hb2 => ?_)).mono ?_
          · obtain ⟨b', off', e', hb', _⟩ := h.spot h0
            rw [hab] at e'
            simp at e'
            omega
          rintro e w2 ⟨rfl, gw, gs, h1, h2, hC, k2⟩
          have hs1 := hbel1.size
          have b2 : Below w.heap.size w w2 := Below.kept hbel1 k2 (Nat.le_refl _) (fun k hk' => by omega)
          go_wp2
          go_ret2
          refine ⟨b2, .inr ⟨HG.out, w.heap.size, gw, gs, Nat.le_refl _, by omega, by omega, rfl, ?_⟩⟩
          rw [← hL.out]; exact hC
        · have hok' : okc L i = false := by simpa using hok
          rw [hfo, hok']
          have HB : Hid (¬ GoodL f i) := fun hg => hok (by rw [hL.out]; exact hg.ok)
          clear hfo
          go_wp2
          go_ret2
          exact ⟨hbel1, .inl ⟨HB.out, rfl⟩⟩
  · have hlen' : (320 : Int) < (len : Int) := by omega
    have HB : Hid (¬ GoodL f len) := fun hg => hlen hg.few
    go_enter Tryd.func74, Tryd.ntmps74
    go_wp2
    go_ret2
    exact ⟨Below.refl _ _, .inl ⟨HB.out, rfl⟩⟩
end Go.Proofs.YtahibacjaoohiaaDoor
