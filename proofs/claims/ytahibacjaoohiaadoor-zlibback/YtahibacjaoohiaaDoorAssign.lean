
/-
  codes.assign as a contract: a code in memory.
-/
import Derived.Test.YtahibacjaoohiaaDoorCode
import Derived.Test.YtahibacjaoohiaaDoorCone
namespace Go.Proofs.YtahibacjaoohiaaDoor
open Go.RowKit

/-- A code in block o, its words in gw, its sorted symbols in gs. -/
structure CodeAt (w : World) (o gw gs N : Nat) (L : Nat → Nat) : Prop where
  few : N ≤ 320
  each : ∀ i, i < N → L i ≤ 15
  ok : okc L N = true
  lw : gw < w.heap.size
  ls : gs < w.heap.size
  words : w.cell? ⟨o, 0, none⟩ = some (.slice (some ⟨gw, 0, none⟩) N N)
  counts : ∀ n, 0 < n → n ≤ 15 → w.cell? ⟨o, 1 + n, none⟩ = some (.int .i64 (cn L N n : Nat))
  sorted : w.cell? ⟨o, 17, none⟩ = some (.slice (some ⟨gs, 0, none⟩) (place (cn L N) 16) (place (cn L N) 16))
  word : ∀ i, i < N → w.cell? ⟨gw, i * 2, none⟩ = some (.int .i64 (codev L N i : Nat)) ∧ w.cell? ⟨gw, i * 2 + 1, none⟩ = some (.int .i64 (L i : Nat))
  sort : ∀ n r, 0 < n → n ≤ 15 → r < cn L N n → w.cell? ⟨gs, place (cn L N) n + r, none⟩ = some (.int .i64 (sym L n r N : Nat))
theorem CodeAt.kept {S : Nat → Prop} {w w' : World} {o gw gs N : Nat} {L : Nat → Nat} (h : CodeAt w o gw gs N L) (k : Kept S w w') (ho : ¬ S o) (hw : ¬ S gw) (hs : ¬ S gs) : CodeAt w' o gw gs N L := by
  have key : ∀ b i v, ¬ S b → w.cell? ⟨b, i, none⟩ = some v → w'.cell? ⟨b, i, none⟩ = some v := fun b i v hb hc => by
    rw [World.cell?_of_block (a := ⟨b, i, none⟩) (k.block b (blk_lt_of_cell hc) hb)]; exact hc
  exact ⟨h.few, h.each, h.ok, Nat.lt_of_lt_of_le h.lw k.size, Nat.lt_of_lt_of_le h.ls k.size, key _ _ _ ho h.words, fun n h0 h1 => key _ _ _ ho (h.counts n h0 h1), key _ _ _ ho h.sorted, fun i hi => ⟨key _ _ _ hw (h.word i hi).1, key _ _ _ hw (h.word i hi).2⟩, fun n r h0 h1 h2 => key _ _ _ hs (h.sort n r h0 h1 h2)⟩
theorem CodeAt.below {w w' : World} {o gw gs N : Nat} {L : Nat → Nat} (h : CodeAt w o gw gs N L) (k : Below w.heap.size w w') : CodeAt w' o gw gs N L :=
  h.kept (S := fun _ => False) (Kept.of_below k (Nat.le_refl _) _) id id id

theorem info118 : (Tryd.prog.info? 127).map (fun i => (i.zero, i.size, i.bytes)) = some (some (.agg #[.int .i64 0, .int .i64 0]), 2, 16) := by kernel_rfl
theorem size118 : (Tryd.prog.info? 127).map (·.size) = some 2 := by kernel_rfl
theorem made_words (n : Nat) : madeCells #[Value.int .i64 0, .int .i64 0] (n * 2) = arr (n * 2) fun _ => .int .i64 0 := by
  unfold madeCells arr
  apply Array.ext
  · simp
  · intro i h1 h2
    simp at h2
    have : i % 2 = 0 ∨ i % 2 = 1 := by omega
    rcases this with h | h <;> simp [h]
theorem make106 (n : Nat) (hn : n ≤ 100000) (W : World) : (Instr.makeSlice 115 (.int .i64 n) (.int .i64 n)).run Tryd.prog W = .ok (.slice (some ⟨W.heap.size, 0, none⟩) n n) (W.alloc (.cells (arr (n * 2) fun _ => .int .i64 0) 127)) := by
  obtain ⟨i, hi, h1, h2, h3⟩ := info_of info118
  have h := run_make (P := Tryd.prog) W 115 127 i (.agg #[.int .i64 0, .int .i64 0]) Tryd.underlying115 hi h1 .i64 .i64 n n (by omega) (by omega) (by rw [h2]; omega) (by omega)
  rw [h, h3, Int.toNat_natCast]
  show Result.ok _ (W.alloc (.cells (madeCells #[.int .i64 0, .int .i64 0] (n * 2)) 127)) = _
  rw [made_words]

/-- Sixteen numbers. -/
def nums (g : Nat → Nat) : Array Value := arr 16 fun s => .int .i64 (g s : Nat)
theorem nums_zero : (#[.int .i64 0, .int .i64 0, .int .i64 0, .int .i64 0, .int .i64 0, .int .i64 0, .int .i64 0, .int .i64 0, .int .i64 0, .int .i64 0, .int .i64 0, .int .i64 0, .int .i64 0, .int .i64 0, .int .i64 0, .int .i64 0] : Array Value) = nums (fun _ => 0) := by
  simp [nums, arr, List.range, List.range.loop]
theorem nums_cell {w : World} {b : Nat} {g : Nat → Nat} {T : TypeId} {fr : Nat × Nat} (h : w.heap[b]? = some (.cells (nums g) T fr)) {t : Nat} (ht : t < 16) : w.cell? ⟨b, t, none⟩ = some (.int .i64 (g t : Nat)) := arr_cell h ht
theorem nums_set {w : World} {b : Nat} {g g' : Nat → Nat} {T : TypeId} {fr : Nat × Nat} (h : w.heap[b]? = some (.cells (nums g) T fr)) (t : Nat) {v : Int} (hv : v = (g' t : Nat)) (ho : ∀ s, s < 16 → s ≠ t → g' s = g s) :
    (w.setCell ⟨b, t, none⟩ (.int .i64 v)).heap[b]? = some (.cells (nums g') T fr) := by
  have h' : w.heap[b]? = some (.cells (arr 16 fun s => .int .i64 (g s : Nat)) T fr) := h
  rw [arr_blk_set h']
  congr 2
  refine arr_congr _ _ _ fun s hs => ?_
  by_cases e : s = t
  · subst e; rw [if_pos rfl, hv]
  · rw [if_neg e, ho s hs e]

theorem first_one (c : Nat → Nat) (h0 : c 0 = 0) : first c 1 = 0 := by simp [first, h0]
theorem place_one (c : Nat → Nat) (h0 : c 0 = 0) : place c 1 = 0 := by simp [place, h0]
theorem place_le (c : Nat → Nat) (h : ∀ n, c n ≤ 320) : ∀ n, place c n ≤ 320 * n
  | 0 => Nat.le_refl _
  | n + 1 => by have := place_le c h n; have := h n; simp only [place]; omega

/-- A code's block: its words, counts, sorted symbols. -/
def cobj (c : Nat → Nat) (ws ss : Value) : Nat → Value := fun s => if s = 0 then ws else if s = 17 then ss else .int .i64 (c (s - 1) : Nat)

theorem two_far {W W1 : World} {b i j : Nat} {u v : Value} (hW : W1 = (W.setCell ⟨b, i, none⟩ u).setCell ⟨b, j, none⟩ v) {x : Nat} {ob : Obj} (h : W.heap[x]? = some ob) (hx : x ≠ b) : W1.heap[x]? = some ob := by
  rw [hW, blk_other _ hx, blk_other _ hx]; exact h
/-- The words of the first i symbols. -/
def wordsv (L : Nat → Nat) (N i : Nat) : Nat → Value := fun t => if t / 2 < i then (if t % 2 = 0 then .int .i64 (codev L N (t / 2) : Nat) else .int .i64 (L (t / 2) : Nat)) else .int .i64 0
theorem wordsv_none (L : Nat → Nat) (N i n : Nat) (h : L i = 0) : arr n (wordsv L N i) = arr n (wordsv L N (i + 1)) := by
  refine arr_congr _ _ _ fun t _ => ?_
  unfold wordsv
  by_cases h1 : t / 2 < i
  · have h3 : t / 2 < i + 1 := by omega
    rw [if_pos h1, if_pos h3]
  · by_cases h2 : t / 2 = i
    · have h3 : t / 2 < i + 1 := by omega
      rw [if_neg h1, if_pos h3, h2]
      unfold codev
      rw [h]
      split <;> rfl
    · rw [if_neg h1, if_neg (by omega)]
theorem wordsv_up (L : Nat → Nat) (N i n : Nat) (v0 v1 : Int) (h0 : v0 = (codev L N i : Nat)) (h1 : v1 = (L i : Nat)) :
    (arr n fun s => if s = i * 2 + 1 then .int .i64 v1 else if s = i * 2 then .int .i64 v0 else wordsv L N i s) = arr n (wordsv L N (i + 1)) := by
  refine arr_congr _ _ _ fun t _ => ?_
  by_cases e1 : t = i * 2 + 1
  · rw [if_pos e1]; unfold wordsv; rw [if_pos (by omega), if_neg (by omega), show t / 2 = i by omega, h1]
  · by_cases e0 : t = i * 2
    · rw [if_neg e1, if_pos e0]; unfold wordsv; rw [if_pos (by omega), if_pos (by omega), show t / 2 = i by omega, h0]
    · rw [if_neg e1, if_neg e0]; unfold wordsv
      by_cases h1 : t / 2 < i
      · have h3 : t / 2 < i + 1 := by omega
        rw [if_pos h1, if_pos h3]
      · have h3 : ¬ t / 2 < i + 1 := by omega
        rw [if_neg h1, if_neg h3]

set_option maxRecDepth 100000 in
set_option maxHeartbeats 3200000 in
theorem assign_any (o : Nat) (a : Option Addr) (len cap : Nat) (f : Nat → Int) (L : Nat → Nat) (hL : ∀ i, i < len → f i = (L i : Nat)) (w : World) (h : Ints w a len cap f) (few : len ≤ 320) (each : ∀ i, i < len → L i ≤ 15) (ok : okc L len = true)
    (ho : w.heap[o]? = some (.cells (arr 18 (cobj0 (cn L len))) 118)) (hao : 0 < len → ∀ b off, a = some ⟨b, off, none⟩ → b < w.heap.size → b ≠ o) :
    Calls Tryd.prog 77 #[.pointer (some ⟨o, 0, none⟩), .slice a len cap] w fun e w' => e = .returned (.tuple #[]) ∧ ∃ gw gs, w.heap.size ≤ gw ∧ w.heap.size ≤ gs ∧ CodeAt w' o gw gs len L ∧ Kept (fun k => k = o) w w' := by
  have hcn : ∀ n, cn L len n ≤ 320 := fun n => Nat.le_trans (cn_le L len n) few
  have c0 : cn L len 0 = 0 := by simp [cn]
  have holt := blk_lt ho
  have hmk := make106 len (by omega)
  obtain ⟨c, hc⟩ : ∃ c : Nat → Nat, Hid (c = cn L len) := ⟨_, rfl⟩
  rw [← hc.out] at ho hcn c0
  have hfit : ∀ n, n ≤ 15 → first c n + c n ≤ 32768 := fun n hn => by
    rw [hc.out]
    have := first_fits each ok hn
    have h2 : 2 ^ n ≤ 2 ^ 15 := Nat.pow_le_pow_right (by omega) hn
    omega
  have hpl := place_le c hcn
  go_enter Tryd.func77, Tryd.ntmps77
  go_wp2_with fail
  rw [nums_zero]
  obtain ⟨W, hW⟩ : ∃ W, W = (w.alloc (.cells (nums fun _ => 0) 116)).alloc (.cells (nums fun _ => 0) 116) := ⟨_, rfl⟩
  rw [← hW]
  have k1 : Kept (fun k => k = o) w W := by rw [hW]; exact ((Kept.refl _ w).alloc _).alloc _
  have b1 : W.heap[w.heap.size]? = some (.cells (nums fun _ => 0) 116) := by rw [hW]; exact blk_alloc (blk_new w _) _
  have b2 : W.heap[w.heap.size + 1]? = some (.cells (nums fun _ => 0) 116) := by rw [hW]; simpa using blk_new (w.alloc (.cells (nums fun _ => 0) 116)) (.cells (nums fun _ => 0) 116)
  have b0 : W.heap[o]? = some (.cells (arr 18 (cobj0 c)) 118) := by rw [hW]; exact blk_alloc (blk_alloc ho _) _
  clear hW
  go_loopw [6] (fun j wq => ∃ n : Nat, 1 ≤ n ∧ n ≤ 15 ∧ j = .int .i64 n ∧ wq.heap[w.heap.size]? = some (.cells (nums fun s => if s ≤ n then first c s else 0) 116) ∧ wq.heap[w.heap.size + 1]? = some (.cells (nums fun s => if s ≤ n then place c s else 0) 116) ∧ wq.heap[o]? = some (.cells (arr 18 (cobj0 c)) 118) ∧ Kept (fun k => k = o) w wq) (fun j _ => 15 - (intOf j).toNat)
  case atStart =>
    refine ⟨1, by omega, by omega, rfl, ?_, ?_, b0, k1⟩
    · rw [b1]; congr 2; refine arr_congr _ _ _ fun s hs => ?_
      have : s = 0 ∨ s = 1 ∨ 1 < s := by omega
      rcases this with rfl | rfl | h
      · rfl
      · simp [first_one c c0]
      · show Value.int .i64 ((0 : Nat) : Int) = .int .i64 ((if s ≤ 1 then first c s else 0 : Nat) : Int)
        rw [if_neg (by omega)]
    · rw [b2]; congr 2; refine arr_congr _ _ _ fun s hs => ?_
      have : s = 0 ∨ s = 1 ∨ 1 < s := by omega
      rcases this with rfl | rfl | h
      · rfl
      · simp [place_one c c0]
      · show Value.int .i64 ((0 : Nat) : Int) = .int .i64 ((if s ≤ 1 then place c s else 0 : Nat) : Int)
        rw [if_neg (by omega)]
  case round =>
    clear b0 b1 b2 k1 W
    obtain ⟨n, h1, h15, rfl, b1, b2, b0, k1⟩ := hrel
    by_cases hn : n < 15
    · have hn' : (n : Int) < 15 := by omega
      have d1 : wr.cell? ⟨w.heap.size, n, none⟩ = some (.int .i64 (first c n : Nat)) := by rw [nums_cell b1 (by omega), if_pos (Nat.le_refl _)]
      have d1' : wr.cell? ⟨w.heap.size, n + 1, none⟩ = some (.int .i64 (0 : Nat)) := by rw [nums_cell b1 (by omega), if_neg (by omega)]
      have d3 : wr.cell? ⟨o, 1 + n, none⟩ = some (.int .i64 (c n : Nat)) := by
        rw [arr_cell b0 (t := 1 + n) (by omega)]; unfold cobj0; rw [if_neg (by omega), show 1 + n - 1 = n by omega]
      have hf := hfit n (by omega)
      have hp := hpl n
      go_wp2_with fail
      have hin := Ext.inh wr
      have x1 := fun k : Ext wr => Ext.cell d1 k
      have x3 := fun k : Ext wr => Ext.cell d3 k
      refine region_ext_cone 14 (by kernel_rfl) (by kernel_rfl) ?_
      simp only [List.take_succ_cons, List.take_zero, List.drop_succ_cons, List.drop_zero]
      repeat (go_big_quiet_step (fail))
      refine wpQuiet_nil ?_
      rintro _ ⟨k, rfl⟩
      have y1 := Ext.cell d1' k
      have y2 := blk_free (Ext.blk b1 k) (n + 1)
      have B1 := Ext.blk b1 k
      have B2 := Ext.blk b2 k
      have B0 := Ext.blk b0 k
      have K1 : Kept (fun k => k = o) w k.w := k1.trans (Kept.of_below k.h (Nat.le_refl _) _)
      obtain ⟨W, hW⟩ : ∃ W, W = k.w := ⟨_, rfl⟩
      rw [← hW] at B1 B2 B0 K1 y1 y2 ⊢
      clear hW x1 x3 hin b1 b2 b0 k1 d1 d3 d1' k
      obtain ⟨W1, hW1⟩ : ∃ W1, W1 = W.setCell ⟨w.heap.size, n + 1, none⟩ (.int .i64 (2 * ((first c n : Nat) + (c n : Nat)))) := ⟨_, rfl⟩
      go_wp2_with fail
      rw [← hW1]
      have e1 : W1.heap[w.heap.size]? = some (.cells (nums fun s => if s ≤ n + 1 then first c s else 0) 116) := by
        rw [hW1]
        refine nums_set B1 (n + 1) ?_ fun s hs hne => ?_
        · rw [if_pos (Nat.le_refl _)]; simp only [first, Int.natCast_mul, Int.natCast_add]; rfl
        · by_cases hsn : s ≤ n
          · rw [if_pos (by omega), if_pos hsn]
          · rw [if_neg (by omega), if_neg hsn]
      have e2 : W1.heap[w.heap.size + 1]? = some (.cells (nums fun s => if s ≤ n then place c s else 0) 116) := by rw [hW1, blk_other _ (by simp)]; exact B2
      have e0 : W1.heap[o]? = some (.cells (arr 18 (cobj0 c)) 118) := by rw [hW1, blk_other _ (by simp; omega)]; exact B0
      have E1 : Kept (fun k => k = o) w W1 := by rw [hW1]; exact K1.setCell (.inr (Nat.le_refl _)) _
      clear hW1 B1 B2 B0 K1 y1 y2
      have d1 : W1.cell? ⟨w.heap.size + 1, n, none⟩ = some (.int .i64 (place c n : Nat)) := by rw [nums_cell e2 (by omega), if_pos (Nat.le_refl _)]
      have d1' : W1.cell? ⟨w.heap.size + 1, n + 1, none⟩ = some (.int .i64 (0 : Nat)) := by rw [nums_cell e2 (by omega), if_neg (by omega)]
      have d3 : W1.cell? ⟨o, 1 + n, none⟩ = some (.int .i64 (c n : Nat)) := by
        rw [arr_cell e0 (t := 1 + n) (by omega)]; unfold cobj0; rw [if_neg (by omega), show 1 + n - 1 = n by omega]
      have hin := Ext.inh W1
      have x1 := fun k : Ext W1 => Ext.cell d1 k
      have x3 := fun k : Ext W1 => Ext.cell d3 k
      refine region_ext_cone 13 (by kernel_rfl) (by kernel_rfl) ?_
      simp only [List.take_succ_cons, List.take_zero, List.drop_succ_cons, List.drop_zero]
      repeat (go_big_quiet_step (fail))
      refine wpQuiet_nil ?_
      rintro _ ⟨k, rfl⟩
      have y1 := Ext.cell d1' k
      have y2 := blk_free (Ext.blk e2 k) (n + 1)
      have B1 := Ext.blk e1 k
      have B2 := Ext.blk e2 k
      have B0 := Ext.blk e0 k
      have K1 : Kept (fun k => k = o) w k.w := E1.trans (Kept.of_below k.h (Nat.le_refl _) _)
      obtain ⟨W2, hW2⟩ : ∃ W2, W2 = k.w := ⟨_, rfl⟩
      rw [← hW2] at B1 B2 B0 K1 y1 y2 ⊢
      clear hW2 x1 x3 hin e1 e2 e0 E1 d1 d3 d1' k
      go_wp2
      refine ⟨⟨n + 1, by omega, by omega, by go_num, ?_, ?_, ?_, ?_⟩, by simp [intOf]; omega⟩
      · rw [blk_other _ (by simp)]; exact B1
      · refine nums_set B2 (n + 1) ?_ fun s hs hne => ?_
        · rw [if_pos (Nat.le_refl _)]; simp only [place, Int.natCast_add]
        · by_cases hsn : s ≤ n
          · rw [if_pos (by omega), if_pos hsn]
          · rw [if_neg (by omega), if_neg hsn]
      · rw [blk_other _ (by simp; omega)]; exact B0
      · exact K1.setCell (.inr (by simp)) _
    · have hn' : ¬ (n : Int) < 15 := by omega
      obtain rfl : n = 15 := by omega
      clear hn
      have hos := k1.size
      have hwn := blk_new wr (.cells (arr (len * 2) fun _ => .int .i64 0) 127)
      have b0' := blk_alloc b0 (.cells (arr (len * 2) fun _ => .int .i64 0) 127)
      have q0 : (wr.alloc (.cells (arr (len * 2) fun _ => .int .i64 0) 127)).cell? ⟨o, 0, none⟩ = some (.slice none 0 0) := arr_cell b0' (t := 0) (by omega)
      have q1 := blk_free b0' 0
      have hne : ¬ o = wr.heap.size := by have := blk_lt b0; omega
      go_wp2_with fail
      obtain ⟨gw, hgw⟩ : ∃ gw, gw = wr.heap.size := ⟨_, rfl⟩
      obtain ⟨W, hW⟩ : ∃ W, W = (wr.alloc (.cells (arr (len * 2) fun _ => .int .i64 0) 127)).setCell ⟨o, 0, none⟩ (.slice (some ⟨gw, 0, none⟩) len len) := ⟨_, rfl⟩
      rw [← hgw] at hne hwn ⊢
      rw [← hW]
      have s1 : W.heap[w.heap.size]? = some (.cells (nums (first c)) 116) := by
        have e : nums (fun s => if s ≤ 15 then first c s else 0) = nums (first c) := arr_congr _ _ _ fun s hs => by
          show Value.int .i64 ((if s ≤ 15 then first c s else 0 : Nat) : Int) = _
          rw [if_pos (by omega)]
        rw [← e, hW, blk_other _ (by show w.heap.size ≠ o; omega)]
        exact blk_alloc b1 _
      have s2 : W.heap[w.heap.size + 1]? = some (.cells (nums (place c)) 116) := by
        have e : nums (fun s => if s ≤ 15 then place c s else 0) = nums (place c) := arr_congr _ _ _ fun s hs => by
          show Value.int .i64 ((if s ≤ 15 then place c s else 0 : Nat) : Int) = _
          rw [if_pos (by omega)]
        rw [← e, hW, blk_other _ (by show w.heap.size + 1 ≠ o; omega)]
        exact blk_alloc b2 _
      have s0 : W.heap[o]? = some (.cells (arr 18 (cobj c (.slice (some ⟨gw, 0, none⟩) len len) (.slice none 0 0))) 118) := by
        have e : (arr 18 fun s => if s = 0 then .slice (some ⟨gw, 0, none⟩) len len else cobj0 c s) = arr 18 (cobj c (.slice (some ⟨gw, 0, none⟩) len len) (.slice none 0 0)) := arr_congr _ _ _ fun s hs => by
          unfold cobj cobj0
          by_cases e0 : s = 0
          · rw [if_pos e0, if_pos e0]
          · by_cases e1 : s = 17
            · rw [if_neg e0, if_neg e0, if_pos e1, if_pos (.inr e1)]
            · rw [if_neg e0, if_neg e0, if_neg e1, if_neg (by omega)]
        rw [← e, hW]
        exact arr_blk_set b0' 0 _
      have s3 : W.heap[gw]? = some (.cells (arr (len * 2) fun _ => .int .i64 0) 127) := by rw [hW, blk_other _ (fun e => hne e.symm)]; exact hwn
      have K : Kept (fun k => k = o) w W := by rw [hW]; exact (k1.alloc _).setCell (.inl rfl) _
      have hgw2 : w.heap.size + 1 < gw := by rw [hgw]; exact blk_lt b2
      clear hW q0 q1 b0' b0 b1 b2 hwn k1 hgw hos
      have hS : place c 15 + c 15 ≤ 6000 := by have := hpl 15; have := hcn 15; omega
      have hmk2 := make29 (place c 15 + c 15) (by omega)
      have z1 := nums_cell s2 (t := 15) (by omega)
      have z2 : W.cell? ⟨o, 16, none⟩ = some (.int .i64 (c 15 : Nat)) := arr_cell s0 (t := 16) (by omega)
      have hwr : IntKind.i64.wrap (((place c 15 : Nat) : Int) + ((c 15 : Nat) : Int)) = ((place c 15 : Nat) : Int) + ((c 15 : Nat) : Int) := by rw [IntKind.wrap_i64]; omega
      have t0 : (W.drew.alloc (.cells (arr (place c 15 + c 15) fun _ => .int .i64 0) 3)).heap[o]? = some (.cells (arr 18 (cobj c (.slice (some ⟨gw, 0, none⟩) len len) (.slice none 0 0))) 118) := blk_alloc s0 _
      have z3 : (W.drew.alloc (.cells (arr (place c 15 + c 15) fun _ => .int .i64 0) 3)).cell? ⟨o, 17, none⟩ = some (.slice none 0 0) := arr_cell t0 (t := 17) (by omega)
      have z4 := blk_free t0 17
      have t0' : (W.alloc (.cells (arr (place c 15 + c 15) fun _ => .int .i64 0) 3)).heap[o]? = some (.cells (arr 18 (cobj c (.slice (some ⟨gw, 0, none⟩) len len) (.slice none 0 0))) 118) := blk_alloc s0 _
      have z3' : (W.alloc (.cells (arr (place c 15 + c 15) fun _ => .int .i64 0) 3)).cell? ⟨o, 17, none⟩ = some (.slice none 0 0) := arr_cell t0' (t := 17) (by omega)
      have z4' := blk_free t0' 17
      have s2' : (W.alloc (.cells (arr (place c 15 + c 15) fun _ => .int .i64 0) 3)).heap[w.heap.size + 1]? = some (.cells (nums (place c)) 116) := blk_alloc s2 _
      have y1 : ((W.alloc (.cells (arr (place c 15 + c 15) fun _ => .int .i64 0) 3)).setCell ⟨o, 17, none⟩ (.slice (some ⟨W.heap.size, 0, none⟩) (place c 15 + c 15) (place c 15 + c 15))).cell? ⟨w.heap.size + 1, 15, none⟩ = some (.int .i64 (place c 15 : Nat)) := by
        rw [World.cell?_setCell_other _ _ _ _ (by simp)]; exact nums_cell s2' (by omega)
      have y2 : ((W.alloc (.cells (arr (place c 15 + c 15) fun _ => .int .i64 0) 3)).setCell ⟨o, 17, none⟩ (.slice (some ⟨W.heap.size, 0, none⟩) (place c 15 + c 15) (place c 15 + c 15))).cell? ⟨o, 16, none⟩ = some (.int .i64 (c 15 : Nat)) := by
        rw [World.cell?_setCell_other _ _ _ _ (by simp)]; exact arr_cell t0' (t := 16) (by omega)
      have hwlt := blk_lt s3
      rw [Int.natCast_add] at hmk2
      go_region_held3 (fun V => V.cell? ⟨w.heap.size + 1, 15, none⟩ = some (.int .i64 (place c 15 : Nat)) ∧ V.cell? ⟨o, 16, none⟩ = some (.int .i64 (c 15 : Nat))) (go_keep) (fail)
      rename_i hHeld
      clear hHeld
      obtain ⟨gs, hgs⟩ : ∃ gs, gs = W.heap.size := ⟨_, rfl⟩
      obtain ⟨V, hV⟩ : ∃ V, V = ((W.alloc (.cells (arr (place c 15 + c 15) fun _ => .int .i64 0) 3)).setCell ⟨o, 17, none⟩ (.slice (some ⟨gs, 0, none⟩) (place c 15 + c 15) (place c 15 + c 15))).drew := ⟨_, rfl⟩
      rw [← hgs, ← hV]
      have hgso : gs ≠ o := by have := blk_lt s0; omega
      have v1 : V.heap[w.heap.size]? = some (.cells (nums (first c)) 116) := by rw [hV, blk_drew, blk_other _ (by show w.heap.size ≠ o; omega)]; exact blk_alloc s1 _
      have v2 : V.heap[w.heap.size + 1]? = some (.cells (nums (place c)) 116) := by rw [hV, blk_drew, blk_other _ (by show w.heap.size + 1 ≠ o; omega)]; exact s2'
      have v3 : V.heap[gw]? = some (.cells (arr (len * 2) fun _ => .int .i64 0) 127) := by rw [hV, blk_drew, blk_other _ (fun e => hne e.symm)]; exact blk_alloc s3 _
      have v4 : V.heap[gs]? = some (.cells (arr (place c 15 + c 15) fun _ => .int .i64 0) 3) := by rw [hV, blk_drew, blk_other _ hgso, hgs]; exact blk_new W _
      have v0 : V.heap[o]? = some (.cells (arr 18 (cobj c (.slice (some ⟨gw, 0, none⟩) len len) (.slice (some ⟨gs, 0, none⟩) (place c 15 + c 15) (place c 15 + c 15)))) 118) := by
        have e : (arr 18 fun s => if s = 17 then .slice (some ⟨gs, 0, none⟩) (place c 15 + c 15) (place c 15 + c 15) else cobj c (.slice (some ⟨gw, 0, none⟩) len len) (.slice none 0 0) s) = arr 18 (cobj c (.slice (some ⟨gw, 0, none⟩) len len) (.slice (some ⟨gs, 0, none⟩) (place c 15 + c 15) (place c 15 + c 15))) := arr_congr _ _ _ fun s hs => by
          unfold cobj
          by_cases e0 : s = 0
          · rw [if_neg (by omega), if_pos e0, if_pos e0]
          · by_cases e1 : s = 17
            · rw [if_pos e1, if_neg e0, if_pos e1]
            · rw [if_neg e1, if_neg e0, if_neg e0, if_neg e1, if_neg e1]
        rw [← e, hV, blk_drew]
        exact arr_blk_set t0' 17 _
      have KV : Kept (fun k => k = o) w V := by rw [hV]; exact ((K.alloc _).setCell (.inl rfl) _).drew
      have hgs2 : gw < gs := by rw [hgs]; exact hwlt
      clear hV hgs hwr hmk hmk2 t0 t0' z1 z2 z3 z3' z4 z4' s0 s1 s2 s2' s3 y1 y2 hwlt K
      clear W
      go_wp2_with fail
      go_loopw [60] (fun j wq => ∃ (i : Nat) (g : Nat → Nat), i ≤ len ∧ j = .int .i64 i ∧ wq.heap[w.heap.size]? = some (.cells (nums fun s => if s = 0 then 0 else first c s + cnt L s i) 116) ∧ wq.heap[w.heap.size + 1]? = some (.cells (nums fun s => if s = 0 then 0 else place c s + cnt L s i) 116) ∧
          wq.heap[gw]? = some (.cells (arr (len * 2) (wordsv L len i)) 127) ∧ wq.heap[gs]? = some (.cells (arr (place c 15 + c 15) fun t => .int .i64 (g t : Nat)) 3) ∧ (∀ k, k < i → 0 < L k → g (place c (L k) + cnt L (L k) k) = k) ∧
          wq.heap[o]? = some (.cells (arr 18 (cobj c (.slice (some ⟨gw, 0, none⟩) len len) (.slice (some ⟨gs, 0, none⟩) (place c 15 + c 15) (place c 15 + c 15)))) 118) ∧ Kept (fun k => k = o) w wq) (fun j _ => len - (intOf j).toNat)
      case atStart =>
        refine ⟨0, fun _ => 0, by omega, rfl, ?_, ?_, v3, v4, fun k hk => by omega, v0, KV⟩
        · have e : nums (fun s => if s = 0 then 0 else first c s + cnt L s 0) = nums (first c) := arr_congr _ _ _ fun s hs => by
            show Value.int .i64 ((if s = 0 then 0 else first c s + cnt L s 0 : Nat) : Int) = _
            by_cases e0 : s = 0
            · subst e0; rfl
            · rw [if_neg e0]; rfl
          rw [e]; exact v1
        · have e : nums (fun s => if s = 0 then 0 else place c s + cnt L s 0) = nums (place c) := arr_congr _ _ _ fun s hs => by
            show Value.int .i64 ((if s = 0 then 0 else place c s + cnt L s 0 : Nat) : Int) = _
            by_cases e0 : s = 0
            · subst e0; rfl
            · rw [if_neg e0]; rfl
          rw [e]; exact v2
      case round =>
        clear v0 v1 v2 v3 v4 KV
        obtain ⟨i, g, hi, rfl, v1, v2, v3, v4, vg, v0, KV⟩ := hrel
        by_cases hil : i < len
        · have hil' : (i : Int) < (len : Int) := by omega
          obtain ⟨b, off, rfl, hb, hcl⟩ := h.spot (by omega)
          have hci : wr.cell? ⟨b, off + i, none⟩ = some (.int .i64 (L i : Nat)) := by
            rw [World.cell?_of_block (a := ⟨b, off + i, none⟩) (KV.block b hb (hao (by omega) b off rfl hb)), hcl i hil, hL i hil]
          by_cases hz : L i = 0
          · rw [hz] at hci
            have hcs : ∀ s, s ≠ 0 → cnt L s (i + 1) = cnt L s i := fun s hs => by simp [cnt, hz, Ne.symm hs]
            have HCS : Hid (∀ s, s ≠ 0 → cnt L s (i + 1) = cnt L s i) := hcs
            have HZ : Hid (L i = 0) := hz
            clear hcs hz
            go_wp2
            refine ⟨⟨i + 1, g, by omega, by go_num, ?_, ?_, ?_, v4, ?_, v0, KV⟩, by simp [intOf]; omega⟩
            · rw [v1]; refine congrArg (fun x => some (Obj.cells x 116 (0, 0))) (arr_congr _ _ _ fun s _ => ?_)
              show Value.int .i64 ((if s = 0 then 0 else first c s + cnt L s i : Nat) : Int) = .int .i64 ((if s = 0 then 0 else first c s + cnt L s (i + 1) : Nat) : Int)
              by_cases e : s = 0
              · rw [if_pos e, if_pos e]
              · rw [if_neg e, if_neg e, HCS.out s e]
            · rw [v2]; refine congrArg (fun x => some (Obj.cells x 116 (0, 0))) (arr_congr _ _ _ fun s _ => ?_)
              show Value.int .i64 ((if s = 0 then 0 else place c s + cnt L s i : Nat) : Int) = .int .i64 ((if s = 0 then 0 else place c s + cnt L s (i + 1) : Nat) : Int)
              by_cases e : s = 0
              · rw [if_pos e, if_pos e]
              · rw [if_neg e, if_neg e, HCS.out s e]
            · rw [v3, wordsv_none L len i _ HZ.out]
            · intro k hk h0
              by_cases e : k = i
              · subst e; have := HZ.out; omega
              · exact vg k (by omega) h0
          · have hz' : (0 : Int) < ((L i : Nat) : Int) := by omega
            have h15 := each i hil
            obtain ⟨n, hn⟩ : ∃ n, Hid (L i = n) := ⟨_, rfl⟩
            rw [hn.out] at hci hz hz' h15
            have hcl := cnt_lt hil hn.out
            rw [← cn_pos (L := L) (N := len) (n := n) (by omega), ← hc.out] at hcl
            have hf := hfit n h15
            have hp := hpl n
            have hci2 := hcn n
            have d0 : wr.cell? ⟨o, 0, none⟩ = some (.slice (some ⟨gw, 0, none⟩) len len) := arr_cell v0 (t := 0) (by omega)
            have d1 : wr.cell? ⟨w.heap.size, n, none⟩ = some (.int .i64 (first c n + cnt L n i : Nat)) := by rw [nums_cell v1 (by omega), if_neg (by omega)]
            go_wp2_with fail
            have hin := Ext.inh wr
            have x0 := fun k : Ext wr => Ext.cell d0 k
            have x1 := fun k : Ext wr => Ext.cell d1 k
            refine region_ext_cone 11 (by kernel_rfl) (by kernel_rfl) ?_
            simp only [List.take_succ_cons, List.take_zero, List.drop_succ_cons, List.drop_zero]
            repeat (go_big_quiet_step (fail))
            refine wpQuiet_nil ?_
            rintro _ ⟨k, rfl⟩
            have A1 := Ext.blk v1 k
            have A2 := Ext.blk v2 k
            have A3 := Ext.blk v3 k
            have A4 := Ext.blk v4 k
            have A0 := Ext.blk v0 k
            have AK : Kept (fun k => k = o) w k.w := KV.trans (Kept.of_below k.h (Nat.le_refl _) _)
            obtain ⟨W, hW⟩ : ∃ W, W = k.w := ⟨_, rfl⟩
            rw [← hW] at A1 A2 A3 A4 A0 AK ⊢
            have q0 := arr_cell A3 (t := i * 2) (by omega)
            have q0' := blk_free A3 (i * 2)
            have q1 := arr_cell A3 (t := i * 2 + 1) (by omega)
            have q1' := blk_free A3 (i * 2 + 1)
            clear hW x0 x1 hin v1 v2 v3 v4 v0 KV d0 d1 hci k
            obtain ⟨W1, hW1'⟩ : ∃ W1, W1 = (W.setCell ⟨gw, i * 2, none⟩ (.int .i64 ((first c n : Nat) + (cnt L n i : Nat)))).setCell ⟨gw, i * 2 + 1, none⟩ (.int .i64 (n : Nat)) := ⟨_, rfl⟩
            go_wp2_with fail
            rw [← hW1']
            have C1 := two_far hW1' A1 (by omega)
            have C2 := two_far hW1' A2 (by omega)
            have C3 : W1.heap[gw]? = some (.cells (arr (len * 2) (wordsv L len (i + 1))) 127) := by
              rw [hW1', arr_blk_set (arr_blk_set A3 (i * 2) _) (i * 2 + 1) _]
              refine congrArg (fun x => some (Obj.cells x 127 (0, 0))) (wordsv_up L len i _ _ _ ?_ ?_)
              · unfold codev; rw [if_neg (by rw [hn.out]; exact hz), hn.out, ← hc.out, Int.natCast_add]
              · rw [hn.out]
            have C4 := two_far hW1' A4 (by omega)
            have C0 := two_far hW1' A0 hne
            have CK : Kept (fun k => k = o) w W1 := by rw [hW1']; exact (AK.setCell (.inr (by show w.heap.size ≤ gw; omega)) _).setCell (.inr (by show w.heap.size ≤ gw; omega)) _
            clear hW1' A1 A2 A3 A4 A0 AK q0 q0' q1 q1'
            have hidx : place c n + cnt L n i < place c 15 + c 15 := by
              rcases Nat.lt_or_ge n 15 with h | h
              · have := place_up c h; omega
              · have : n = 15 := by omega
                subst this; omega
            have d0 : W1.cell? ⟨o, 17, none⟩ = some (.slice (some ⟨gs, 0, none⟩) (place c 15 + c 15) (place c 15 + c 15)) := arr_cell C0 (t := 17) (by omega)
            have d1 : W1.cell? ⟨w.heap.size + 1, n, none⟩ = some (.int .i64 (place c n + cnt L n i : Nat)) := by rw [nums_cell C2 (by omega), if_neg (by omega)]
            have hin := Ext.inh W1
            have x0 := fun k : Ext W1 => Ext.cell d0 k
            have x1 := fun k : Ext W1 => Ext.cell d1 k
            refine region_ext_cone 9 (by kernel_rfl) (by kernel_rfl) ?_
            simp only [List.take_succ_cons, List.take_zero, List.drop_succ_cons, List.drop_zero]
            repeat (go_big_quiet_step (fail))
            refine wpQuiet_nil ?_
            rintro _ ⟨k, rfl⟩
            have A1 := Ext.blk C1 k
            have A2 := Ext.blk C2 k
            have A3 := Ext.blk C3 k
            have A4 := Ext.blk C4 k
            have A0 := Ext.blk C0 k
            have AK : Kept (fun k => k = o) w k.w := CK.trans (Kept.of_below k.h (Nat.le_refl _) _)
            obtain ⟨W, hW⟩ : ∃ W, W = k.w := ⟨_, rfl⟩
            rw [← hW] at A1 A2 A3 A4 A0 AK ⊢
            clear hW x0 x1 hin C1 C2 C3 C4 C0 CK d0 d1 k
            have d4 := arr_cell A4 hidx
            have d4' := blk_free A4 (place c n + cnt L n i)
            have d1 : W.cell? ⟨w.heap.size, n, none⟩ = some (.int .i64 (first c n + cnt L n i : Nat)) := by rw [nums_cell A1 (by omega), if_neg (by omega)]
            have d1' := blk_free A1 n
            have d2 : W.cell? ⟨w.heap.size + 1, n, none⟩ = some (.int .i64 (place c n + cnt L n i : Nat)) := by rw [nums_cell A2 (by omega), if_neg (by omega)]
            have d2' := blk_free A2 n
            have n1 : ¬ w.heap.size = gs := by omega
            have n2 : ¬ w.heap.size + 1 = gs := by omega
            have hc1 : Hid (cnt L n (i + 1) = cnt L n i + 1) := by show cnt L n (i + 1) = cnt L n i + 1; simp [cnt, hn.out]
            have hc2 : Hid (∀ s, s ≠ n → cnt L s (i + 1) = cnt L s i) := fun s hs => by simp [cnt, hn.out, Ne.symm hs]
            go_wp2
            replace hc1 := hc1.out
            replace hc2 := hc2.out
            refine ⟨⟨i + 1, fun t => if t = place c n + cnt L n i then i else g t, by omega, by go_num, ?_, ?_, ?_, ?_, ?_, ?_, ?_⟩, by simp [intOf]; omega⟩
            · rw [blk_other _ (by simp)]
              exact nums_set ((blk_other _ n1).trans A1) n (by rw [if_neg hz, hc1]; omega) fun s _ hs => by rw [hc2 s hs]
            · have A2' := (blk_other (w := W.setCell ⟨gs, place c n + cnt L n i, none⟩ (.int .i64 i)) (a := ⟨w.heap.size, n, none⟩) (.int .i64 ((first c n : Nat) + (cnt L n i : Nat) + 1)) (by simp : w.heap.size + 1 ≠ _)).trans ((blk_other (a := ⟨gs, place c n + cnt L n i, none⟩) (.int .i64 i) n2).trans A2)
              exact nums_set A2' n (by rw [if_neg hz, hc1]; omega) fun s _ hs => by rw [hc2 s hs]
            · rw [blk_other _ (by show gw ≠ w.heap.size + 1; omega), blk_other _ (by show gw ≠ w.heap.size; omega), blk_other _ (by show gw ≠ gs; omega)]; exact A3
            · rw [blk_other _ (by show gs ≠ w.heap.size + 1; omega), blk_other _ (by show gs ≠ w.heap.size; omega), arr_blk_set A4]
              refine congrArg (fun x => some (Obj.cells x 3 (0, 0))) (arr_congr _ _ _ fun s _ => ?_)
              by_cases e : s = place c n + cnt L n i
              · simp only [e, if_true]
              · simp only [e, if_false]
            · intro k hk h0
              by_cases e : k = i
              · subst e; simp only [hn.out, if_true]
              · have hk2 : k < len := by omega
                have hk3 := cnt_lt hk2 (rfl : L k = L k)
                rw [← cn_pos (L := L) (N := len) h0, ← hc.out] at hk3
                have hne2 : ¬ place c (L k) + cnt L (L k) k = place c n + cnt L n i := fun e2 => by
                  obtain ⟨e3, e4⟩ := place_inj hk3 hcl e2
                  rw [e3] at e4
                  exact e (cnt_inj e3 hn.out e4)
                simp only [hne2, if_false]
                exact vg k (by omega) h0
            · rw [blk_other _ (by show o ≠ w.heap.size + 1; omega), blk_other _ (by show o ≠ w.heap.size; omega), blk_other _ (fun e => hgso e.symm)]; exact A0
            · exact ((AK.setCell (.inr (by show w.heap.size ≤ gs; omega)) _).setCell (.inr (Nat.le_refl _)) _).setCell (.inr (by simp)) _
        · have hil' : ¬ (i : Int) < (len : Int) := by omega
          obtain rfl : i = len := by omega
          go_wp2
          go_end0
          refine ⟨rfl, gw, by omega, gs, by omega, ⟨few, each, ok, blk_lt v3, blk_lt v4, arr_cell v0 (t := 0) (by omega), fun n h0 h15 => ?_, ?_, fun k hk => ⟨?_, ?_⟩, fun n r h0 h15 hr => ?_⟩, KV⟩
          · rw [arr_cell v0 (t := 1 + n) (by omega), ← hc.out]; unfold cobj; rw [if_neg (by omega), if_neg (by omega), show 1 + n - 1 = n by omega]
          · rw [← hc.out]; exact arr_cell v0 (t := 17) (by omega)
          · rw [arr_cell v3 (t := k * 2) (by omega)]; unfold wordsv; rw [if_pos (by omega), if_pos (by omega), show k * 2 / 2 = k by omega]
          · rw [arr_cell v3 (t := k * 2 + 1) (by omega)]; unfold wordsv; rw [if_pos (by omega), if_neg (by omega), show (k * 2 + 1) / 2 = k by omega]
          · rw [cn_pos h0] at hr
            obtain ⟨h1, h2, h3⟩ := sym_is hr
            rw [← cn_pos (L := L) (N := i) h0, ← hc.out] at hr
            have hv := vg _ h1 (by rw [h2]; exact h0)
            rw [h2, h3] at hv
            have hidx : place c n + r < place c 15 + c 15 := by
              rcases Nat.lt_or_ge n 15 with h | h
              · have := place_up c h; omega
              · have : n = 15 := by omega
                subst this; omega
            rw [← hc.out, arr_cell v4 hidx, hv]
end Go.Proofs.YtahibacjaoohiaaDoor
