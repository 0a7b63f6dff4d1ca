/-
  flate's newAlphabet as a contract; structs stored whole into a variable of the call's own.
-/
import Derived.Test.YtahibacjaoohiaaDoorStrm
import Derived.Test.YtahibacjaoohiaaDoorCone
import Derived.Deep.MidRow
import Derived.Laws.ResultCell
namespace Go.Proofs.YtahibacjaoohiaaDoor
open Go.RowKit

theorem size53 : (Tryd.prog.info? 55).map (·.size) = some 3 := by kernel_rfl
theorem size55 : (Tryd.prog.info? 57).map (·.size) = some 6 := by kernel_rfl
/-- Some cells of a row are laid anew. -/
def putA (old : Array Value) : Nat → List Value → Array Value
  | _, [] => old
  | o, c :: cs => putA (old.setIfInBounds o c) (o + 1) cs
theorem setCells_blk {G : Nat} {t : TypeId} : ∀ (cs : List Value) (o : Nat) (w : World) (old : Array Value), w.heap[G]? = some (.cells old t (0, 0)) → (w.setCells G o cs).heap[G]? = some (.cells (putA old o cs) t (0, 0))
  | [], _, _, _, h => h
  | c :: cs, o, _, _, h => setCells_blk cs (o + 1) _ _ (blk_set h o c)
theorem setCells_kept {G : Nat} : ∀ (cs : List Value) (o : Nat) (w : World), Kept (fun k => k = G) w (w.setCells G o cs)
  | [], _, _ => Kept.refl _ _
  | c :: cs, o, w => ((Kept.refl _ w).set o c).trans (setCells_kept cs (o + 1) _)
theorem setCells_size {G : Nat} : ∀ (cs : List Value) (o : Nat) (w : World), (w.setCells G o cs).heap.size = w.heap.size
  | [], _, _ => rfl
  | c :: cs, o, w => by rw [World.setCells, setCells_size cs (o + 1)]; simp
/-- A struct is stored whole into cells of a known block; the world behind it is a letter. -/
theorem store_at {ops : Array Oper} {rest : List Oper} {op : Oper} {A : Act} {w : World} {Q : Exit → Act → World → Prop} {G : Nat} {t : TypeId} {old : Array Value} (hg : w.heap[G]? = some (.cells old t (0, 0)))
    {ty : TypeId} {o : Nat} {cs new : Array Value} {x y : Operand} (hgd : op.guard = none) (hop : op.op = .store ty x y) (hx : A.eval x = .pointer (some ⟨G, o, none⟩)) (hy : A.eval y = .agg cs)
    (hi : (Tryd.prog.info? ty).map (·.size) = some cs.size) (ho : (o + cs.size).ble old.size = true) (h1 : cs.all (·.oneCell') = true) (hnew : putA old o cs.toList = new)
    (h : ∀ W : World, W.heap[G]? = some (.cells new t (0, 0)) → Kept (fun k => k = G) w W → W.heap.size = w.heap.size → wpList Tryd.prog ops Q rest (A.put op.dst undef) W) : wpList Tryd.prog ops Q (op :: rest) A w := by
  have ho' := Nat.le_of_ble_eq_true ho
  refine wpList_store_mid hgd ty x y hop G o cs hx hy (fun j hj => ⟨?_, ?_⟩) hi h1 (h _ ?_ (setCells_kept _ _ _) (setCells_size _ _ _))
  · rw [blk_cell hg, Array.getElem?_eq_getElem (by omega)]; rfl
  · exact blk_free hg _
  · rw [setCells_blk _ _ _ _ hg, hnew]
theorem res_cell2 {fn : Func} {p u : Tmp} {ty : TypeId} (h : fn.results = #[.cell p ty, .tmp u]) (tmps : Array Value) (w : World) (g : Nat) (cs : Array Value) (v : Value)
    (hp : tmps.getD p undef = .pointer (some ⟨g, 0, none⟩)) (hl : (loadVar ty ⟨g, 0, none⟩).run Tryd.prog w = .ok (.agg cs) w) (hu : tmps.getD u undef = v) : (results fn tmps).run Tryd.prog w = .ok (.tuple #[.agg cs, v]) w := by
  rw [results_cell_tmp h, hp, hu]
  simp [asAddr, Result.andThen, hl]
theorem load53 {w : World} {g : Nat} {t : TypeId} {cs : Array Value} {fr : Nat × Nat} (hg : w.heap[g]? = some (.cells cs t fr)) (hs : cs.size = 3) : (loadVar 55 ⟨g, 0, none⟩).run Tryd.prog w = .ok (.agg cs) w :=
  run_loadVar_row w g t 55 cs fr _ hg Tryd.underlying55 rfl (by rw [hs]; exact size53)
theorem load55 {w : World} {g : Nat} {t : TypeId} {cs : Array Value} {fr : Nat × Nat} (hg : w.heap[g]? = some (.cells cs t fr)) (hs : cs.size = 6) : (loadVar 57 ⟨g, 0, none⟩).run Tryd.prog w = .ok (.agg cs) w :=
  run_loadVar_row w g t 57 cs fr _ hg Tryd.underlying57 rfl (by rw [hs]; exact size55)

/-- An alphabet whose code lies in blocks from B0 on. -/
def AlphN (w : World) (B0 : Nat) (q : Option Addr) (m n : Int) (N : Nat) (L : Nat → Nat) : Prop :=
  ∃ o gw gs, q = some ⟨o, 0, none⟩ ∧ m = (some' L N : Nat) ∧ n = (lastsym L N : Nat) ∧ CodeAt w o gw gs N L ∧ B0 ≤ o ∧ B0 ≤ gw ∧ B0 ≤ gs
def bcells (o c l : Nat) : Array Value := #[.pointer (some ⟨o, 0, none⟩), .int .i64 (c : Nat), .int .i64 (l : Nat)]

/-- What newAlphabet answers of these lengths. -/
def NewAlphR (f : Nat → Int) (len : Nat) (w : World) (e : Ending) (w' : World) : Prop :=
  Below w.heap.size w w' ∧ ((Hid (¬ GoodL f len) ∧ e = .returned (.tuple #[.agg #[.pointer none, .int .i64 0, .int .i64 0], .int .i64 2])) ∨
      (Hid (GoodL f len) ∧ ∃ q m n, e = .returned (.tuple #[.agg #[.pointer q, .int .i64 m, .int .i64 n], .int .i64 0]) ∧ AlphN w' w.heap.size q m n len fun i => (f i).toNat))
theorem some_up (L : Nat → Nat) (i : Nat) (h : ¬ L i = 0) : some' L (i + 1) = some' L i + 1 := by simp [some', h]
theorem some_same (L : Nat → Nat) (i : Nat) (h : L i = 0) : some' L (i + 1) = some' L i := by simp [some', h]
theorem last_up (L : Nat → Nat) (i : Nat) (h : ¬ L i = 0) : lastsym L (i + 1) = i := by simp [lastsym, h]
theorem last_same (L : Nat → Nat) (i : Nat) (h : L i = 0) : lastsym L (i + 1) = lastsym L i := by simp [lastsym, h]

set_option maxRecDepth 100000 in
set_option maxHeartbeats 1600000 in
theorem newalph_any (a : Option Addr) (len cap : Nat) (f : Nat → Int) (w : World) (h : Ints w a len cap f) :
    Calls Tryd.prog 69 #[.slice a len cap] w (NewAlphR f len w) := by
  have bw : Below w.heap.size w (w.alloc (.cells #[.pointer none, .int .i64 0, .int .i64 0] 55)) := (Below.refl _ _).alloc (Nat.le_refl _) _
  have hI := h.below bw (Nat.le_refl _)
  have gb := blk_new w (.cells #[.pointer none, .int .i64 0, .int .i64 0] 55)
  go_enter Tryd.func69, Tryd.ntmps69
  go_wp2_with fail
  refine (new_any a len cap f _ hI).mono ?_
  rintro e w1 ⟨b1, ⟨hbad, rfl⟩ | ⟨hgood, o, gw, gs, lo, lgw, lgs, rfl, hC⟩⟩
  · have HB : Hid (¬ GoodL f len) := hbad
    clear hbad
    have g1 := Below.blk b1 gb (blk_lt gb)
    have bb : Below w.heap.size w w1 := bw.trans (b1.mono bw.size)
    go_wp2_with (refine store_at g1 (by rfl) (by rfl) (by rfl) (by rfl) (by exact size53) (by rfl) (by simp [Value.oneCell']) (by rfl) ?_; intro W hG hK hz)
    refine bodyPost_ret (res_cell2 rfl _ _ _ _ _ rfl (load53 hG rfl) rfl) rfl ?_
    exact ⟨Below.kept bb hK (Nat.le_refl _) (fun k hk => by omega), .inl ⟨HB, rfl⟩⟩
  · have HG : Hid (GoodL f len) := hgood
    have hfew := hgood.few
    have heach := hgood.each
    clear hgood
    obtain ⟨L, hL⟩ : ∃ L : Nat → Nat, Hid (L = fun i => (f i).toNat) := ⟨_, rfl⟩
    rw [← hL.out] at hC
    have bb : Below w.heap.size w w1 := bw.trans (b1.mono bw.size)
    have gr := Below.blk b1 gb (blk_lt gb)
    have hlt := blk_lt gr
    have hI1 := h.below bb (Nat.le_refl _)
    have ga := blk_new w1 (.cells (bcells o (some' L 0) (lastsym L 0)) 55)
    have hx0 : (Obj.cells #[.pointer (some ⟨o, 0, none⟩), .int .i64 0, .int .i64 0] 55) = Obj.cells (bcells o (some' L 0) (lastsym L 0)) 55 := by simp [bcells, some', lastsym]
    have kb : Below w1.heap.size w1 (w1.alloc (.cells (bcells o (some' L 0) (lastsym L 0)) 55)) := (Below.refl _ _).alloc (Nat.le_refl _) _
    have HI : Hid (Ints w1 a len cap f) := hI1
    have HW : Hid (Below w.heap.size w w1) := bb
    have HX : Hid ((Obj.cells #[.pointer (some ⟨o, 0, none⟩), .int .i64 0, .int .i64 0] 55) = Obj.cells (bcells o (some' L 0) (lastsym L 0)) 55) := hx0
    clear hI hI1 h gb bw b1 bb hx0
    go_wp2_with fail
    rw [HX.out]
    obtain ⟨W, hW⟩ : ∃ W, W = w1.alloc (.cells (bcells o (some' L 0) (lastsym L 0)) 55) := ⟨_, rfl⟩
    rw [← hW] at ga kb ⊢
    clear hW
    go_loopw [22] (fun j wq => ∃ i : Nat, i ≤ len ∧ j = .int .i64 i ∧ wq.heap[w1.heap.size]? = some (.cells (bcells o (some' L i) (lastsym L i)) 55) ∧ Below w1.heap.size w1 wq) (fun j _ => len - (intOf j).toNat)
    case atStart => exact ⟨0, by omega, rfl, ga, kb⟩
    case round =>
      clear ga kb W
      obtain ⟨i, hi, rfl, ga, kb⟩ := hrel
      have hsl := some_le L i
      have f1 := blk_free ga 1
      have f2 := blk_free ga 2
      have d1 : wr.cell? ⟨w1.heap.size, 1, none⟩ = some (.int .i64 (some' L i : Nat)) := blk_cell ga 1
      by_cases hil : i < len
      · have hil' : (i : Int) < (len : Int) := by omega
        obtain ⟨b, off, rfl, hb, hc⟩ := HI.out.spot (by omega)
        have hci : wr.cell? ⟨b, off + i, none⟩ = some (.int .i64 (f i)) := by
          rw [World.cell?_of_block (a := ⟨b, off + i, none⟩) (kb.block b hb)]; exact hc i hil
        have he := heach i hil
        have hLi : L i = (f i).toNat := by rw [hL.out]
        have HLI : Hid (L i = (f i).toNat) := hLi
        clear hLi hc
        by_cases g1 : 0 < f i
        · have hne : ¬ L i = 0 := by have := HLI.out; omega
          have HN : Hid (¬ L i = 0) := hne
          have q1 := blk_set ga 1 (.int .i64 ((some' L i : Nat) + 1))
          have fq := blk_free q1 2
          have dq : (wr.setCell ⟨w1.heap.size, 1, none⟩ (.int .i64 ((some' L i : Nat) + 1))).cell? ⟨w1.heap.size, 2, none⟩ = some (.int .i64 (lastsym L i : Nat)) := blk_cell q1 2
          clear hne
          go_wp2
          refine ⟨⟨i + 1, by omega, by go_num, ?_, ?_⟩, by simp [intOf]; omega⟩
          · rw [blk_set q1 2, some_up L i HN.out, last_up L i HN.out]
            simp [bcells]
          · exact (kb.setCell (by simp) _).setCell (by simp) _
        · have hne : L i = 0 := by have := HLI.out; omega
          have HN : Hid (L i = 0) := hne
          clear hne
          go_wp2
          refine ⟨⟨i + 1, by omega, by go_num, ?_, kb⟩, by simp [intOf]; omega⟩
          rw [some_same L i HN.out, last_same L i HN.out]; exact ga
      · have hil' : ¬ (i : Int) < (len : Int) := by omega
        obtain rfl : i = len := by omega
        have g2 := Below.blk kb gr hlt
        have d0 : wr.cell? ⟨w1.heap.size, 0, none⟩ = some (.pointer (some ⟨o, 0, none⟩)) := blk_cell ga 0
        have d2 : wr.cell? ⟨w1.heap.size, 2, none⟩ = some (.int .i64 (lastsym L i : Nat)) := blk_cell ga 2
        go_wp2_with (refine store_at g2 (by rfl) (by rfl) (by rfl) (by rfl) (by exact size53) (by rfl) (by simp [Value.oneCell']) (by rfl) ?_; intro W hG hK hz)
        refine bodyPost_ret (res_cell2 rfl _ _ _ _ _ rfl (load53 hG rfl) rfl) rfl ?_
        have B2 : Below w.heap.size w wr := HW.out.trans (kb.mono HW.out.size)
        have n1 : ¬ (o = w.heap.size) := by simp at lo; omega
        have n2 : ¬ (gw = w.heap.size) := by simp at lgw; omega
        have n3 : ¬ (gs = w.heap.size) := by simp at lgs; omega
        refine ⟨Below.kept B2 hK (Nat.le_refl _) (fun k hk => by omega), .inr ⟨HG, _, _, _, rfl, o, gw, gs, rfl, ?_, ?_, ?_, by simp at lo; omega, by simp at lgw; omega, by simp at lgs; omega⟩⟩
        · rw [← hL.out]
        · rw [← hL.out]
        · rw [← hL.out]
          exact (hC.kept (Kept.of_below kb (Nat.le_refl _) (fun k => k = w.heap.size)) n1 n2 n3).kept hK n1 n2 n3
end Go.Proofs.YtahibacjaoohiaaDoor
