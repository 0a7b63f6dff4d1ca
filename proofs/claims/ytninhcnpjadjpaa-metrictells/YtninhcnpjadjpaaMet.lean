/-
  Chapter 15 as numbers; a font's tables found by their tags, both sides; package metric's Read and the reference's, as contracts.
-/
import Derived.Test.YtninhcnpjadjpaaTbl
import Derived.Test.YtninhcnpjadjpaaRop
import Derived.Test.YtninhcnpjadjpaaPur
namespace Go.Proofs.Ytninhcnpjadjpaa
open Go.RowKit

/-- A table that is found: how long, which bytes. -/
structure Tb where
  l : Nat
  z : Nat → Nat
/-- Where u stands first among the n of s, or n. -/
def fnd (s : Nat → ByteArray) (u : ByteArray) : Nat → Nat
  | 0 => 0
  | n + 1 => if fnd s u n < n then fnd s u n else if s n = u then n else n + 1
theorem fnd_is (s : Nat → ByteArray) (u : ByteArray) : ∀ n, IsF s n u (fnd s u n)
  | 0 => ⟨Nat.le_refl _, fun j h => by simp [fnd] at h, fun h => by simp [fnd] at h⟩
  | n + 1 => by
    have h := fnd_is s u n
    have hle := h.le
    rw [fnd]
    by_cases h1 : fnd s u n < n
    · rw [if_pos h1]; exact ⟨by omega, h.no, fun _ => h.yes h1⟩
    · rw [if_neg h1]
      have e : fnd s u n = n := by omega
      rw [e] at h
      by_cases h2 : s n = u
      · rw [if_pos h2]; exact ⟨by omega, h.no, fun _ => h2⟩
      · rw [if_neg h2]
        exact ⟨Nat.le_refl _, fun j hj => by
          rcases Nat.lt_or_ge j n with h3 | h3
          · exact h.no j h3
          · obtain rfl : j = n := by omega
            exact h2, fun h' => by omega⟩
/-- The table with this tag. -/
def look (z : Nat → Nat) (u : ByteArray) : Option Tb := if fnd (tgv z) u (cntv z) < cntv z then some ⟨szv z (fnd (tgv z) u (cntv z)), fun i => z (atv z (fnd (tgv z) u (cntv z)) + i)⟩ else none
theorem look_at {z : Nat → Nat} {u : ByteArray} {r : Nat} (h : IsF (tgv z) (cntv z) u r) : look z u = if r < cntv z then some ⟨szv z r, fun i => z (atv z r + i)⟩ else none := by
  unfold look; rw [(fnd_is _ _ _).eq h]

/-- What a Table answers: nothing, or this table. -/
def TabR (o : Option Tb) (w : World) (e : Ending) (w' : World) : Prop :=
  Below w.heap.size w w' ∧ ((Hid (o = none) ∧ e = .returned (.tuple #[.slice none 0 0, .bool false])) ∨ ∃ t a c, Hid (o = some t) ∧ e = .returned (.tuple #[.slice a t.l c, .bool true]) ∧ Lies w' a t.l c t.z)
theorem tab_any (p len : Nat) (z : Nat → Nat) (u : ByteArray) (w : World) (h : Fnt w p len (cntv z) z (tgv z) (atv z) (szv z)) (hok : opnv z len = 0) :
    Calls Try.prog 18 #[.pointer (some ⟨p, 0, none⟩), .string u] w (TabR (look z u) w) := by
  have hf := fnd_is (tgv z) u (cntv z)
  by_cases hr : fnd (tgv z) u (cntv z) < cntv z
  · have hfit : atv z (fnd (tgv z) u (cntv z)) + szv z (fnd (tgv z) u (cntv z)) ≤ len := by
      have hE : cntE z len = 0 := by
        by_cases e : cntE z len = 0
        · exact e
        · have := opnv_head e; omega
      obtain ⟨_, _, _, h4⟩ := cntE_ok hE
      rw [hok] at h4
      split at h4
      · omega
      · exact (chkv_ok (fbv_ok.1 h4.symm _ hr)).2
    refine (table_yes p len _ z _ _ _ u _ w h hf hr hfit).mono ?_
    rintro e w' ⟨a, c, rfl, hL, hB⟩
    exact ⟨hB, .inr ⟨⟨szv z (fnd (tgv z) u (cntv z)), fun i => z (atv z (fnd (tgv z) u (cntv z)) + i)⟩, a, c, by show look z u = _; unfold look; rw [if_pos hr], rfl, hL⟩⟩
  · have hn : fnd (tgv z) u (cntv z) = cntv z := by have := hf.le; omega
    rw [hn] at hf
    refine (table_no p len _ z _ _ _ u w h hf).mono ?_
    rintro e w' ⟨rfl, hB⟩
    exact ⟨hB, .inl ⟨by show look z u = _; unfold look; rw [if_neg hr], rfl⟩⟩
/-- The reference's font of the bytes z. -/
structure RFz (w : World) (p : Nat) (z : Nat → Nat) : Prop where
  of : ∃ t, RFnt w p (cntv z) (tgv z) t ∧ ∀ i, i < cntv z → (t i).l = szv z i ∧ (t i).z = fun j => z (atv z i + j)
theorem RFz.below {w w' : World} {p : Nat} {z : Nat → Nat} {B : Nat} (h : RFz w p z) (hb : Below B w w') (hB : w.heap.size ≤ B) : RFz w' p z := by
  obtain ⟨t, h1, h2⟩ := h.of
  exact ⟨t, h1.below hb hB, h2⟩
theorem rtab_any (p : Nat) (z : Nat → Nat) (u : ByteArray) (w : World) (h : RFz w p z) :
    Calls Try.prog 26 #[.pointer (some ⟨p, 0, none⟩), .string u] w (TabR (look z u) w) := by
  obtain ⟨t, h1, h2⟩ := h.of
  have hf := fnd_is (tgv z) u (cntv z)
  refine (rtable_any p _ _ t u _ w h1 hf).mono ?_
  rintro e w' ⟨rfl, rfl⟩
  refine ⟨Below.refl _ _, ?_⟩
  unfold rtabv
  by_cases hr : fnd (tgv z) u (cntv z) < cntv z
  · obtain ⟨e1, e2⟩ := h2 _ hr
    obtain ⟨a, c, a2, c2, hp, hS, hT⟩ := h1.blk
    have hL := hT.each _ hr
    rw [e1, e2] at hL
    rw [if_pos hr, e1]
    exact .inr ⟨⟨szv z (fnd (tgv z) u (cntv z)), fun i => z (atv z (fnd (tgv z) u (cntv z)) + i)⟩, _, _, by show look z u = _; unfold look; rw [if_pos hr], rfl, hL⟩
  · rw [if_neg hr]
    exact .inl ⟨by show look z u = _; unfold look; rw [if_neg hr], rfl⟩

def hdT : ByteArray := { data := #[104, 101, 97, 100] }
def mxT : ByteArray := { data := #[109, 97, 120, 112] }
def lcT : ByteArray := { data := #[108, 111, 99, 97] }
def gfT : ByteArray := { data := #[103, 108, 121, 102] }
/-- Is it there, with so many bytes? -/
def atl (o : Option Tb) (n : Nat) : Nat := match o with
  | none => 6
  | some t => if t.l < n then 3 else 0
def u16o (o : Option Tb) (k : Nat) : Nat := match o with
  | none => 0
  | some t => numv t.z k 2
/-- head's error, its units, whether it is long. -/
def hdE (o : Option Tb) : Nat := if atl o 54 ≠ 0 then atl o 54 else if u16o o 18 < 16 ∨ 16384 < u16o o 18 ∨ 1 < u16o o 50 then 2 else 0
def mxE (o : Option Tb) : Nat := if atl o 6 ≠ 0 then atl o 6 else if u16o o 4 = 0 then 2 else 0
def rdE (H M : Option Tb) : Nat := if hdE H ≠ 0 then hdE H else mxE M
/-- A Metric. -/
structure Mt where
  u : Int
  g : Int
  b : Bool
def zmt : Mt := ⟨0, 0, false⟩
def mcs (m : Mt) : Array Value := #[.int .i64 m.u, .int .i64 m.g, .bool m.b]
def mv (m : Mt) : Value := .agg (mcs m)
def hdM (o : Option Tb) : Mt := if hdE o = 0 then ⟨u16o o 18, 0, decide (u16o o 50 = 1)⟩ else zmt
def rdM (H M : Option Tb) : Mt := if rdE H M = 0 then ⟨u16o H 18, u16o M 4, decide (u16o H 50 = 1)⟩ else zmt

theorem size23 : (Try.prog.info? 23).map (·.size) = some 3 := by kernel_rfl
theorem size45 : (Try.prog.info? 45).map (·.size) = some 3 := by kernel_rfl
theorem store_mt {ops : Array Oper} {rest : List Oper} {o : Oper} {A : Act} {w : World} {Q : Exit → Act → World → Prop} {T : TypeId} (hT : (Try.prog.info? T).map (·.size) = some 3) {G : Nat} {t : TypeId} {old : Array Value} (hg : w.heap[G]? = some (.cells old t (0, 0))) (hold : old.size = 3)
    (x y : Operand) (m : Mt) (hgd : o.guard = none) (ho : o.op = .store T x y) (hx : A.eval x = .pointer (some ⟨G, 0, none⟩)) (hy : A.eval y = mv m)
    (h : wpList Try.prog ops Q rest (A.put o.dst undef) (w.setRow G (mcs m))) : wpList Try.prog ops Q (o :: rest) A w :=
  wpList_store_row hgd T x y ho G _ hx hy t old hg hT hold (by simp [Value.oneCell', mcs]) h
theorem below_row {B : Nat} {a w : World} {g : Nat} (h : Below B a w) (hg : B ≤ g) (c : Array Value) : Below B a (w.setRow g c) :=
  h.trans ⟨rfl, rfl, rfl, by simp, fun k hk => setRow_other _ _ _ _ (by omega)⟩
theorem res_mt23 {fn : Func} {p u : Tmp} (h : fn.results = #[.cell p 23, .tmp u]) (tmps : Array Value) (w : World) (g : Nat) (t : TypeId) (m : Mt) (fr : Nat × Nat) (hp : tmps.getD p undef = .pointer (some ⟨g, 0, none⟩)) (hg : w.heap[g]? = some (.cells (mcs m) t fr)) :
    (results fn tmps).run Try.prog w = .ok (.tuple #[mv m, tmps.getD u undef]) w := by
  rw [results_cell_tmp h, hp]
  simp [asAddr, run_loadVar_row w g t 23 (mcs m) fr _ hg Try.underlying23 rfl (by rw [size23]; rfl), Result.andThen, mv]
theorem res_mt45 {fn : Func} {p u : Tmp} (h : fn.results = #[.cell p 45, .tmp u]) (tmps : Array Value) (w : World) (g : Nat) (t : TypeId) (m : Mt) (fr : Nat × Nat) (hp : tmps.getD p undef = .pointer (some ⟨g, 0, none⟩)) (hg : w.heap[g]? = some (.cells (mcs m) t fr)) :
    (results fn tmps).run Try.prog w = .ok (.tuple #[mv m, tmps.getD u undef]) w := by
  rw [results_cell_tmp h, hp]
  simp [asAddr, run_loadVar_row w g t 45 (mcs m) fr _ hg Try.underlying45 rfl (by rw [size45]; rfl), Result.andThen, mv]
end Go.Proofs.Ytninhcnpjadjpaa
