/-
  Adam7's passes as plain lists; rows of passes that the call owns; rows.side, rows.count.
-/
import Derived.Test.YtciobjjhdeagkaaDoorUnd
import Derived.OwnWalk
import Derived.Deep.MidRow
namespace Go.Proofs.YtciobjjhdeagkaaDoor
open Go.RowKit

structure Pas where
  x : Nat
  y : Nat
  dx : Nat
  dy : Nat
  w : Nat
  h : Nat
def pcs (p : Pas) : List Value := [.int .i64 (p.x : Nat), .int .i64 (p.y : Nat), .int .i64 (p.dx : Nat), .int .i64 (p.dy : Nat), .int .i64 (p.w : Nat), .int .i64 (p.h : Nat)]
def adX (m : Nat) : Nat := [0, 4, 0, 2, 0, 1, 0].getD m 0
def adY (m : Nat) : Nat := [0, 0, 4, 0, 2, 0, 1].getD m 0
def adDX (m : Nat) : Nat := [8, 8, 4, 4, 2, 2, 1].getD m 1
def adDY (m : Nat) : Nat := [8, 8, 8, 4, 4, 2, 2].getD m 1
/-- How many of the places f, f + d, .. lie below s. -/
def cntv (s f d : Nat) : Nat := (s + d - 1 - f) / d
def pasv (w h m : Nat) : Pas := ⟨adX m, adY m, adDX m, adDY m, cntv w (adX m) (adDX m), cntv h (adY m) (adDY m)⟩
/-- What the first m passes are. -/
def passL (w h : Nat) : Nat → List Pas
  | 0 => []
  | m + 1 => passL w h m ++ (if 0 < (pasv w h m).w ∧ 0 < (pasv w h m).h then [pasv w h m] else [])
theorem passL_len (w h : Nat) : ∀ m, (passL w h m).length ≤ m
  | 0 => Nat.le_refl _
  | m + 1 => by
    have := passL_len w h m
    simp only [passL, List.length_append]
    split <;> simp <;> omega
theorem ad_bd (m : Nat) (hm : m < 7) : adX m < adDX m ∧ adY m < adDY m ∧ adDX m ≤ 8 ∧ adDY m ≤ 8 := by
  have : ∀ m : Fin 7, adX m.val < adDX m.val ∧ adY m.val < adDY m.val ∧ adDX m.val ≤ 8 ∧ adDY m.val ≤ 8 := by decide
  exact this ⟨m, hm⟩
theorem cntv_le {s f d : Nat} (hd : 0 < d) : cntv s f d ≤ s + d := by
  unfold cntv; exact Nat.le_trans (Nat.div_le_self _ _) (by omega)

/-- A row of passes that the call owns; e: the type of one. -/
def Rw (w : World) (base : Nat) (e : TypeId) (v : Value) (L : List Pas) : Prop := w.ownsRow base e 6 v L.length (L.flatMap pcs)
theorem pcs_len (p : Pas) : (pcs p).length = 6 := rfl
theorem flat_len : ∀ L : List Pas, (L.flatMap pcs).length = 6 * L.length
  | [] => rfl
  | p :: L => by rw [List.flatMap_cons, List.length_append, flat_len L, pcs_len, List.length_cons]; omega
theorem flat_get : ∀ (L : List Pas) (i : Nat) (p : Pas), L[i]? = some p → ∀ j, j < 6 → (L.flatMap pcs)[6 * i + j]? = (pcs p)[j]?
  | [], i, p, h, j, hj => by simp at h
  | q :: L, 0, p, h, j, hj => by
    simp at h; subst h
    rw [List.flatMap_cons, List.getElem?_append_left (by rw [pcs_len]; omega)]
    simp
  | q :: L, i + 1, p, h, j, hj => by
    simp at h
    rw [List.flatMap_cons, List.getElem?_append_right (by rw [pcs_len]; omega), pcs_len, show 6 * (i + 1) + j - 6 = 6 * i + j by omega]
    exact flat_get L i p h j hj
theorem Rw.form {w : World} {base : Nat} {e : TypeId} {v : Value} {L : List Pas} (h : Rw w base e v L) : ∃ a cap, v = .slice a L.length cap := by
  rcases h.2 with ⟨rfl, h0⟩ | ⟨g, cap, cur, rfl, _⟩
  · exact ⟨none, 0, by rw [h0]⟩
  · exact ⟨_, cap, rfl⟩
theorem Rw.range {w : World} {base : Nat} {e : TypeId} {v : Value} {L : List Pas} (h : Rw w base e v L) {i : Nat} {p : Pas} (hp : L[i]? = some p) : ∃ g cap, v = .slice (some ⟨g, 0, none⟩) L.length cap ∧ L.length ≤ cap ∧ base ≤ g ∧ g < w.heap.size ∧ w.rangeAt g (6 * i) (pcs p) := by
  have hi : i < L.length := (List.getElem?_eq_some_iff.1 hp).1
  rcases h.2 with ⟨_, h0⟩ | ⟨g, cap, cur, rfl, hb, hg, hlc, _⟩
  · omega
  · refine ⟨g, cap, rfl, hlc, hb, blk_lt hg, fun j u hu => ?_⟩
    have hj : j < 6 := by have := (List.getElem?_eq_some_iff.1 hu).1; rwa [pcs_len] at this
    have := World.ownsRow.cellAt h (6 * i + j) (by omega)
    rw [this, flat_get L i p hp j hj]
    exact hu
theorem Rw.below {w w' : World} {base : Nat} {e : TypeId} {v : Value} {L : List Pas} (h : Rw w base e v L) (hb : Below w.heap.size w w') : Rw w' base e v L :=
  World.ownsRow.kept (row := none) h ⟨hb.os, hb.tape, hb.output, hb.size, fun k hk _ => hb.block k hk⟩ (by cases v.ownBlock <;> simp)
theorem Rw.blk {w w' : World} {base : Nat} {e : TypeId} {v : Value} {L : List Pas} (h : Rw w base e v L) (hb : ∀ g, v.ownBlock = some g → w'.heap[g]? = w.heap[g]?) : Rw w' base e v L := by
  refine ⟨h.1, ?_⟩
  rcases h.2 with h' | ⟨g, cap, cur, rfl, h1, h2, h3⟩
  · exact .inl h'
  · exact .inr ⟨g, cap, cur, rfl, h1, (hb g rfl).trans h2, h3⟩
/-- append of one. -/
theorem Rw.append {w : World} {base : Nat} {t e : TypeId} {v : Value} {L : List Pas} {z : Value} (ht : Tryd.prog.underlying t = some (.slice e)) (hi : (Tryd.prog.info? e).map (fun i => (i.zero, i.size, i.bytes)) = some (some z, 6, 48)) (hzs : z.cells.size = 6)
    (h : Rw w base e v L) (hbase : base ≤ w.heap.size) {C : Nat} {p : Pas} (hB : w.heap[C]? = some (.cells (pcs p).toArray e)) (hlen : L.length ≤ 100) :
    ∃ g' cap' w', (Builtin.append_ #[t, t] t #[v, .slice (some ⟨C, 0, none⟩) 1 1]).run Tryd.prog w = .ok (.slice (some ⟨g', 0, none⟩) (L.length + 1) cap') w' ∧ (Rw w' base e (.slice (some ⟨g', 0, none⟩) (L.length + 1) cap') (L ++ [p]) ∧ w.grownBy w' v.ownBlock ∧ (v.ownBlock = some g' ∨ g' = w.heap.size)) := by
  obtain ⟨i, hi', h1, h2, h3⟩ := info_of hi
  obtain ⟨g', cap', w', hr, ho, hg, hat, _⟩ := run_append_lies (P := Tryd.prog) w t t base e i z 6 48 ht hi' h1 h3 h2 hzs (by omega) v L.length _ h ⟨C, 0, none⟩ 1 1 (pcs p) rfl
    (fun j u hj => by
      rw [add_none, Nat.zero_add, blk_cell hB]
      simpa using hj)
    (by intro u hu; simp [pcs] at hu; rcases hu with rfl | rfl | rfl | rfl | rfl | rfl <;> rfl) (by omega) (by unfold maxLen; omega) (by omega) hbase w.heap.size rfl
  refine ⟨g', cap', w', hr, ?_, hg, hat⟩
  unfold Rw
  rw [List.length_append, List.flatMap_append]
  simpa using ho

/-- The builtin append at a plain region's list, where what it does is known. -/
theorem wpList_append_ex {P : Program} {w : World} {ops : Array Oper} {rest : List Oper} {o : Oper} {a : Act} {Q : Exit → Act → World → Prop} (hgd : o.guard = none) (s x : Operand) (t : TypeId)
    (ho : o.op = .call { callee := .builtin .append, args := #[s, x], argTypes := #[t, t] }) {v1 v2 : Value} {R : Nat → Nat → World → Prop} {n : Nat} (hs : a.eval s = v1) (hx : a.eval x = v2)
    (hrun : ∃ g' cap' w', (Builtin.append_ #[t, t] o.type #[v1, v2]).run P w = .ok (.slice (some ⟨g', 0, none⟩) n cap') w' ∧ R g' cap' w')
    (h : ∀ g' cap' w', R g' cap' w' → wpList P ops Q rest (a.put o.dst (.slice (some ⟨g', 0, none⟩) n cap')) w') : wpList P ops Q (o :: rest) a w := by
  obtain ⟨g', cap', w', hr, hR⟩ := hrun
  refine wpList_plain hgd fun K hK => ?_
  unfold Oper.wp execOp
  simp only [ho, resolve, invoke, builtin, Sem.run_bind, Sem.run_pure, Result.andThen_ok, List.map_toArray, List.map_cons, List.map_nil, hs, hx, hr]
  exact hK _ _ (h g' cap' w' hR)

theorem side_any (n : Int) (w : World) : Calls Tryd.prog 17 #[.int .i64 n] w fun e w' => e = .returned (.int .i64 ((max 0 (min n 256)).toNat : Nat)) ∧ w' = w := by
  by_cases h0 : n < 0
  · rw [show ((max 0 (min n 256)).toNat : Nat) = 0 by omega]
    go_enter Tryd.func17, Tryd.ntmps17
    go_wp2
    all_goals go_ret
    all_goals exact ⟨ret_int (by omega), rfl⟩
  · by_cases h1 : n ≤ 256
    · rw [show (((max 0 (min n 256)).toNat : Nat) : Int) = n by omega]
      go_enter Tryd.func17, Tryd.ntmps17
      go_wp2
      all_goals go_ret
      all_goals exact ⟨ret_int (by omega), rfl⟩
    · rw [show ((max 0 (min n 256)).toNat : Nat) = 256 by omega]
      go_enter Tryd.func17, Tryd.ntmps17
      go_wp2
      all_goals go_ret
      all_goals exact ⟨ret_int (by omega), rfl⟩
theorem within_any (n : Int) (w : World) : Calls Tryd.prog 21 #[.int .i64 n, .int .i64 0, .int .i64 256] w fun e w' => e = .returned (.int .i64 ((max 0 (min n 256)).toNat : Nat)) ∧ w' = w := by
  by_cases h0 : n < 0
  · rw [show ((max 0 (min n 256)).toNat : Nat) = 0 by omega]
    go_enter Tryd.func21, Tryd.ntmps21
    go_wp2
    all_goals go_ret
    all_goals exact ⟨ret_int (by omega), rfl⟩
  · by_cases h1 : n ≤ 256
    · rw [show (((max 0 (min n 256)).toNat : Nat) : Int) = n by omega]
      go_enter Tryd.func21, Tryd.ntmps21
      go_wp2
      all_goals go_ret
      all_goals exact ⟨ret_int (by omega), rfl⟩
    · rw [show ((max 0 (min n 256)).toNat : Nat) = 256 by omega]
      go_enter Tryd.func21, Tryd.ntmps21
      go_wp2
      all_goals go_ret
      all_goals exact ⟨ret_int (by omega), rfl⟩
set_option maxRecDepth 100000 in
theorem count_any (s f d : Nat) (hs : s ≤ 256) (hfd : f < d) (hd : d ≤ 8) (w : World) : Calls Tryd.prog 18 #[.int .i64 (s : Nat), .int .i64 (f : Nat), .int .i64 (d : Nat)] w fun e w' => e = .returned (.int .i64 (cntv s f d : Nat)) ∧ w' = w := by
  obtain ⟨X, hX⟩ : ∃ X : Int, (s : Int) - f = X := ⟨_, rfl⟩
  obtain ⟨Y, hY⟩ : ∃ Y : Nat, X + d - 1 = Y := ⟨s + d - 1 - f, by omega⟩
  have hY2 : Hid (s + d - 1 - f = Y) := by show _ = _; omega
  have hd0 : ¬ (d : Int) = 0 := by omega
  have hX1 : -8 ≤ X ∧ X ≤ 256 := by omega
  obtain ⟨Z, hZ⟩ : ∃ Z : Nat, Hid (cntv s f d = Z) := ⟨_, rfl⟩
  have hq : (Y : Int) / d = Z := by rw [← hZ.out]; unfold cntv; rw [hY2.out]; rfl
  have hZ1 : Z ≤ 300 := by rw [← hZ.out]; have := cntv_le (s := s) (f := f) (d := d) (by omega); omega
  rw [hZ.out]
  go_enter Tryd.func18, Tryd.ntmps18
  go_wp2
  go_ret
  exact ⟨ret_int (by first | rfl | (rw [hq]; rfl) | (rw [hq]; exact IntKind.wrap_i64_small Z)), rfl⟩
end Go.Proofs.YtciobjjhdeagkaaDoor
