
/-
  Bits that are laid down one behind the other, as numbers; rows that may be nil still. No Go text is walked here.
-/
import Derived.Test.YtahibacjaoohiaaDoorKraft
namespace Go.Proofs.YtahibacjaoohiaaDoor
open Go.RowKit

/-- The bytes of a list. -/
def zb (bs : List Int) (q : Nat) : Nat := (bs.getD q 0).toNat
/-- at bits are laid. -/
structure InvB (bs : List Int) (at' : Nat) : Prop where
  len : bs.length = (at' + 7) / 8
  byte : ∀ q, 0 ≤ bs.getD q 0 ∧ bs.getD q 0 < 256
  top : at' % 8 ≠ 0 → zb bs (at' / 8) < 2 ^ (at' % 8)
/-- The byte for the next bit is there. -/
structure MidB (bs : List Int) (at' : Nat) : Prop where
  len : bs.length = at' / 8 + 1
  byte : ∀ q, 0 ≤ bs.getD q 0 ∧ bs.getD q 0 < 256
  top : zb bs (at' / 8) < 2 ^ (at' % 8)
theorem getD_app (bs : List Int) (q : Nat) : (bs ++ [0]).getD q 0 = bs.getD q 0 := by
  rw [List.getD_eq_getElem?_getD, List.getD_eq_getElem?_getD]
  by_cases h : q < bs.length
  · rw [List.getElem?_append_left h]
  · rw [List.getElem?_append_right (by omega), List.getElem?_eq_none (by omega : bs.length ≤ q)]
    by_cases e : q - bs.length = 0
    · simp [e]
    · rw [List.getElem?_eq_none (by simp; omega)]
theorem bit_congr {x y : Nat → Nat} {p : Nat} (h : x (p / 8) = y (p / 8)) : bit x p = bit y p := by unfold bit; rw [h]
theorem InvB.grow {bs : List Int} {at' : Nat} (h : InvB bs at') (h8 : at' % 8 = 0) : MidB (bs ++ [0]) at' ∧ ∀ p, bit (zb (bs ++ [0])) p = bit (zb bs) p := by
  have hl := h.len
  refine ⟨⟨by simp; omega, fun q => by rw [getD_app]; exact h.byte q, ?_⟩, fun p => bit_congr (by unfold zb; rw [getD_app])⟩
  unfold zb
  rw [getD_app, List.getD_eq_getElem?_getD, List.getElem?_eq_none (by omega)]
  simp [h8]
theorem InvB.stay {bs : List Int} {at' : Nat} (h : InvB bs at') (h8 : at' % 8 ≠ 0) : MidB bs at' := ⟨by have := h.len; omega, h.byte, h.top h8⟩
theorem MidB.zero {bs : List Int} {at' : Nat} (h : MidB bs at') : InvB bs (at' + 1) ∧ bit (zb bs) at' = 0 := by
  have ht := h.top
  refine ⟨⟨by have := h.len; omega, h.byte, fun h8 => ?_⟩, ?_⟩
  · rw [show (at' + 1) / 8 = at' / 8 by omega, show (at' + 1) % 8 = at' % 8 + 1 by omega, Nat.pow_succ]; omega
  · unfold bit; rw [Nat.div_eq_of_lt ht]
theorem set_getD (bs : List Int) (k q : Nat) (v : Int) (hk : k < bs.length) : (bs.set k v).getD q 0 = if q = k then v else bs.getD q 0 := by
  rw [List.getD_eq_getElem?_getD, List.getElem?_set]
  by_cases e : q = k
  · subst e; simp [hk]
  · have : ¬ k = q := fun h => e h.symm
    simp [e, this]
theorem pow_le_8 {r : Nat} (h : r < 8) : 2 ^ r ≤ 128 := by
  have : 2 ^ r ≤ 2 ^ 7 := Nat.pow_le_pow_right (by omega) (by omega)
  omega
theorem add_bit (x r j : Nat) (hj : j < r) : (x + 2 ^ r) / 2 ^ j % 2 = x / 2 ^ j % 2 := by
  have e : 2 ^ r = 2 ^ j * (2 * 2 ^ (r - j - 1)) := by
    rw [← Nat.pow_succ', ← Nat.pow_add]; congr 1; omega
  rw [e, Nat.add_mul_div_left _ _ (Nat.two_pow_pos j)]
  omega
theorem MidB.one {bs : List Int} {at' : Nat} (h : MidB bs at') {v : Int} (hv : v = ((zb bs (at' / 8) + 2 ^ (at' % 8) : Nat) : Int)) : InvB (bs.set (at' / 8) v) (at' + 1) ∧ bit (zb (bs.set (at' / 8) v)) at' = 1 ∧ ∀ p, p < at' → bit (zb (bs.set (at' / 8) v)) p = bit (zb bs) p := by
  have ht := h.top
  have hl := h.len
  have hk : at' / 8 < bs.length := by omega
  have hz : ∀ q, zb (bs.set (at' / 8) v) q = if q = at' / 8 then zb bs (at' / 8) + 2 ^ (at' % 8) else zb bs q := by
    intro q
    unfold zb
    rw [set_getD bs _ _ _ hk]
    split
    · rw [hv]; rfl
    · rfl
  have hp := pow_le_8 (r := at' % 8) (Nat.mod_lt _ (by omega))
  refine ⟨⟨by simp; omega, fun q => ?_, fun h8 => ?_⟩, ?_, fun p hp' => ?_⟩
  · rw [set_getD bs _ _ _ hk]
    split
    · rw [hv]; omega
    · exact h.byte q
  · rw [hz, if_pos (by omega), show (at' + 1) % 8 = at' % 8 + 1 by omega, Nat.pow_succ]; omega
  · unfold bit
    rw [hz, if_pos rfl]
    have := Nat.two_pow_pos (at' % 8)
    rw [Nat.add_div_right _ this, Nat.div_eq_of_lt ht]
  · unfold bit
    rw [hz]
    split
    · rename_i e
      rw [e, add_bit _ _ _ (by omega)]
    · rfl

/-- A symbol's code lies at p. -/
def Seg (L : Nat → Nat) (N : Nat) (z : Nat → Nat) (p s : Nat) : Prop := ∀ k, k < L s → bit z (p + k) = codev L N s / 2 ^ (L s - 1 - k) % 2
/-- Where the t-th of these symbols begins. -/
def pos (L : Nat → Nat) (ws : List Int) : Nat → Nat
  | 0 => 0
  | t + 1 => pos L ws t + L (ws.getD t 0).toNat
theorem pos_app (L : Nat → Nat) (ws : List Int) (x : Int) : ∀ t, t ≤ ws.length → pos L (ws ++ [x]) t = pos L ws t
  | 0, _ => rfl
  | t + 1, h => by
    simp only [pos, pos_app L ws x t (by omega)]
    congr 2
    rw [List.getD_eq_getElem?_getD, List.getD_eq_getElem?_getD, List.getElem?_append_left (by omega)]
theorem pos_le (L : Nat → Nat) (ws : List Int) {t : Nat} : ∀ {T : Nat}, t ≤ T → pos L ws t ≤ pos L ws T
  | 0, h => by have : t = 0 := by omega
               subst this; exact Nat.le_refl _
  | T + 1, h => by
    rcases Nat.lt_or_ge t (T + 1) with h' | h'
    · have := pos_le L ws (t := t) (T := T) (by omega); simp only [pos]; omega
    · have : t = T + 1 := by omega
      subst this; exact Nat.le_refl _
/-- These symbols' codes lie one behind the other. -/
structure LaidB (L : Nat → Nat) (N : Nat) (z : Nat → Nat) (ws : List Int) (at' : Nat) : Prop where
  fin : pos L ws ws.length = at'
  each : ∀ t, t < ws.length → 0 ≤ ws.getD t 0 ∧ ws.getD t 0 < N ∧ 0 < L (ws.getD t 0).toNat ∧ Seg L N z (pos L ws t) (ws.getD t 0).toNat
theorem LaidB.more {L : Nat → Nat} {N : Nat} {z z' : Nat → Nat} {ws : List Int} {at' s : Nat} (h : LaidB L N z ws at') (hs : s < N) (h0 : 0 < L s) (hz : ∀ p, p < at' → bit z' p = bit z p) (hseg : Seg L N z' at' s) : LaidB L N z' (ws ++ [(s : Int)]) (at' + L s) := by
  have hlast : (ws ++ [(s : Int)]).getD ws.length 0 = s := by
    rw [List.getD_eq_getElem?_getD, List.getElem?_append_right (Nat.le_refl _)]; simp
  refine ⟨?_, fun t ht => ?_⟩
  · rw [List.length_append]
    show pos L (ws ++ [(s : Int)]) ws.length + L ((ws ++ [(s : Int)]).getD ws.length 0).toNat = _
    rw [pos_app L ws _ _ (Nat.le_refl _), hlast, h.fin]; rfl
  · simp at ht
    by_cases e : t = ws.length
    · subst e
      rw [hlast, pos_app L ws _ _ (Nat.le_refl _), h.fin]
      exact ⟨by omega, by omega, h0, hseg⟩
    · have ht' : t < ws.length := by omega
      have e1 : (ws ++ [(s : Int)]).getD t 0 = ws.getD t 0 := by
        rw [List.getD_eq_getElem?_getD, List.getD_eq_getElem?_getD, List.getElem?_append_left ht']
      rw [e1, pos_app L ws _ _ (by omega)]
      obtain ⟨h1, h2, h3, h4⟩ := h.each t ht'
      refine ⟨h1, h2, h3, fun k hk => ?_⟩
      have := pos_le L ws (t := t + 1) (T := ws.length) (by omega)
      simp only [pos] at this
      rw [h.fin] at this
      rw [hz _ (by omega)]
      exact h4 k hk
theorem code_bits {L : Nat → Nat} {N s : Nat} (hs : s < N) (each : ∀ i, i < N → L i ≤ 15) (ok : okc L N = true) : codev L N s < 2 ^ L s := by
  by_cases h0 : L s = 0
  · simp [codev, h0]
  · have := code_lt hs (show 0 < L s by omega)
    have := first_fits each ok (each s hs)
    omega
theorem LaidB.read {L : Nat → Nat} {N : Nat} {z : Nat → Nat} {ws : List Int} {at' lim t : Nat} (h : LaidB L N z ws at') (each : ∀ i, i < N → L i ≤ 15) (ok : okc L N = true) (hlim : at' ≤ lim) (ht : t < ws.length) :
    rdv L N (bit z) lim (pos L ws t) = ((ws.getD t 0).toNat, true, pos L ws (t + 1)) := by
  obtain ⟨h1, h2, h3, h4⟩ := h.each t ht
  have hlt : (ws.getD t 0).toNat < N := by omega
  have hp := pos_le L ws (t := t + 1) (T := ws.length) (by omega)
  rw [h.fin] at hp
  have hp2 : pos L ws t + L (ws.getD t 0).toNat ≤ lim := by simp only [pos] at hp; omega
  exact rdv_back hlt h3 hp2 (each _ hlt) h4 (code_bits hlt each ok)

/-- A row that may be nil still. -/
def OwnV (w : World) (base : Nat) (e : TypeId) (k : IntKind) (v : Value) (xs : List Int) : Prop := w.ownsRow base e 1 v xs.length (xs.map fun x => .int k x)
theorem ownv_nil (w : World) (base : Nat) (e : TypeId) (k : IntKind) : OwnV w base e k (.slice none 0 0) [] := World.ownsRow_nil w base e 1
theorem OwnV.own {w : World} {base : Nat} {e : TypeId} {k : IntKind} {v : Value} {xs : List Int} (h : OwnV w base e k v xs) (h0 : 0 < xs.length) : ∃ g cap, v = .slice (some ⟨g, 0, none⟩) xs.length cap ∧ Own w base e k g cap xs := by
  obtain ⟨g, cap, hv, _, _⟩ := World.ownsRow.form h h0
  subst hv
  exact ⟨g, cap, rfl, h⟩
theorem OwnV.form {w : World} {base : Nat} {e : TypeId} {k : IntKind} {v : Value} {xs : List Int} (h : OwnV w base e k v xs) : ∃ a cap, v = .slice a xs.length cap := by
  rcases h.2 with ⟨hv, h0⟩ | ⟨g, cap, cur, hv, _⟩
  · rw [h0]; exact ⟨none, 0, hv⟩
  · exact ⟨_, _, hv⟩
theorem OwnV.alloc {w : World} {base : Nat} {e : TypeId} {k : IntKind} {v : Value} {xs : List Int} (h : OwnV w base e k v xs) (o : Obj) : OwnV (w.alloc o) base e k v xs := World.ownsRow.alloc h o
theorem OwnV.far {w w' : World} {base : Nat} {e : TypeId} {k : IntKind} {v : Value} {xs : List Int} {row : Option Nat} (h : OwnV w base e k v xs) (hg : w.grownBy w' row) (hne : v.ownBlock = none ∨ v.ownBlock ≠ row) : OwnV w' base e k v xs := World.ownsRow.kept h hg hne
theorem OwnV.below {w w' : World} {base : Nat} {e : TypeId} {k : IntKind} {v : Value} {xs : List Int} (h : OwnV w base e k v xs) (hb : Below w.heap.size w w') : OwnV w' base e k v xs :=
  World.ownsRow.kept (row := none) h ⟨hb.os, hb.tape, hb.output, hb.size, fun k hk _ => hb.block k hk⟩ (by cases v.ownBlock <;> simp)
/-- Rows of unlike elements are not the same. -/
theorem OwnV.apart {w : World} {base : Nat} {e e' : TypeId} {k k' : IntKind} {v v' : Value} {xs ys : List Int} (h : OwnV w base e k v xs) (h' : OwnV w base e' k' v' ys) (hne : e ≠ e') : v.ownBlock = none ∨ v.ownBlock ≠ v'.ownBlock := by
  rcases h.2 with ⟨hv, _⟩ | ⟨g, cap, cur, hv, _, hg, _⟩
  · left; rw [hv]; rfl
  · rcases h'.2 with ⟨hv', _⟩ | ⟨g', cap', cur', hv', _, hg', _⟩
    · right; rw [hv, hv']; simp [Value.ownBlock]
    · right
      rw [hv, hv']
      simp only [Value.ownBlock, ne_eq, Option.some.injEq]
      intro e1
      subst e1
      rw [hg] at hg'
      simp at hg'
      exact hne hg'.2
/-- One number more. -/
theorem OwnV.append {w : World} {base : Nat} {t e : TypeId} {k : IntKind} {v : Value} {xs : List Int} {z : Value} {bytes : Nat} (ht : Tryd.prog.underlying t = some (.slice e)) (hi : (Tryd.prog.info? e).map (fun i => (i.zero, i.size, i.bytes)) = some (some z, 1, bytes)) (hzs : z.cells.size = 1) (hby : bytes ≤ 8)
    (h : OwnV w base e k v xs) (hbase : base ≤ w.heap.size) {B : Nat} {x : Int} (hB : w.heap[B]? = some (.cells #[.int k x] e)) (hlen : xs.length ≤ 10000) (ty : TypeId) :
    ∃ g' cap' w', (Builtin.append_ #[t, t] ty #[v, .slice (some ⟨B, 0, none⟩) 1 1]).run Tryd.prog w = .ok (.slice (some ⟨g', 0, none⟩) (xs.length + 1) cap') w' ∧ (Own w' base e k g' cap' (xs ++ [x]) ∧ w.grownBy w' v.ownBlock) := by
  obtain ⟨i, hi', h1, h2, h3⟩ := info_of hi
  obtain ⟨g', cap', w', hr, ho, hg, _, _⟩ := run_append_lies (P := Tryd.prog) w t ty base e i z 1 bytes ht hi' h1 h3 h2 hzs (by omega) v xs.length _ h ⟨B, 0, none⟩ 1 1 [.int k x] rfl
    (fun j u hj => by
      have := World.news_of_block hB j u (by simpa using hj)
      exact this)
    (by intro u hu; simp at hu; subst hu; rfl) (by omega) (by unfold maxLen; omega) (by
      have : (xs.length + 1) * bytes ≤ 10001 * 8 := Nat.mul_le_mul (by omega) hby
      omega) hbase w.heap.size rfl
  refine ⟨g', cap', w', hr, ?_, hg⟩
  unfold Own; rw [List.length_append, List.map_append]; exact ho
theorem OwnV.lies {w : World} {base : Nat} {v : Value} {bs : List Int} (h : OwnV w base 5 .u8 v bs) (hb : ∀ q, 0 ≤ bs.getD q 0 ∧ bs.getD q 0 < 256) (hl : bs.length ≤ 10000) : ∃ a cap, v = .slice a bs.length cap ∧ Lies w a bs.length cap (zb bs) := by
  have hbz : ∀ q, zb bs q < 256 := fun q => by have := hb q; unfold zb; omega
  by_cases h0 : 0 < bs.length
  · obtain ⟨g, cap, rfl, ho⟩ := h.own h0
    refine ⟨_, cap, rfl, ho.lc.1, by omega, hbz, fun _ => ⟨g, 0, rfl, ho.lt.2, fun i hi => ?_⟩⟩
    rw [Nat.zero_add, ho.cell hi]
    have := hb i
    unfold zb
    congr 2
    omega
  · have e : bs = [] := List.length_eq_zero_iff.1 (by omega)
    subst e
    obtain ⟨a, cap, rfl⟩ := h.form
    refine ⟨a, cap, rfl, Nat.zero_le _, by simp, hbz, fun h => by simp at h⟩
theorem OwnV.append22 {w : World} {base : Nat} {v : Value} {xs : List Int} (h : OwnV w base 5 .u8 v xs) (hbase : base ≤ w.heap.size) {B : Nat} {x : Int} (hB : w.heap[B]? = some (.cells #[.int .u8 x] 5)) (hlen : xs.length ≤ 10000) :
    ∃ g' cap' w', (Builtin.append_ #[23, 23] 23 #[v, .slice (some ⟨B, 0, none⟩) 1 1]).run Tryd.prog w = .ok (.slice (some ⟨g', 0, none⟩) (xs.length + 1) cap') w' ∧ (Own w' base 5 .u8 g' cap' (xs ++ [x]) ∧ w.grownBy w' v.ownBlock) :=
  OwnV.append Tryd.underlying23 info5 rfl (by omega) h hbase hB hlen 23
theorem OwnV.append29 {w : World} {base : Nat} {v : Value} {xs : List Int} (h : OwnV w base 3 .i64 v xs) (hbase : base ≤ w.heap.size) {B : Nat} {x : Int} (hB : w.heap[B]? = some (.cells #[.int .i64 x] 3)) (hlen : xs.length ≤ 10000) :
    ∃ g' cap' w', (Builtin.append_ #[24, 24] 24 #[v, .slice (some ⟨B, 0, none⟩) 1 1]).run Tryd.prog w = .ok (.slice (some ⟨g', 0, none⟩) (xs.length + 1) cap') w' ∧ (Own w' base 3 .i64 g' cap' (xs ++ [x]) ∧ w.grownBy w' v.ownBlock) :=
  OwnV.append Tryd.underlying24 info3 rfl (by omega) h hbase hB hlen 24
theorem OwnV.grown {w w' : World} {base B : Nat} {e : TypeId} {k : IntKind} {v : Value} {xs : List Int} {w0 : World} (h : OwnV w base e k v xs) (hb : Below B w0 w) (hg : w.grownBy w' v.ownBlock) (hB : B ≤ w0.heap.size) (hbase : B ≤ base) : Below B w0 w' :=
  hb.grown hg (Nat.le_trans hB hb.size) (fun j hj => Nat.le_trans hbase (World.ownsRow.lt h j hj).1)
theorem own_v {w : World} {base : Nat} {e : TypeId} {k : IntKind} {g cap n : Nat} {xs : List Int} (h : Own w base e k g cap xs) (hn : n = xs.length) : OwnV w base e k (.slice (some ⟨g, 0, none⟩) n cap) xs := by subst hn; exact h
theorem own_apart {w : World} {base : Nat} {e e' : TypeId} {k k' : IntKind} {g cap g' cap' : Nat} {xs ys : List Int} (h : Own w base e k g cap xs) (h' : Own w base e' k' g' cap' ys) (hne : e ≠ e') : g ≠ g' := by
  have := OwnV.apart (own_v h rfl) (own_v h' rfl) hne
  simpa [Value.ownBlock] using this
theorem lay_zero {L : Nat → Nat} {N s at' d A kk : Nat} {bs bs1 bs2 : List Int} (hA : at' + d = A) (hkk : kk = L s - 1 - d) (hm : MidB bs2 A) (hq : ∀ p, bit (zb bs2) p = bit (zb bs1) p) (hbp : ∀ p, p < at' → bit (zb bs1) p = bit (zb bs) p)
    (hbe : ∀ e, e < d → bit (zb bs1) (at' + e) = codev L N s / 2 ^ (L s - 1 - e) % 2) (hcb : codev L N s / 2 ^ kk % 2 = 0) :
    InvB bs2 (at' + (d + 1)) ∧ (∀ p, p < at' → bit (zb bs2) p = bit (zb bs) p) ∧ ∀ e, e < d + 1 → bit (zb bs2) (at' + e) = codev L N s / 2 ^ (L s - 1 - e) % 2 := by
  obtain ⟨h1, h2⟩ := hm.zero
  subst hA
  refine ⟨h1, fun p hp => by rw [hq, hbp p hp], fun e he => ?_⟩
  by_cases h : e = d
  · subst h; rw [h2, ← hkk, hcb]
  · rw [hq]; exact hbe e (by omega)
theorem lay_one {L : Nat → Nat} {N s at' d A kk X : Nat} {bs bs1 bs2 : List Int} {v : Int} (hA : at' + d = A) (hkk : kk = L s - 1 - d) (hm : MidB bs2 A) (hq : ∀ p, bit (zb bs2) p = bit (zb bs1) p) (hbp : ∀ p, p < at' → bit (zb bs1) p = bit (zb bs) p)
    (hbe : ∀ e, e < d → bit (zb bs1) (at' + e) = codev L N s / 2 ^ (L s - 1 - e) % 2) (hcb : codev L N s / 2 ^ kk % 2 = 1) (hX : zb bs2 (A / 8) = X) (hv : v = ((X + 2 ^ (A % 8) : Nat) : Int)) :
    InvB (bs2.set (A / 8) v) (at' + (d + 1)) ∧ (∀ p, p < at' → bit (zb (bs2.set (A / 8) v)) p = bit (zb bs) p) ∧ ∀ e, e < d + 1 → bit (zb (bs2.set (A / 8) v)) (at' + e) = codev L N s / 2 ^ (L s - 1 - e) % 2 := by
  obtain ⟨h1, h2, h3⟩ := hm.one (v := v) (by rw [hX]; exact hv)
  subst hA
  refine ⟨h1, fun p hp => by rw [h3 p (by omega), hq, hbp p hp], fun e he => ?_⟩
  by_cases h : e = d
  · subst h; rw [h2, ← hkk, hcb]
  · rw [h3 _ (by omega), hq]; exact hbe e (by omega)
theorem or_u8 (x r : Nat) (hr : r < 8) (hx : x < 2 ^ r) : bits .or .u8 (x : Int) (2 ^ r) = ((x + 2 ^ r : Nat) : Int) := by
  have h : ∀ r : Fin 8, ∀ x : Fin 128, x.val < 2 ^ r.val → bits .or .u8 ((x.val : Nat) : Int) (2 ^ r.val) = ((x.val + 2 ^ r.val : Nat) : Int) := by decide
  have hp := pow_le_8 hr
  exact h ⟨r, hr⟩ ⟨x, by omega⟩ hx
end Go.Proofs.YtahibacjaoohiaaDoor
