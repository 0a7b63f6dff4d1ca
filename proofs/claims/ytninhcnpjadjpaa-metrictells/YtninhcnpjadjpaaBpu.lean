/-
  The base tables (head, maxp, loca, glyf) as bytes; what a laid font of four tables tells. No Go text is walked here.
-/
import Derived.Test.YtninhcnpjadjpaaRgm
namespace Go.Proofs.Ytninhcnpjadjpaa
open Go.RowKit

/-- How many bytes of glyf the first k glyphs take, each to an even number. -/
def glen (t : Nat → Tab) : Nat → Nat
  | 0 => 0
  | k + 1 => glen t k + (t k).l + (t k).l % 2
theorem glen_even (t : Nat → Tab) : ∀ k, glen t k % 2 = 0
  | 0 => rfl
  | k + 1 => by have := glen_even t k; rw [glen]; omega
theorem glen_le {t : Nat → Tab} {n : Nat} (h : ∀ k, k < n → (t k).l ≤ 40) : ∀ {k : Nat}, k ≤ n → glen t k ≤ 40 * k
  | 0, _ => by simp [glen]
  | k + 1, hk => by have := glen_le h (k := k) (by omega); have := h k (by omega); rw [glen]; omega
theorem glen_mono (t : Nat → Tab) {n : Nat} : ∀ {k : Nat}, k ≤ n → glen t k ≤ glen t n := by
  intro k hk
  induction n with
  | zero => have : k = 0 := by omega
            subst this; exact Nat.le_refl _
  | succ n ih =>
    by_cases e : k = n + 1
    · subst e; exact Nat.le_refl _
    · have := ih (by omega)
      rw [glen]; omega
/-- Those bytes. -/
def glyB (t : Nat → Tab) : Nat → List Int
  | 0 => []
  | k + 1 => glyB t k ++ byt (t k).z 0 (t k).l ++ List.replicate ((t k).l % 2) 0
theorem glyB_len (t : Nat → Tab) : ∀ k, (glyB t k).length = glen t k
  | 0 => rfl
  | k + 1 => by rw [glyB, List.length_append, List.length_append, glyB_len t k, byt_len, List.length_replicate, glen]
/-- An entry of loca. -/
def entL (b : Bool) (v : Nat) : List Int := if b = true then wd4 v else wd2 (v / 2)
theorem entL_len (b : Bool) (v : Nat) : (entL b v).length = entW b := by cases b <;> rfl
def locB (t : Nat → Tab) (b : Bool) : Nat → List Int
  | 0 => []
  | k + 1 => locB t b k ++ entL b (glen t k)
theorem locB_len (t : Nat → Tab) (b : Bool) : ∀ k, (locB t b k).length = entW b * k
  | 0 => by simp [locB]
  | k + 1 => by rw [locB, List.length_append, locB_len t b k, entL_len, Nat.mul_succ]
def headL (u : Nat) (b : Bool) : List Int := [0, 0, 0, 0, 0, 0, 0, 0, 0, 0, 0, 0, 0, 0, 0, 0, 0, 0, (u : Int) / 256 % 256, (u : Int) % 256, 0, 0, 0, 0, 0, 0, 0, 0, 0, 0, 0, 0, 0, 0, 0, 0, 0, 0, 0, 0, 0, 0, 0, 0, 0, 0, 0, 0, 0, 0, 0, if b = true then 1 else 0, 0, 0]
theorem headL_len (u : Nat) (b : Bool) : (headL u b).length = 54 := rfl
def maxL (n : Nat) : List Int := [0, 1, 0, 0] ++ wd2 n
theorem maxL_len (n : Nat) : (maxL n).length = 6 := rfl
theorem rep_byt (k : Nat) : Byt (List.replicate k 0) := fun i => by
  rw [List.getD_eq_getElem?_getD, List.getElem?_replicate]
  split <;> simp
theorem cons_byt {x : Int} {xs : List Int} (h0 : 0 ≤ x) (h1 : x < 256) (h : Byt xs) : Byt (x :: xs) := fun i => by
  rcases i with _ | i
  · exact ⟨h0, h1⟩
  · exact h i
theorem nil_byt : Byt [] := fun i => by simp
theorem headL_byt (u : Nat) (b : Bool) : Byt (headL u b) := by
  unfold headL
  repeat (first | exact nil_byt | refine cons_byt (by first | omega | (split <;> omega)) (by first | omega | (split <;> omega)) ?_)
theorem maxL_byt (n : Nat) : Byt (maxL n) := by
  refine Byt.append ?_ (wd2_byt n)
  repeat (first | exact nil_byt | refine cons_byt (by omega) (by omega) ?_)
theorem entL_byt : ∀ (b : Bool) (v : Nat), Byt (entL b v)
  | false, v => wd2_byt (v / 2)
  | true, v => wd4_byt v
theorem locB_byt (t : Nat → Tab) (b : Bool) : ∀ k, Byt (locB t b k)
  | 0 => nil_byt
  | k + 1 => (locB_byt t b k).append (entL_byt _ _)
theorem glyB_byt {t : Nat → Tab} {n : Nat} (hz : ∀ k, k < n → ∀ i, (t k).z i < 256) : ∀ {k : Nat}, k ≤ n → Byt (glyB t k)
  | 0, _ => nil_byt
  | k + 1, hk => ((glyB_byt hz (k := k) (by omega)).append (byt_of (hz k (by omega)))).append (rep_byt _)

theorem numv_congr {z y : Nat → Nat} {p q : Nat} : ∀ {k : Nat}, (∀ i, i < k → z (p + i) = y (q + i)) → numv z p k = numv y q k
  | 0, _ => rfl
  | k + 1, h => by rw [numv, numv, numv_congr (k := k) fun i hi => h i (by omega), h k (by omega)]
theorem numv_wd4 (s : Nat) : numv (zb (wd4 s)) 0 4 = s % 4294967296 := by
  have g0 : zb (wd4 s) 0 = s / 16777216 % 256 := by unfold zb wd4; simp; omega
  have g1 : zb (wd4 s) 1 = s / 65536 % 256 := by unfold zb wd4; simp; omega
  have g2 : zb (wd4 s) 2 = s / 256 % 256 := by unfold zb wd4; simp; omega
  have g3 : zb (wd4 s) 3 = s % 256 := by unfold zb wd4; simp; omega
  have e : numv (zb (wd4 s)) 0 4 = (((0 * 256 + zb (wd4 s) 0) * 256 + zb (wd4 s) 1) * 256 + zb (wd4 s) 2) * 256 + zb (wd4 s) 3 := rfl
  rw [e, g0, g1, g2, g3]
  omega
theorem numv_wd2 (s : Nat) : numv (zb (wd2 s)) 0 2 = s % 65536 := by
  have g0 : zb (wd2 s) 0 = s / 256 % 256 := by unfold zb wd2; simp; omega
  have g1 : zb (wd2 s) 1 = s % 256 := by unfold zb wd2; simp; omega
  have e : numv (zb (wd2 s)) 0 2 = (0 * 256 + zb (wd2 s) 0) * 256 + zb (wd2 s) 1 := rfl
  rw [e, g0, g1]
  omega
theorem loc_split (t : Nat → Tab) (b : Bool) {k : Nat} : ∀ {n : Nat}, k < n → ∃ R, locB t b n = locB t b k ++ entL b (glen t k) ++ R
  | 0, h => by omega
  | n + 1, h => by
    by_cases e : k = n
    · subst e; exact ⟨[], by rw [locB, List.append_nil]⟩
    · obtain ⟨R, hR⟩ := loc_split t b (k := k) (n := n) (by omega)
      exact ⟨R ++ entL b (glen t n), by rw [locB, hR, List.append_assoc]⟩
theorem gly_split (t : Nat → Tab) {k : Nat} : ∀ {n : Nat}, k < n → ∃ R, glyB t n = glyB t k ++ byt (t k).z 0 (t k).l ++ R
  | 0, h => by omega
  | n + 1, h => by
    by_cases e : k = n
    · subst e; exact ⟨_, by rw [glyB]⟩
    · obtain ⟨R, hR⟩ := gly_split t (k := k) (n := n) (by omega)
      exact ⟨R ++ (byt (t n).z 0 (t n).l ++ List.replicate ((t n).l % 2) 0), by rw [glyB, hR]; simp only [List.append_assoc]⟩
/-- What loca's entries tell. -/
theorem loc_at {t : Nat → Tab} {b : Bool} {n k : Nat} (hk : k < n) (hg : glen t k < 65536) : entv (zb (locB t b n)) b k = glen t k := by
  obtain ⟨R, hR⟩ := loc_split t b hk
  have he := glen_even t k
  have hz : ∀ i, i < entW b → zb (locB t b n) (entW b * k + i) = zb (entL b (glen t k)) i := fun i hi =>
    zb_at' hR (locB_len t b k) (by rw [entL_len]; exact hi)
  cases b
  · show 2 * numv (zb (locB t false n)) (2 * k) 2 = _
    rw [numv_congr (y := zb (wd2 (glen t k / 2))) (q := 0) (fun i hi => by rw [Nat.zero_add]; exact hz i hi), numv_wd2]
    omega
  · show numv (zb (locB t true n)) (4 * k) 4 = _
    rw [numv_congr (y := zb (wd4 (glen t k))) (q := 0) (fun i hi => by rw [Nat.zero_add]; exact hz i hi), numv_wd4]
    omega
theorem gly_at {t : Nat → Tab} {n k i : Nat} (hk : k < n) (hi : i < (t k).l) : zb (glyB t n) (glen t k + i) = (t k).z i := by
  obtain ⟨R, hR⟩ := gly_split t hk
  rw [zb_at' hR (glyB_len t k) (by rw [byt_len]; exact hi), byt_zb_at hi]
theorem head_u (u : Nat) (b : Bool) : numv (zb (headL u b)) 18 2 = u % 65536 := by
  have g0 : zb (headL u b) 18 = ((u : Int) / 256 % 256).toNat := rfl
  have g1 : zb (headL u b) 19 = ((u : Int) % 256).toNat := rfl
  have e : numv (zb (headL u b)) 18 2 = (0 * 256 + zb (headL u b) 18) * 256 + zb (headL u b) 19 := rfl
  rw [e, g0, g1]
  omega
theorem head_f (u : Nat) (b : Bool) : numv (zb (headL u b)) 50 2 = if b = true then 1 else 0 := by
  have g0 : zb (headL u b) 50 = 0 := rfl
  have g1 : zb (headL u b) 51 = (if b = true then (1 : Int) else 0).toNat := rfl
  have e : numv (zb (headL u b)) 50 2 = (0 * 256 + zb (headL u b) 50) * 256 + zb (headL u b) 51 := rfl
  rw [e, g0, g1]
  cases b <;> rfl
theorem maxp_n (n : Nat) : numv (zb (maxL n)) 4 2 = n % 65536 := by
  rw [numv_congr (y := zb (wd2 n)) (q := 0) (fun i hi => ?_), numv_wd2]
  rw [Nat.zero_add]
  have : zb (maxL n) (4 + i) = zb (wd2 n) i := zb_at' (L := maxL n) (P := [0, 1, 0, 0]) (Y := wd2 n) (R := []) (by rw [List.append_nil]; rfl) rfl (by rw [wd2_len]; exact hi)
  exact this

/-- What a laid font of four tables tells, table by table. -/
theorem look_lay {s : Nat → ByteArray} {t : Nat → Tab} {n : Nat} (hok : okN s n = true) (hn : n ≤ 64) (hS : sumN t n ≤ 1000000) {k : Nat} (hk : k < n) :
    look (zb (layB s t n)) (s k) = some ⟨(t k).l, fun i => zb (layB s t n) (12 + 16 * n + sumN t k + i)⟩ ∧ ∀ i, i < (t k).l → zb (layB s t n) (12 + 16 * n + sumN t k + i) = (t k).z i := by
  obtain ⟨h1, h2, h3, h4⟩ := laid_rec hok hn hS hk
  have hc := (laid_ok hok hn hS).1
  have hf : IsF (tgv (zb (layB s t n))) (cntv (zb (layB s t n))) (s k) k := by
    rw [hc]
    refine ⟨by omega, fun j hj => ?_, fun _ => h1⟩
    rw [(laid_rec hok hn hS (show j < n by omega)).1]
    exact (okN_iff.1 hok k hk).2 j hj
  refine ⟨?_, h4⟩
  rw [look_at hf, hc, if_pos hk, h2, h3]
/-- Two tables of the same bytes. -/
def TbEq (o : Option Tb) (l : Nat) (z : Nat → Nat) : Prop := ∃ y, o = some ⟨l, y⟩ ∧ ∀ i, i < l → y i = z i
theorem look_eq {s : Nat → ByteArray} {t : Nat → Tab} {n : Nat} (hok : okN s n = true) (hn : n ≤ 64) (hS : sumN t n ≤ 1000000) {k : Nat} (hk : k < n) : TbEq (look (zb (layB s t n)) (s k)) (t k).l (t k).z := by
  obtain ⟨h1, h2⟩ := look_lay hok hn hS hk
  exact ⟨_, h1, h2⟩
theorem TbEq.u16 {o : Option Tb} {l : Nat} {z : Nat → Nat} (h : TbEq o l z) {k : Nat} (hk : k + 2 ≤ l) : u16o o k = numv z k 2 := by
  obtain ⟨y, rfl, hy⟩ := h
  exact numv_congr fun i hi => hy _ (by omega)
theorem TbEq.atl {o : Option Tb} {l : Nat} {z : Nat → Nat} (h : TbEq o l z) (n : Nat) : atl o n = if l < n then 3 else 0 := by
  obtain ⟨y, rfl, hy⟩ := h
  rfl
theorem TbEq.hd {o : Option Tb} {l : Nat} {z : Nat → Nat} (h : TbEq o l z) : hdE o = if l < 54 then 3 else if numv z 18 2 < 16 ∨ 16384 < numv z 18 2 ∨ 1 < numv z 50 2 then 2 else 0 := by
  unfold hdE
  rw [h.atl]
  by_cases e : l < 54
  · rw [if_pos e, if_pos e]; rfl
  · rw [if_neg e, if_neg e, if_neg (by omega), h.u16 (by omega), h.u16 (by omega)]
theorem TbEq.mx {o : Option Tb} {l : Nat} {z : Nat → Nat} (h : TbEq o l z) : mxE o = if l < 6 then 3 else if numv z 4 2 = 0 then 2 else 0 := by
  unfold mxE
  rw [h.atl]
  by_cases e : l < 6
  · rw [if_pos e, if_pos e]; rfl
  · rw [if_neg e, if_neg e, if_neg (by omega), h.u16 (by omega)]
theorem entv_congr {z y : Nat → Nat} {b : Bool} {k : Nat} (h : ∀ i, i < entW b * (k + 1) → z i = y i) : entv z b k = entv y b k := by
  cases b
  · show 2 * numv z (2 * k) 2 = 2 * numv y (2 * k) 2
    rw [numv_congr fun i hi => h _ (by show _ < 2 * (k + 1); omega)]
  · show numv z (4 * k) 4 = numv y (4 * k) 4
    rw [numv_congr fun i hi => h _ (by show _ < 4 * (k + 1); omega)]
theorem TbEq.rng {L G : Option Tb} {l m : Nat} {z y : Nat → Nat} (h : TbEq L l z) (h2 : TbEq G m y) (b : Bool) (k : Nat) :
    rngO L G b k = if entW b * (k + 2) ≤ l then (if entv z b (k + 1) < entv z b k ∨ m < entv z b (k + 1) then (0, 0, 2) else (entv z b k, entv z b (k + 1), 0)) else (0, 0, 3) := by
  obtain ⟨z', rfl, hz⟩ := h
  obtain ⟨y', rfl, hy⟩ := h2
  show (if entW b * (k + 2) ≤ l then _ else _) = _
  by_cases e : entW b * (k + 2) ≤ l
  · have e1 : entv z' b (k + 1) = entv z b (k + 1) := entv_congr fun i hi => hz i (Nat.lt_of_lt_of_le hi e)
    have e2 : entv z' b k = entv z b k := entv_congr fun i hi => hz i (Nat.lt_of_lt_of_le hi (Nat.le_trans (Nat.mul_le_mul_left _ (by omega)) e))
    rw [if_pos e, if_pos e, e1, e2]
  · rw [if_neg e, if_neg e]

/-- The four tags. -/
def tag4 : Nat → ByteArray := fun i => if i = 0 then hdT else if i = 1 then mxT else if i = 2 then lcT else gfT
theorem tag4_ok : okN tag4 4 = true := by decide +kernel
end Go.Proofs.Ytninhcnpjadjpaa
