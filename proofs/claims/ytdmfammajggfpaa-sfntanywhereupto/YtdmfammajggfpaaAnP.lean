/-
  A font whose tables stand anywhere, as bytes; a row of bytes beside a row of texts. No Go text is walked here.
-/
import Derived.Test.YtdmfammajggfpaaGat
import Derived.Test.YtdmfammajggfpaaKno
import Derived.Test.YtdmfammajggfpaaTeW
namespace Go.Proofs.Ytdmfammajggfpaa
open Go.RowKit

/-- A row of bytes and a row of texts, the call's own both. -/
structure Two (w : World) (base g c : Nat) (xs : List Int) (v : Value) (k : Nat) (S : Nat → ByteArray) : Prop where
  o1 : Own w base 5 .u8 g c xs
  o2 : w.ownsRow base 9 1 v k ((List.range k).map fun i => .string (S i))
theorem Two.apart {w : World} {base g c k : Nat} {xs : List Int} {v : Value} {S : Nat → ByteArray} (h : Two w base g c xs v k S) {q : Nat} (hq : v.ownBlock = some q) : q ≠ g := fun e => by
  obtain ⟨x, hx⟩ := ownr_blk_of h.o1 (q := g) rfl
  obtain ⟨y, hy⟩ := ownr_blk_of h.o2 hq
  rw [e, hx] at hy; cases hy
theorem Two.below {w w' : World} {base g c k : Nat} {xs : List Int} {v : Value} {S : Nat → ByteArray} (h : Two w base g c xs v k S) (hb : Below w.heap.size w w') : Two w' base g c xs v k S :=
  ⟨h.o1.below hb, ownr_below h.o2 hb⟩
/-- Bytes behind the bytes. -/
theorem Two.on {w0 w : World} {g c N k : Nat} {xs : List Int} {v : Value} {S : Nat → ByteArray} (hB : Below w0.heap.size w0 w) (h : Two w w0.heap.size g c xs v k S) {s : Option Addr} {m cm : Nat} {ys : List Int} (hL : SrcI w .u8 s m ys) (hN : xs.length = N) (hl : N + m ≤ 100000000000000) :
    ∃ g' c' w', (Builtin.append_ #[22, 22] 22 #[.slice (some ⟨g, 0, none⟩) N c, .slice s m cm]).run Try.prog w = .ok (.slice (some ⟨g', 0, none⟩) (N + m) c') w' ∧ (Two w' w0.heap.size g' c' (xs ++ ys) v k S ∧ Below w0.heap.size w0 w') := by
  obtain ⟨g', c', w', h1, h2, h3, h4⟩ := app_on hB h.o1 (cm := cm) hL hN (by omega)
  exact ⟨g', c', w', h1, ⟨h2, ownr_blk h.o2 fun q hq => h4.block q (World.ownsRow.lt h.o2 q hq).2 (fun e => h.apart hq (by simpa using e))⟩, h3⟩
theorem Two.lit {w0 w : World} {g c N k : Nat} {xs : List Int} {v : Value} {S : Nat → ByteArray} (hB : Below w0.heap.size w0 w) (h : Two w w0.heap.size g c xs v k S) (cs : Array Value) (ys : List Int) (hcs : cs = (ys.map fun x => Value.int .u8 x).toArray) {m : Nat} (hm : ys.length = m) (hN : xs.length = N) (hl : N + m ≤ 100000000000000) :
    ∃ g' c' w', (Builtin.append_ #[22, 22] 22 #[.slice (some ⟨g, 0, none⟩) N c, .slice (some ⟨w.heap.size, 0, none⟩) m m]).run Try.prog (w.alloc (.cells cs 5)) = .ok (.slice (some ⟨g', 0, none⟩) (N + m) c') w' ∧ (Two w' w0.heap.size g' c' (xs ++ ys) v k S ∧ Below w0.heap.size w0 w') := by
  have hb := blk_new w (.cells cs 5)
  exact Two.on (hB.alloc hB.size (.cells cs 5)) (h.below ((Below.refl _ _).alloc (Nat.le_refl _) _)) (s := some ⟨w.heap.size, 0, none⟩) (m := m) (cm := m) (ys := ys) ⟨hm, fun _ => ⟨w.heap.size, 0, rfl, fun j hj => by rw [Nat.zero_add, blk_cell hb, hcs]; simp [List.getD_eq_getElem?_getD, show j < ys.length by omega]⟩⟩ hN (by omega)
theorem Two.text {w0 w : World} {g c n k : Nat} {xs : List Int} {v : Value} {S : Nat → ByteArray} (hB : Below w0.heap.size w0 w) (h : Two w w0.heap.size g c xs v k S) (s : ByteArray) {m : Nat} (hm : s.size = m) (h0 : 0 < m) (hn : xs.length = n) (hl : n + m ≤ 100000000000000) :
    ∃ g' c' w', (Builtin.append_ #[22, 9] 22 #[.slice (some ⟨g, 0, none⟩) n c, .string s]).run Try.prog w = .ok (.slice (some ⟨g', 0, none⟩) (n + m) c') w' ∧ (Two w' w0.heap.size g' c' (xs ++ txtL s) v k S ∧ Below w0.heap.size w0 w') := by
  subst hn
  subst hm
  have hO := h.o1
  obtain ⟨i, hi, h1, h2, h3⟩ := info_of info5
  obtain ⟨v', w', hr, ho, hg, _⟩ := Go.Lib.run_append_own_string (P := Try.prog) w w0.heap.size 22 9 22 5 i Try.underlying22 Try.underlying9 hi h1 h3 h2 _ _ _ hO s (by unfold maxLen; omega) (by omega) hB.size
  obtain ⟨g', c', rfl, _, _⟩ := ho.form (by omega)
  refine ⟨g', c', w', hr, ⟨?_, ownr_blk h.o2 fun q hq => hg.block q (World.ownsRow.lt h.o2 q hq).2 (fun e => h.apart hq (by simpa [Value.ownBlock] using e))⟩, hB.grown hg hB.size (fun k hk => (World.ownsRow.lt hO k hk).1)⟩
  have e : Go.Lib.strCells s = (txtL s).map fun x => Value.int .u8 x := by
    unfold Go.Lib.strCells txtL
    rw [List.map_map]; rfl
  unfold Own
  rw [List.length_append, txtL_len, List.map_append, ← e]
  exact ho
/-- A text behind the texts. -/
theorem Two.want {w0 w : World} {g c k : Nat} {xs : List Int} {v : Value} {S : Nat → ByteArray} (hB : Below w0.heap.size w0 w) (h : Two w w0.heap.size g c xs v k S) {T : ByteArray} (hT : S k = T) (hk : k ≤ 100) :
    ∃ g' c' w', (Builtin.append_ #[26, 26] 26 #[v, .slice (some ⟨w.heap.size, 0, none⟩) 1 1]).run Try.prog (w.alloc (.cells #[.string T] 9)) = .ok (.slice (some ⟨g', 0, none⟩) (k + 1) c') w' ∧ (Two w' w0.heap.size g c xs (.slice (some ⟨g', 0, none⟩) (k + 1) c') (k + 1) S ∧ Below w0.heap.size w0 w') := by
  have ha := h.below ((Below.refl _ _).alloc (Nat.le_refl _) (.cells #[.string T] 9))
  have bA := hB.alloc hB.size (.cells #[.string T] 9)
  obtain ⟨g', c', w', h1, h2, h3, h4, h5⟩ := app_one E26 (w0 := w0) ha.o2 bA bA.size (blk_new w (.cells #[.string T] 9)) (news := [.string T]) rfl (by intro u hu; simp at hu; rw [hu]; rfl) (by omega)
  refine ⟨g', c', w', h1, ⟨ownr_blk ha.o1 fun q hq => ?_, by rw [range_snoc, hT]; exact h2⟩, h3⟩
  obtain rfl : g = q := by simpa [Value.ownBlock] using hq
  exact h5 g ha.o1.lt.2 (fun e => ha.apart e rfl)
theorem own_lit4 (w : World) : Own (w.alloc (.cells #[.int .u8 0, .int .u8 1, .int .u8 0, .int .u8 0] 5)) w.heap.size 5 .u8 w.heap.size 4 [0, 1, 0, 0] :=
  ⟨rfl, .inr ⟨w.heap.size, 4, _, rfl, Nat.le_refl _, blk_new w _, by simp, by unfold maxLen; omega, rfl, rfl⟩⟩

/-- Where a table stands; how long it is. -/
def fA (f : Nat → Int) (L i : Nat) : Nat := pickv (f (2 * i)) (L + 1)
def zA (f : Nat → Int) (L i : Nat) : Nat := pickv (f (2 * i + 1)) (L - fA f L i + 1)
theorem fA_le (f : Nat → Int) (L i : Nat) : fA f L i ≤ L := by have := pickv_lt (f (2 * i)) (L + 1) (by omega); unfold fA; omega
theorem zA_le (f : Nat → Int) (L i : Nat) : fA f L i + zA f L i ≤ L := by
  have h1 := fA_le f L i
  have h2 : zA f L i < L - fA f L i + 1 := pickv_lt _ _ (by omega)
  omega
/-- The law's tags. -/
def tagA (i : Nat) : ByteArray := { data := #[84, 65, 66] } ++ bstr (zl [i + 48]) 1
theorem tagA_list (i : Nat) : (tagA i).data.toList = [84, 65, 66, UInt8.ofNat (i + 48)] := by
  unfold tagA bstr
  rw [ByteArray.data_append]
  rfl
theorem tagA_size (i : Nat) : (tagA i).size = 4 := by
  have h := congrArg List.length (tagA_list i)
  rw [Array.length_toList] at h
  exact h
theorem tagA_inj {i j : Nat} (hi : i < 20) (hj : j < 20) (h : tagA i = tagA j) : i = j := by
  have h1 := congrArg (fun b : ByteArray => b.data.toList) h
  simp only [tagA_list] at h1
  have h2 : UInt8.ofNat (i + 48) = UInt8.ofNat (j + 48) := by simpa using h1
  have h3 := congrArg UInt8.toNat h2
  simp at h3
  omega
theorem tagA_ok {n : Nat} (hn : n ≤ 20) : okN tagA n = true :=
  okN_iff.2 fun k hk => ⟨tagA_size k, fun j hj e => by have := tagA_inj (by omega) (by omega) e; omega⟩
theorem tagA_txt {i : Nat} (hi : i < 20) : txtL (tagA i) = [84, 65, 66, ((i + 48 : Nat) : Int)] := by
  unfold txtL
  rw [tagA_list]
  have : (UInt8.ofNat (i + 48)).toNat = i + 48 := by simp; omega
  simp only [List.map_cons, List.map_nil, this]
  rfl
/-- The first k records. -/
def recA (F Z : Nat → Nat) (o : Nat) : Nat → List Int
  | 0 => []
  | k + 1 => recA F Z o k ++ (txtL (tagA k) ++ ([1, 2, 3, 4] ++ (bigL (o + F k) ++ bigL (Z k))))
def anyB (F Z : Nat → Nat) (n : Nat) (B : List Int) : List Int := headB n ++ recA F Z (12 + 16 * n) n ++ B
theorem recA_len {F Z : Nat → Nat} {o : Nat} : ∀ {k : Nat}, (recA F Z o k).length = 16 * k
  | 0 => rfl
  | k + 1 => by
    rw [recA, List.length_append, List.length_append, List.length_append, List.length_append, recA_len (k := k), txtL_len, tagA_size]
    simp [bigL_len]; omega
theorem recA_split (F Z : Nat → Nat) (o : Nat) {k : Nat} : ∀ {n : Nat}, k < n → ∃ R, recA F Z o n = recA F Z o k ++ (txtL (tagA k) ++ ([1, 2, 3, 4] ++ (bigL (o + F k) ++ bigL (Z k)))) ++ R
  | 0, h => by omega
  | n + 1, h => by
    by_cases e : k = n
    · subst e; exact ⟨[], by rw [recA, List.append_nil]⟩
    · obtain ⟨R, hR⟩ := recA_split F Z o (k := k) (n := n) (by omega)
      exact ⟨R ++ (txtL (tagA n) ++ ([1, 2, 3, 4] ++ (bigL (o + F n) ++ bigL (Z n)))), by rw [recA, hR, List.append_assoc]⟩
theorem recA_byt {F Z : Nat → Nat} {o : Nat} : ∀ {n : Nat}, (∀ k, k < n → o + F k < 4294967296 ∧ Z k < 4294967296) → Byt (recA F Z o n)
  | 0, _ => fun i => by simp [recA]
  | n + 1, h => by
    obtain ⟨h1, h2⟩ := h n (by omega)
    exact Byt.append (recA_byt fun k hk => h k (by omega)) (Byt.append (txtL_byt _) (Byt.append (fun i => by rcases i with _ | _ | _ | _ | i <;> simp) (Byt.append (bigL_byt h1) (bigL_byt h2))))
theorem anyB_len {F Z : Nat → Nat} {n : Nat} {B : List Int} : (anyB F Z n B).length = 12 + 16 * n + B.length := by
  unfold anyB
  rw [List.length_append, List.length_append, headB_len, recA_len]
theorem anyB_byt {F Z : Nat → Nat} {n : Nat} {B : List Int} (hn : n ≤ 64) (h : ∀ k, k < n → 12 + 16 * n + F k < 4294967296 ∧ Z k < 4294967296) (hb : Byt B) : Byt (anyB F Z n B) := Byt.append (Byt.append (headB_byt hn) (recA_byt h)) hb
theorem any_rec {F Z : Nat → Nat} {n : Nat} {B : List Int} (h : ∀ k, k < n → 12 + 16 * n + F k < 4294967296 ∧ Z k < 4294967296) {k : Nat} (hk : k < n) (hfz : F k + Z k ≤ B.length) :
    tgv (zb (anyB F Z n B)) k = tagA k ∧ atv (zb (anyB F Z n B)) k = 12 + 16 * n + F k ∧ szv (zb (anyB F Z n B)) k = Z k ∧ (∀ j, j < Z k → zb (anyB F Z n B) (12 + 16 * n + F k + j) = zb B (F k + j)) := by
  obtain ⟨R, hR⟩ := recA_split F Z (12 + 16 * n) hk
  obtain ⟨hA0, hZ0⟩ := h k hk
  have hT : ∀ i, i < 4 → zb (anyB F Z n B) (12 + 16 * k + i) = zb (txtL (tagA k)) i := fun i hi =>
    zb_at' (P := headB n ++ recA F Z (12 + 16 * n) k) (Y := txtL (tagA k)) (R := ([1, 2, 3, 4] ++ (bigL (12 + 16 * n + F k) ++ bigL (Z k))) ++ R ++ B) (by unfold anyB; rw [hR]; simp only [List.append_assoc]) (by rw [List.length_append, headB_len, recA_len]) (by rw [txtL_len, tagA_size]; exact hi)
  have hA : ∀ i, i < 4 → zb (anyB F Z n B) (12 + 16 * k + 8 + i) = zb (bigL (12 + 16 * n + F k)) i := fun i hi =>
    zb_at' (P := headB n ++ recA F Z (12 + 16 * n) k ++ txtL (tagA k) ++ [1, 2, 3, 4]) (Y := bigL (12 + 16 * n + F k)) (R := bigL (Z k) ++ R ++ B) (by unfold anyB; rw [hR]; simp only [List.append_assoc]) (by rw [List.length_append, List.length_append, List.length_append, headB_len, recA_len, txtL_len, tagA_size]; rfl) (by rw [bigL_len]; exact hi)
  have hZ : ∀ i, i < 4 → zb (anyB F Z n B) (12 + 16 * k + 12 + i) = zb (bigL (Z k)) i := fun i hi =>
    zb_at' (P := headB n ++ recA F Z (12 + 16 * n) k ++ txtL (tagA k) ++ [1, 2, 3, 4] ++ bigL (12 + 16 * n + F k)) (Y := bigL (Z k)) (R := R ++ B) (by unfold anyB; rw [hR]; simp only [List.append_assoc]) (by rw [List.length_append, List.length_append, List.length_append, List.length_append, headB_len, recA_len, txtL_len, tagA_size, bigL_len]; rfl) (by rw [bigL_len]; exact hi)
  refine ⟨bstr_txt (tagA_size k) hT, numv_big hA0 hA, numv_big hZ0 hZ, fun j hj => ?_⟩
  have := zb_at' (L := anyB F Z n B) (P := headB n ++ recA F Z (12 + 16 * n) n) (Y := B) (R := []) (p := 12 + 16 * n) (i := F k + j) (by unfold anyB; rw [List.append_nil]) (by rw [List.length_append, headB_len, recA_len]) (by omega)
  rw [Nat.add_assoc]
  exact this
theorem any_ok {F Z : Nat → Nat} {n : Nat} {B : List Int} (hn : n ≤ 20) (h : ∀ k, k < n → 12 + 16 * n + F k < 4294967296 ∧ Z k < 4294967296) (hfz : ∀ k, k < n → F k + Z k ≤ B.length) :
    cntv (zb (anyB F Z n B)) = n ∧ opnv (zb (anyB F Z n B)) (anyB F Z n B).length = 0 := by
  have hlen := anyB_len (F := F) (Z := Z) (n := n) (B := B)
  obtain ⟨hm, hc⟩ := head_at (R := recA F Z (12 + 16 * n) n ++ B) n
  rw [← List.append_assoc] at hm hc
  have hm' : markB (bstr (zb (anyB F Z n B)) 4) = true := hm
  have hc' : cntv (zb (anyB F Z n B)) = n := hc
  refine ⟨hc', ?_⟩
  unfold opnv
  rw [if_neg (by omega), if_neg (by rw [hm']; simp), hc', if_neg (by omega), if_neg (by omega)]
  refine fbv_ok.2 fun k hk => ?_
  obtain ⟨h1, h2, h3, _⟩ := any_rec h hk (hfz k hk)
  have hf : hadn (tgv (zb (anyB F Z n B))) (tgv (zb (anyB F Z n B)) k) k = false := hadn_no.2 fun j hj => by
    rw [(any_rec h (show j < n by omega) (hfz j (by omega))).1, h1]
    exact (okN_iff.1 (tagA_ok hn) k hk).2 j hj
  have := hfz k hk
  unfold chkv
  rw [if_neg (by rw [hf]; simp), h2, h3, if_pos (by rw [hlen]; omega)]
theorem part_of {w : World} {ad : Addr} {L cap p n c : Nat} {z : Nat → Nat} (h : Lies w (some ad) L cap z) (hp : p + n ≤ L) (hc : n ≤ c) : Lies w (some (ad.add p)) n c (fun i => z (p + i)) :=
  ⟨hc, by have := h.reach; omega, fun i => h.byte _, fun h0 => by
    obtain ⟨b, off, e, hb, hcl⟩ := h.spot (by omega)
    obtain rfl : ad = ⟨b, off, none⟩ := by simpa using e
    exact ⟨b, off + p, by rw [add_none], hb, fun i hi => by have := hcl (p + i) (by omega); rwa [← Nat.add_assoc] at this⟩⟩
end Go.Proofs.Ytdmfammajggfpaa
