/-
  flate.Stored as a contract.
-/
import Derived.Test.YtahibacjaoohiaaDoorInfl
import Derived.Deep.DeepAppendWide
import Derived.Test.YtahibacjaoohiaaDoorRow
import Derived.Test.YtahibacjaoohiaaDoorBack
namespace Go.Proofs.YtahibacjaoohiaaDoor
open Go.RowKit

/-- A stored block of n bytes from off on. -/
def blkL (z : Nat → Nat) (off n : Nat) (last : Bool) : List Int :=
  [if last then 1 else 0, ((n % 256 : Nat) : Int), ((n / 256 : Nat) : Int), ((255 - n % 256 : Nat) : Int), ((255 - n / 256 : Nat) : Int)] ++ (List.range n).map fun i => ((z (off + i) : Nat) : Int)
def stN (z : Nat → Nat) (len : Nat) : Nat → Nat → List Int
  | 0, _ => []
  | n + 1, off => if len - off ≤ 65535 then blkL z off (len - off) true else blkL z off 65535 false ++ stN z len n (off + 65535)
theorem stN_enough (z : Nat → Nat) (len : Nat) : ∀ {n m off : Nat}, len - off < n → len - off < m → stN z len n off = stN z len m off
  | 0, _, _, h, _ => by omega
  | _ + 1, 0, _, _, h => by omega
  | n + 1, m + 1, off, h1, h2 => by
    unfold stN
    split
    · rfl
    · rw [stN_enough z len (n := n) (m := m) (by omega) (by omega)]
/-- Stored blocks of the bytes from off on. -/
def stL (z : Nat → Nat) (len off : Nat) : List Int := stN z len (len - off + 1) off
theorem stL_last (z : Nat → Nat) {len off : Nat} (h : len - off ≤ 65535) : stL z len off = blkL z off (len - off) true := by unfold stL stN; rw [if_pos h]
theorem stL_more (z : Nat → Nat) {len off : Nat} (h : ¬ len - off ≤ 65535) : stL z len off = blkL z off 65535 false ++ stL z len (off + 65535) := by
  unfold stL
  conv => lhs; unfold stN
  rw [if_neg h, stN_enough z len (n := len - off) (m := len - (off + 65535) + 1) (by omega) (by omega)]

theorem make22c (n : Nat) (hn : n ≤ 150000000000000) (W : World) : (Instr.makeSlice 23 (.int .i64 0) (.int .i64 n)).run Tryd.prog W = .ok (.slice (some ⟨W.heap.size, 0, none⟩) 0 n) (W.alloc (.cells (arr n fun _ => .int .u8 0) 5)) := by
  obtain ⟨i, hi, h1, h2, h3⟩ := info_of info5
  have h := run_make (P := Tryd.prog) W 23 5 i (.int .u8 0) Tryd.underlying23 hi h1 .i64 .i64 0 n (by omega) (by omega) (by rw [h2]; omega) (by omega)
  rw [h, h3, Int.toNat_natCast, Nat.mul_one]
  show Result.ok _ (W.alloc (.cells (madeCells #[.int .u8 0] n) 5)) = _
  rw [made_arr]; rfl
theorem own_made8 (w : World) (base n : Nat) (hb : base ≤ w.heap.size) (hn : n ≤ 150000000000000) : Own (w.alloc (.cells (arr n fun _ => .int .u8 0) 5)) base 5 .u8 w.heap.size n [] :=
  World.ownsRow_made w _ n hb (by unfold maxLen; omega) (by rw [arr_size, Nat.mul_one])
/-- append, of more: as wide as growslice lets it be. -/
theorem run_append_w {w : World} {base : Nat} {v : Value} {n : Nat} {xs : List Value} (h : w.ownsRow base 5 1 v n xs) (ad : Addr) (m c : Nat) (news : List Value) (hl : news.length = m) (hnews : ∀ j u, news[j]? = some u → w.cell? (ad.add j) = some u) (h1 : ∀ u ∈ news, u.oneCell' = true) (hm : 0 < m) (hlen : n + m ≤ 150000000000000) (hbase : base ≤ w.heap.size) :
    ∃ g cap w', (Builtin.append_ #[23, 23] 23 #[v, .slice (some ad) m c]).run Tryd.prog w = .ok (.slice (some ⟨g, 0, none⟩) (n + m) cap) w' ∧ w'.ownsRow base 5 1 (.slice (some ⟨g, 0, none⟩) (n + m) cap) (n + m) (xs ++ news) ∧ w.grownBy w' v.ownBlock := by
  obtain ⟨i, hi', h2, h3, h4⟩ := info_of info5
  obtain ⟨v', w', hr, ho, hg, _⟩ := run_append_own_wide (P := Tryd.prog) w base 23 23 5 i (.int .u8 0) 1 1 Tryd.underlying23 hi' h2 h4 h3 rfl (by omega) v n xs h ad m c news (by rw [hl, Nat.mul_one]) hnews h1 (by unfold maxLen; omega) (by omega) hbase
  obtain ⟨g, cap, rfl, _, _⟩ := ho.form (by omega)
  exact ⟨g, cap, w', hr, ho, hg⟩
theorem Own.appendB {w : World} {base : Nat} {g cap : Nat} {xs : List Int} (h : Own w base 5 .u8 g cap xs) (hbase : base ≤ w.heap.size) {s : Option Addr} {m c : Nat} {ys : List Int} (hs : SrcI w .u8 s m ys) (hlen : xs.length + ys.length ≤ 150000000000000) :
    ∃ g' cap' w', (Builtin.append_ #[23, 23] 23 #[.slice (some ⟨g, 0, none⟩) xs.length cap, .slice s m c]).run Tryd.prog w = .ok (.slice (some ⟨g', 0, none⟩) (xs ++ ys).length cap') w' ∧ (Own w' base 5 .u8 g' cap' (xs ++ ys) ∧ w.grownBy w' (some g)) := by
  obtain ⟨i, hi', h1, h2, h3⟩ := info_of info5
  obtain ⟨hsl, hsa⟩ := hs
  by_cases h0 : m = 0
  · subst h0
    have : ys = [] := List.length_eq_zero_iff.1 hsl
    subst this
    refine ⟨g, cap, w, ?_, by simpa using h, World.grownBy.refl _ _⟩
    rw [List.append_nil]
    refine run_append_nothing w 23 23 23 5 i Tryd.underlying23 hi' _ _ _ h.lc.1 _ ?_
    cases s with
    | none => exact Src.ofNil w Tryd.underlying23 c
    | some x => exact Src.ofSlice w Tryd.underlying23 x 0 c [] (by simp) (by simp) (by simp)
  · obtain ⟨b, off, rfl, hc⟩ := hsa (by omega)
    obtain ⟨g', cap', w', hr, ho, hg⟩ := run_append_w h ⟨b, off, none⟩ m c (ys.map fun y => .int .u8 y) (by simp [hsl])
      (fun j u hj => by
        have hj' : j < ys.length := by have := (List.getElem?_eq_some_iff.1 hj).1; simpa using this
        rw [add_none, hc j (by omega), ← hj]
        simp [hj'])
      (by intro u hu; obtain ⟨y, _, rfl⟩ := List.mem_map.1 hu; rfl) (by omega) (by omega) hbase
    refine ⟨g', cap', w', ?_, ?_, hg⟩
    · rw [hr, List.length_append, hsl]
    · unfold Own; rw [List.length_append, List.map_append, hsl]; exact ho

theorem not8 (x : Nat) (h : x < 256) : bits .xor .u8 IntKind.u8.max (x : Int) = ((255 - x : Nat) : Int) := by
  have : ∀ x : Fin 256, bits .xor .u8 IntKind.u8.max ((x.val : Nat) : Int) = ((255 - x.val : Nat) : Int) := by decide +kernel
  exact this ⟨x, h⟩
def stM (sb l : Value) : Nat := match l with
  | .bool true => 0
  | _ => (match sb with | .slice _ n _ => n | _ => 0) + 1
/-- The first of a block's two appends. -/
theorem sto_first {w wr : World} {g c : Nat} {acc : List Int} (hO : Own wr w.heap.size 5 .u8 g c acc) (hB : Below w.heap.size w wr) (x0 x1 x2 x3 x4 : Int) (hl : acc.length ≤ 149000000000000) :
    ∃ N1, Hid (N1 = (acc ++ [x0, x1, x2, x3, x4]).length) ∧ Hid (∃ g' cap' w', (Builtin.append_ #[23, 23] 23 #[.slice (some ⟨g, 0, none⟩) acc.length c, .slice (some ⟨wr.heap.size, 0, none⟩) 5 5]).run Tryd.prog (wr.alloc (.cells #[.int .u8 x0, .int .u8 x1, .int .u8 x2, .int .u8 x3, .int .u8 x4] 5)) = .ok (.slice (some ⟨g', 0, none⟩) N1 cap') w' ∧
      (Own w' w.heap.size 5 .u8 g' cap' (acc ++ [x0, x1, x2, x3, x4]) ∧ (wr.alloc (.cells #[.int .u8 x0, .int .u8 x1, .int .u8 x2, .int .u8 x3, .int .u8 x4] 5)).grownBy w' (some g))) := by
  refine ⟨_, rfl, ?_⟩
  have hb := hB.size
  have hblk := blk_new wr (.cells #[.int .u8 x0, .int .u8 x1, .int .u8 x2, .int .u8 x3, .int .u8 x4] 5)
  obtain ⟨g', cap', w', h1, h2, h3⟩ := (hO.alloc (.cells #[.int .u8 x0, .int .u8 x1, .int .u8 x2, .int .u8 x3, .int .u8 x4] 5)).appendB (by simp; omega) (s := some ⟨wr.heap.size, 0, none⟩) (m := 5) (c := 5) (ys := [x0, x1, x2, x3, x4]) ⟨rfl, fun _ => ⟨wr.heap.size, 0, rfl, fun j hj => by
    rw [Nat.zero_add, blk_cell hblk]; rcases (show j = 0 ∨ j = 1 ∨ j = 2 ∨ j = 3 ∨ j = 4 by omega) with rfl | rfl | rfl | rfl | rfl <;> rfl⟩⟩ (by simp; omega)
  exact ⟨g', cap', w', h1, h2, h3⟩
/-- The second. -/
theorem sto_second {w wr : World} {g c n c' off : Nat} {acc : List Int} {a' : Option Addr} {z : Nat → Nat} (hB : Below w.heap.size w wr) (hO : Own wr w.heap.size 5 .u8 g c acc) (hL : Lies w a' n c' fun i => z (off + i)) (x0 x1 x2 x3 x4 : Int) (hl : acc.length + n ≤ 149000000000000) (N1 : Nat) (hN1 : Hid (N1 = (acc ++ [x0, x1, x2, x3, x4]).length)) (g1 c1 : Nat) (w1 : World)
    (hR : Own w1 w.heap.size 5 .u8 g1 c1 (acc ++ [x0, x1, x2, x3, x4]) ∧ (wr.alloc (.cells #[.int .u8 x0, .int .u8 x1, .int .u8 x2, .int .u8 x3, .int .u8 x4] 5)).grownBy w1 (some g)) :
    ∃ N2, Hid (N2 = (acc ++ [x0, x1, x2, x3, x4] ++ (List.range n).map fun i => ((z (off + i) : Nat) : Int)).length) ∧ Hid (∃ g' cap' w', (Builtin.append_ #[23, 23] 23 #[.slice (some ⟨g1, 0, none⟩) N1 c1, .slice a' n c']).run Tryd.prog w1 = .ok (.slice (some ⟨g', 0, none⟩) N2 cap') w' ∧
      (Own w' w.heap.size 5 .u8 g' cap' (acc ++ [x0, x1, x2, x3, x4] ++ (List.range n).map fun i => ((z (off + i) : Nat) : Int)) ∧ Below w.heap.size w w')) := by
  refine ⟨_, rfl, ?_⟩
  have hN := hN1.out
  subst hN
  have b1 : Below w.heap.size w w1 := (hB.alloc hB.size _).grown hR.2 (by simp; have := hB.size; omega) (fun k hk => by simp at hk; subst hk; exact hO.lt.1)
  have L1 := hL.below b1 (Nat.le_refl _)
  obtain ⟨g', cap', w', h1, h2, h3⟩ := hR.1.appendB b1.size (s := a') (m := n) (c := c') (ys := (List.range n).map fun i => ((z (off + i) : Nat) : Int)) ⟨by simp, fun h0 => by
    obtain ⟨b, o, e, _, hc⟩ := L1.spot h0
    exact ⟨b, o, e, fun j hj => by rw [hc j hj]; simp [hj]⟩⟩ (by simp; omega)
  exact ⟨g', cap', w', h1, h2, b1.grown h3 b1.size (fun k hk => by simp at hk; subst hk; exact hR.1.lt.1)⟩

set_option maxRecDepth 100000 in
set_option maxHeartbeats 1600000 in
theorem stored_go (a : Option Addr) (len cap : Nat) (z : Nat → Nat) (w : World) (h : Lies w a len cap z) (hl : len ≤ 140737488351232) :
    Calls Tryd.prog 14 #[.slice a len cap] w fun e w' => ∃ g c, e = .returned (.slice (some ⟨g, 0, none⟩) (stL z len 0).length c) ∧ Own w' w.heap.size 5 .u8 g c (stL z len 0) ∧ Below w.heap.size w w' := by
  obtain ⟨M, hM⟩ : ∃ M : Nat, (len : Int) + 5 * ((len : Int) / 65535 + 1) = M := ⟨len + 5 * (len / 65535 + 1), by omega⟩
  have hM2 : M ≤ 149000000000000 := by omega
  have hmk := make22c M (by omega)
  have bw : Below w.heap.size w (w.alloc (.cells (arr M fun _ => .int .u8 0) 5)) := (Below.refl _ _).alloc (Nat.le_refl _) _
  have hO0 := own_made8 w w.heap.size M (Nat.le_refl _) (by omega)
  go_enter Tryd.func14, Tryd.ntmps14
  go_wp2_with fail
  go_loopw [0, 3, 4] (fun sb so l wq => ∃ (d : Bool) (g c : Nat) (acc : List Int), l = .bool d ∧ so = .slice (some ⟨g, 0, none⟩) acc.length c ∧ Own wq w.heap.size 5 .u8 g c acc ∧ Below w.heap.size w wq ∧
      (if d = true then acc = stL z len 0 else ∃ (a' : Option Addr) (l' c' off : Nat), sb = .slice a' l' c' ∧ off + l' = len ∧ Lies w a' l' c' (fun i => z (off + i)) ∧ acc ++ stL z len off = stL z len 0 ∧ 13107 * acc.length ≤ 13108 * off)) (fun sb _ l _ => stM sb l)
  case atStart => exact ⟨false, w.heap.size, M, [], rfl, rfl, hO0, bw, by rw [if_neg (by simp)]; exact ⟨a, len, cap, 0, rfl, by omega, by simpa using h, by simp, by simp⟩⟩
  case round =>
    clear bw hO0 hmk
    obtain ⟨d, g, c, acc, rfl, rfl, hO, hB, hr⟩ := hrel
    cases d with
    | true =>
      rw [if_pos rfl] at hr
      have HR : Hid (acc = stL z len 0) := hr
      clear hr
      go_wp2
      go_ret
      exact ⟨g, c, by rw [← HR.out]; rfl, by rw [← HR.out]; exact hO, hB⟩
    | false =>
      rw [if_neg (by simp)] at hr
      obtain ⟨a', l', c', off, rfl, hoff, hL, hst, hal⟩ := hr
      have hlc := hL.lc
      by_cases hbig : 65535 < l'
      · have hbig' : (65535 : Int) < l' := by omega
        have hne : ¬ (65535 : Int) = l' := by omega
        obtain ⟨ab, ao, rfl, hab, hcl⟩ := hL.spot (by omega)
        have hL1 : Lies w (some ⟨ab, ao, none⟩) 65535 c' (fun i => z (off + i)) := ⟨by omega, by omega, hL.byte, fun _ => ⟨ab, ao, rfl, hab, fun i hi => hcl i (by omega)⟩⟩
        have hL2 : Lies w (some ⟨ab, ao + 65535, none⟩) (l' - 65535) (c' - 65535) (fun i => z (off + 65535 + i)) := ⟨by omega, by have := hL.reach; omega, fun i => by have := hL.byte (65535 + i); rwa [← Nat.add_assoc] at this, fun _ => ⟨ab, ao + 65535, rfl, hab, fun i hi => by have := hcl (65535 + i) (by omega); rwa [← Nat.add_assoc, ← Nat.add_assoc] at this⟩⟩
        have hoff' : Hid (off + l' = len) := hoff
        have HST : Hid (acc ++ stL z len off = stL z len 0) := hst
        obtain ⟨N1, hN1, HAP⟩ := sto_first hO hB 0 255 255 (bits .xor .u8 IntKind.u8.max 255) (bits .xor .u8 IntKind.u8.max 255) (by omega)
        have H2 := fun g1 c1 w1 h => sto_second hB hO hL1 0 255 255 (bits .xor .u8 IntKind.u8.max 255) (bits .xor .u8 IntKind.u8.max 255) (by omega) N1 hN1 g1 c1 w1 h
        have Q5 : Hid (bits .xor .u8 IntKind.u8.max 255 = ((255 - 255 : Nat) : Int)) := not8 255 (by omega)
        have HL2 : Hid (Lies w (some ⟨ab, ao + 65535, none⟩) (l' - 65535) (c' - 65535) (fun i => z (off + 65535 + i))) := hL2
        have EQ : Hid (acc ++ [0, 255, 255, bits .xor .u8 IntKind.u8.max 255, bits .xor .u8 IntKind.u8.max 255] ++ ((List.range 65535).map fun i => ((z (off + i) : Nat) : Int)) ++ stL z len (off + 65535) = stL z len 0) := by
          show _ = _
          rw [← HST.out, stL_more z (off := off) (by have := hoff'.out; omega)]
          unfold blkL
          rw [Q5.out]
          simp only [List.append_assoc]
          rfl
        have HAL : Hid (13107 * acc.length ≤ 13108 * off) := hal
        clear hoff hst hO hL hL1 hL2 hcl hal
        go_wp2_with (first
          | (at_builtin; refine wpList_append_ex rfl (.tmp 33) (.tmp 41) 23 rfl rfl rfl HAP.out ?_; rintro g1 c1 w1 hR1; obtain ⟨N2, hN2, HA2⟩ := H2 g1 c1 w1 hR1; clear hR1)
          | (at_builtin; refine wpList_append_ex rfl (.tmp 43) (.tmp 46) 23 rfl rfl rfl HA2.out ?_; rintro g2 c2 w2 hR2; have HR2 : Hid (_) := hR2; clear hR2))
        refine ⟨⟨false, g2, c2, _, rfl, ?_, HR2.out.1, HR2.out.2, ?_⟩, ?_⟩
        · rw [hN2.out]
        · rw [if_neg (by simp)]
          exact ⟨_, _, _, off + 65535, rfl, by have := hoff'.out; omega, HL2.out, EQ.out, by have := HAL.out; simp; omega⟩
        · simp [stM]; omega
      · have hbig' : ¬ (65535 : Int) < l' := by omega
        obtain ⟨lo, hlo⟩ : ∃ lo : Nat, Hid (l' % 256 = lo) := ⟨_, rfl⟩
        obtain ⟨hi, hhi⟩ : ∃ hi : Nat, Hid (l' / 256 = hi) := ⟨_, rfl⟩
        have q1 : (l' : Int) % 256 = (lo : Nat) := by have := hlo.out; omega
        have Q1 : Hid ((l' : Int) % 256 = (lo : Nat)) := q1
        have q2 : (l' : Int) / 256 = (hi : Nat) := by have := hhi.out; omega
        have q3 : lo < 256 := by have := hlo.out; omega
        have q4 : hi < 256 := by have := hhi.out; omega
        have q5 := not8 lo q3
        have q6 := not8 hi q4
        obtain ⟨nlo, hnlo⟩ : ∃ n : Nat, Hid (255 - lo = n) := ⟨_, rfl⟩
        obtain ⟨nhi, hnhi⟩ : ∃ n : Nat, Hid (255 - hi = n) := ⟨_, rfl⟩
        rw [hnlo.out, ← q1] at q5
        rw [hnhi.out] at q6
        have Q5 : Hid (bits .xor .u8 IntKind.u8.max ((l' : Int) % 256) = ((nlo : Nat) : Int)) := q5
        have Q6 : Hid (bits .xor .u8 IntKind.u8.max ((hi : Nat) : Int) = ((nhi : Nat) : Int)) := q6
        clear q1 q5 q6
        have hoff' : Hid (off + l' = len) := hoff
        have HST : Hid (acc ++ stL z len off = stL z len 0) := hst
        obtain ⟨N1, hN1, HAP⟩ := sto_first hO hB 1 ((l' : Int) % 256) (hi : Nat) (bits .xor .u8 IntKind.u8.max ((l' : Int) % 256)) (bits .xor .u8 IntKind.u8.max ((hi : Nat) : Int)) (by omega)
        have H2 := fun g1 c1 w1 h => sto_second hB hO hL 1 ((l' : Int) % 256) (hi : Nat) (bits .xor .u8 IntKind.u8.max ((l' : Int) % 256)) (bits .xor .u8 IntKind.u8.max ((hi : Nat) : Int)) (by omega) N1 hN1 g1 c1 w1 h
        obtain ⟨a1, ha1⟩ : ∃ a1, a' = a1 := ⟨_, rfl⟩
        have hbound : acc.length ≤ 149000000000000 := by omega
        have hl2 : len ≤ 140737488351232 := hl
        clear hoff hst hO hal
        have DONE : ∀ (g2 c2 : Nat) (w2 : World), Own w2 w.heap.size 5 .u8 g2 c2 (acc ++ [1, (l' : Int) % 256, ((hi : Nat) : Int), bits .xor .u8 IntKind.u8.max ((l' : Int) % 256), bits .xor .u8 IntKind.u8.max ((hi : Nat) : Int)] ++ (List.range l').map fun i => ((z (off + i) : Nat) : Int)) → Own w2 w.heap.size 5 .u8 g2 c2 (stL z len 0) := fun g2 c2 w2 hh => by
          rw [← HST.out, stL_last z (by have := hoff'.out; omega), show len - off = l' by have := hoff'.out; omega]
          unfold blkL
          rw [hlo.out, hhi.out, hnlo.out, hnhi.out, ← Q5.out, ← Q6.out, ← Q1.out, ← List.append_assoc]
          exact hh
        have LEN : Hid ((acc ++ [1, (l' : Int) % 256, ((hi : Nat) : Int), bits .xor .u8 IntKind.u8.max ((l' : Int) % 256), bits .xor .u8 IntKind.u8.max ((hi : Nat) : Int)] ++ (List.range l').map fun i => ((z (off + i) : Nat) : Int)).length = (stL z len 0).length) := by
          show _ = _
          rw [← HST.out, stL_last z (by have := hoff'.out; omega), show len - off = l' by have := hoff'.out; omega]
          unfold blkL
          rw [hlo.out, hhi.out, hnlo.out, hnhi.out, ← Q5.out, ← Q6.out, ← Q1.out, ← List.append_assoc]; rfl
        rcases Nat.eq_zero_or_pos l' with h0 | h0
        · have HZ : Hid (l' = 0) := h0
          clear h0
          rcases a1 with _ | ad
          · subst ha1
            go_wp2_with (first
              | (at_builtin; refine wpList_append_ex rfl (.tmp 33) (.tmp 41) 23 rfl rfl rfl HAP.out ?_; rintro g1 c1 w1 hR1; obtain ⟨N2, hN2, HA2⟩ := H2 g1 c1 w1 hR1; clear hR1)
              | (at_builtin; refine wpList_append_ex rfl (.tmp 43) (.tmp 46) 23 rfl rfl rfl HA2.out ?_; rintro g2 c2 w2 hR2; have HR2 : Hid (_) := hR2; clear hR2))
            refine ⟨⟨true, g2, c2, stL z len 0, rfl, ?_, DONE g2 c2 w2 HR2.out.1, HR2.out.2, by rw [if_pos rfl]⟩, by simp [stM]⟩
            rw [hN2.out, LEN.out]
          · subst ha1
            go_wp2_with (first
              | (at_builtin; refine wpList_append_ex rfl (.tmp 33) (.tmp 41) 23 rfl rfl rfl HAP.out ?_; rintro g1 c1 w1 hR1; obtain ⟨N2, hN2, HA2⟩ := H2 g1 c1 w1 hR1; clear hR1)
              | (at_builtin; refine wpList_append_ex rfl (.tmp 43) (.tmp 46) 23 rfl rfl rfl HA2.out ?_; rintro g2 c2 w2 hR2; have HR2 : Hid (_) := hR2; clear hR2))
            refine ⟨⟨true, g2, c2, stL z len 0, rfl, ?_, DONE g2 c2 w2 HR2.out.1, HR2.out.2, by rw [if_pos rfl]⟩, by simp [stM]⟩
            rw [hN2.out, LEN.out]
        · obtain ⟨ab, ao, e, hab, _⟩ := hL.spot h0
          subst e
          clear ha1
          go_wp2_with (first
            | (at_builtin; refine wpList_append_ex rfl (.tmp 33) (.tmp 41) 23 rfl rfl rfl HAP.out ?_; rintro g1 c1 w1 hR1; obtain ⟨N2, hN2, HA2⟩ := H2 g1 c1 w1 hR1; clear hR1)
            | (at_builtin; refine wpList_append_ex rfl (.tmp 43) (.tmp 46) 23 rfl rfl rfl HA2.out ?_; rintro g2 c2 w2 hR2; have HR2 : Hid (_) := hR2; clear hR2))
          refine ⟨⟨true, g2, c2, stL z len 0, rfl, ?_, DONE g2 c2 w2 HR2.out.1, HR2.out.2, by rw [if_pos rfl]⟩, by simp [stM]⟩
          rw [hN2.out, LEN.out]
end Go.Proofs.YtahibacjaoohiaaDoor
