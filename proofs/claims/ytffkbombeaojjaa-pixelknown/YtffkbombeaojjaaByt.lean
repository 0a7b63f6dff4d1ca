/-
  Rows of bytes that the call owns; lists of pixels; Bytes of both sides, as contracts.
-/
import Derived.Test.YtffkbombeaojjaaPxd
import Derived.OwnWalk
import Derived.Deep.MidRow
namespace Go.Proofs.Ytffkbombeaojjaa
open Go.RowKit

/-- The slice v holds the bytes xs, and nobody else has it. -/
def OwnV (w : World) (base : Nat) (v : Value) (xs : List Int) : Prop := w.ownsRow base 5 1 v xs.length (xs.map fun x => .int .u8 x)
theorem ownv_nil (w : World) (base : Nat) : OwnV w base (.slice none 0 0) [] := World.ownsRow_nil w base 5 1
theorem OwnV.form {w : World} {base : Nat} {v : Value} {xs : List Int} (h : OwnV w base v xs) : ∃ a cap, v = .slice a xs.length cap := by
  rcases h.2 with ⟨hv, h0⟩ | ⟨g, cap, cur, hv, _⟩
  · rw [h0]; exact ⟨none, 0, hv⟩
  · exact ⟨_, _, hv⟩
theorem OwnV.blk {w w' : World} {base : Nat} {v : Value} {xs : List Int} (h : OwnV w base v xs) (hb : ∀ g, v.ownBlock = some g → w'.heap[g]? = w.heap[g]?) : OwnV w' base v xs := by
  refine ⟨h.1, ?_⟩
  rcases h.2 with h' | ⟨g, cap, cur, rfl, h1, h2, h3⟩
  · exact .inl h'
  · exact .inr ⟨g, cap, cur, rfl, h1, (hb g rfl).trans h2, h3⟩
theorem OwnV.below {w w' : World} {base : Nat} {v : Value} {xs : List Int} (h : OwnV w base v xs) (hb : Below w.heap.size w w') : OwnV w' base v xs :=
  World.ownsRow.kept (row := none) h ⟨hb.os, hb.tape, hb.output, hb.size, fun k hk _ => hb.block k hk⟩ (by cases v.ownBlock <;> simp)
theorem OwnV.kept {S : Nat → Prop} {w w' : World} {base : Nat} {v : Value} {xs : List Int} (h : OwnV w base v xs) (hb : Kept S w w') (hS : ∀ g, g < w.heap.size → ¬ S g) : OwnV w' base v xs :=
  h.blk fun g hg => hb.block g (World.ownsRow.lt h g hg).2 (hS g (World.ownsRow.lt h g hg).2)
theorem OwnV.made {w w' : World} {base n : Nat} (hb : base ≤ w.heap.size) (hn : n ≤ 1000000) (hw : w' = w.alloc (.cells (madeCells #[.int .u8 0] n) 5)) : OwnV w' base (.slice (some ⟨w.heap.size, 0, none⟩) 0 n) [] := by
  subst hw
  exact World.ownsRow_made w (madeCells #[.int .u8 0] n) n hb (by unfold maxLen; omega) (by rw [made_arr, arr_size, Nat.mul_one])
/-- append of some. -/
theorem OwnV.append {w : World} {base : Nat} {v : Value} {xs : List Int} (h : OwnV w base v xs) (hbase : base ≤ w.heap.size) {B : Nat} {ys : List Int} (hB : w.heap[B]? = some (.cells (ys.map fun x => Value.int .u8 x).toArray 5)) (h0 : 0 < ys.length) (hy : ys.length ≤ 1000) (hlen : xs.length ≤ 100000) :
    ∃ g' cap' w', (Builtin.append_ #[30, 30] 30 #[v, .slice (some ⟨B, 0, none⟩) ys.length ys.length]).run Try.prog w = .ok (.slice (some ⟨g', 0, none⟩) (xs.length + ys.length) cap') w' ∧ (OwnV w' base (.slice (some ⟨g', 0, none⟩) (xs.length + ys.length) cap') (xs ++ ys) ∧ w.grownBy w' v.ownBlock) := by
  obtain ⟨i, hi', h1, h2, h3⟩ := info_of info5
  obtain ⟨g', cap', w', hr, ho, hg, _, _⟩ := run_append_lies (P := Try.prog) w 30 30 base 5 i (.int .u8 0) 1 1 Try.underlying30 hi' h1 h3 h2 rfl (by omega) v xs.length _ h ⟨B, 0, none⟩ ys.length ys.length (ys.map fun x => Value.int .u8 x) (by simp)
    (fun j u hj => by
      rw [add_none, Nat.zero_add, blk_cell hB]
      simpa using hj)
    (by intro u hu; obtain ⟨y, _, rfl⟩ := List.mem_map.1 hu; rfl) h0 (by unfold maxLen; omega) (by omega) hbase w.heap.size rfl
  refine ⟨g', cap', w', hr, ?_, hg⟩
  unfold OwnV
  rw [List.length_append, List.map_append]
  exact ho
def zb (bs : List Int) (q : Nat) : Nat := (bs.getD q 0).toNat
theorem OwnV.str {w : World} {base : Nat} {v : Value} {bs : List Int} (h : OwnV w base v bs) (hb : ∀ x ∈ bs, 0 ≤ x ∧ x ≤ 255) (hl : bs.length ≤ 10000) : (convert 30 9 v).run Try.prog w = .ok (.string (bstr (zb bs) bs.length)) w := by
  have hbz : ∀ q, zb bs q < 256 := fun q => by
    unfold zb
    rw [List.getD_eq_getElem?_getD]
    cases e : bs[q]? with
    | none => simp
    | some y => have := hb y (List.mem_of_getElem? e); simp; omega
  rcases h.2 with ⟨hv, h0⟩ | ⟨g, cap, cur, hv, _, hg, hlc, _⟩
  · subst hv
    have : bs = [] := List.length_eq_zero_iff.1 h0
    subst this
    exact conv_string (Lies.none w _ hbz)
  · subst hv
    refine conv_string ⟨hlc, by omega, hbz, fun _ => ⟨g, 0, rfl, blk_lt hg, fun i hi => ?_⟩⟩
    rw [Nat.zero_add, World.ownsRow.cellAt h i (by omega)]
    have hx := hb (bs.getD i 0) (by rw [List.getD_eq_getElem?_getD, List.getElem?_eq_getElem hi]; exact List.getElem_mem hi)
    unfold zb
    rw [Int.toNat_of_nonneg hx.1]
    simp [hi]

/-- Pixels that lie in a block, by an index function. -/
def PxAt (w : World) (G n : Nat) (L : Nat → Px) : Prop := ∀ i, i < n → w.rangeAt G (i * 4) [.int .i64 (L i).r, .int .i64 (L i).g, .int .i64 (L i).b, .int .i64 (L i).a]
theorem PxAt.below {w w' : World} {G n B : Nat} {L : Nat → Px} (h : PxAt w G n L) (hb : Below B w w') (hG : G < B) : PxAt w' G n L := fun i hi j v hv => by
  rw [World.cell?_of_block (a := ⟨G, i * 4 + j, none⟩) (hb.block G hG)]
  exact h i hi j v hv
def pb (p : Px) : List Int := [(ownv p).r, (ownv p).g, (ownv p).b, (ownv p).a]
def bl (L : Nat → Px) : Nat → List Int
  | 0 => []
  | i + 1 => bl L i ++ pb (L i)
theorem bl_len (L : Nat → Px) : ∀ n, (bl L n).length = 4 * n
  | 0 => rfl
  | n + 1 => by show (bl L n ++ pb (L n)).length = _; rw [List.length_append, bl_len L n]; rfl
theorem bl_bd (L : Nat → Px) : ∀ n, ∀ x ∈ bl L n, 0 ≤ x ∧ x ≤ 255
  | 0, x, h => by simp [bl] at h
  | n + 1, x, h => by
    have hr := ownv_rt (L n)
    rcases List.mem_append.1 h with h | h
    · exact bl_bd L n x h
    · simp only [pb, List.mem_cons, List.not_mem_nil, or_false] at h
      rcases h with rfl | rfl | rfl | rfl
      · exact ⟨hr.r0, hr.r1⟩
      · exact ⟨hr.g0, hr.g1⟩
      · exact ⟨hr.b0, hr.b1⟩
      · exact ⟨hr.a0, hr.a1⟩
theorem make30' (n : Nat) (hn : n ≤ 1000000) (W : World) : (Instr.makeSlice 30 (.int .i64 0) (.int .i64 n)).run Try.prog W = .ok (.slice (some ⟨W.heap.size, 0, none⟩) 0 n) (W.alloc (.cells (madeCells #[.int .u8 0] n) 5)) := by
  obtain ⟨i, hi, h1, h2, h3⟩ := info_of info5
  have h := run_make (P := Try.prog) W 30 5 i (.int .u8 0) Try.underlying30 hi h1 .i64 .i64 0 n (by omega) (by omega) (by rw [h2]; omega) (by omega)
  rw [h, h3, Int.toNat_natCast, Nat.mul_one]
  rfl
/-- What Bytes tells. -/
def BytesR (L : Nat → Px) (n : Nat) (w : World) (e : Ending) (w' : World) : Prop := ∃ v, e = .returned v ∧ OwnV w' w.heap.size v (bl L n) ∧ Below w.heap.size w w'

/-- The builtin append at a plain region's list, where what it does is known. -/
theorem wpList_append_ex {P : Program} {w : World} {ops : Array Oper} {rest : List Oper} {o : Oper} {a : Act} {Q : Exit → Act → World → Prop} (hgd : o.guard = none) (s x : Operand) (t : TypeId)
    (ho : o.op = .call { callee := .builtin .append, args := #[s, x], argTypes := #[t, t] }) {v1 v2 : Value} {R : Nat → Nat → World → Prop} {n : Nat} (hs : a.eval s = v1) (hx : a.eval x = v2)
    (hrun : ∃ g' cap' w', (Builtin.append_ #[t, t] o.type #[v1, v2]).run P w = .ok (.slice (some ⟨g', 0, none⟩) n cap') w' ∧ R g' cap' w')
    (h : ∀ g' cap' w', R g' cap' w' → wpList P ops Q rest (a.put o.dst (.slice (some ⟨g', 0, none⟩) n cap')) w') : wpList P ops Q (o :: rest) a w := by
  obtain ⟨g', cap', w', hr, hR⟩ := hrun
  refine wpList_plain hgd fun K hK => ?_
  unfold Oper.wp execOp
  simp only [ho, resolve, invoke, builtin, Sem.run_bind, Sem.run_pure, Result.andThen_ok, List.map_toArray, List.map_cons, List.map_nil, hs, hx, hr]
  exact hK _ _ (h g' cap' w' hR)

set_option maxRecDepth 100000 in
set_option maxHeartbeats 3200000 in
theorem bytes_any (G n : Nat) (L : Nat → Px) (hn : n ≤ 1000) (w : World) (hG : G < w.heap.size) (hL : PxAt w G n L) : Calls Try.prog 14 #[.slice (some ⟨G, 0, none⟩) n n] w (BytesR L n w) := by
  have hmk : (Instr.makeSlice 30 (.int .i64 0) (.int .i64 (4 * (n : Int)))).run Try.prog w = .ok (.slice (some ⟨w.heap.size, 0, none⟩) 0 (4 * n)) (w.alloc (.cells (madeCells #[.int .u8 0] (4 * n)) 5)) := by
    have := make30' (4 * n) (by omega) w
    simpa using this
  obtain ⟨w0, hw0⟩ : ∃ w0, w0 = w.alloc (.cells (madeCells #[.int .u8 0] (4 * n)) 5) := ⟨_, rfl⟩
  rw [← hw0] at hmk
  have hO : OwnV w0 w.heap.size (.slice (some ⟨w.heap.size, 0, none⟩) 0 (4 * n)) [] := OwnV.made (Nat.le_refl _) (by omega) hw0
  have hB : Below w.heap.size w w0 := by rw [hw0]; exact (Below.refl _ w).alloc (Nat.le_refl _) _
  clear hw0
  go_enter Try.func14, Try.ntmps14
  go_wp2_with fail
  go_loopw [3, 12] (fun r v wq => ∃ m : Nat, m ≤ n ∧ v = .int .i64 (m : Nat) ∧ OwnV wq w.heap.size r (bl L m) ∧ Below w.heap.size w wq) (fun _ v _ => n - (intOf v).toNat)
  case atStart => exact ⟨0, by omega, rfl, hO, hB⟩
  case round =>
    clear hO hB hmk
    obtain ⟨m, hm, rfl, hO, hB⟩ := hrel
    by_cases hmn : m < n
    · have hm' : (m : Int) < n := by omega
      have hRG := hL.below hB hG m hmn
      obtain ⟨bs, hbs⟩ : ∃ bs, Hid (bl L m = bs) := ⟨_, rfl⟩
      have hlen : bs.length ≤ 4000 := by rw [← hbs.out, bl_len]; omega
      rw [hbs.out] at hO
      obtain ⟨ua, uc, rfl⟩ := hO.form
      have hsz := hB.size
      have hrt := ownv_rt (L m)
      obtain ⟨o, ho⟩ : ∃ o, ownv (L m) = o := ⟨_, rfl⟩
      rw [ho] at hrt
      have HO : Hid (ownv (L m) = o) := ho
      clear ho
      have hlt : ∀ g, (Value.slice ua bs.length uc).ownBlock = some g → g < wr.heap.size := fun g hg => (World.ownsRow.lt hO g hg).2
      go_wp2_with (refine wpList_load_mid (by rfl) 23 _ (by rfl) G (m * 4) (by rfl) _ _ hRG Try.underlying23 rfl (by kernel_rfl) ?_)
      refine (righted_any (L m) _).mono ?_
      rintro e w2 ⟨rfl, hb⟩
      have B1 := hB.alloc hsz (pblk (L m))
      have g1 := Below.blk hb (blk_new wr (pblk (L m))) (by simp)
      have O1 := hO.below ((Below.refl _ wr).alloc (Nat.le_refl _) (pblk (L m)))
      have O2 := O1.below hb
      have B2 := B1.trans (hb.mono B1.size)
      clear hb
      obtain ⟨W, hW⟩ : ∃ W, W = w2.setRow wr.heap.size (pcs o) := ⟨_, rfl⟩
      have k1 : W.heap[wr.heap.size]? = some (pblk o) := by rw [hW]; exact setRow_heap _ _ _ _ _ _ g1
      have O3 : OwnV W w.heap.size (.slice ua bs.length uc) bs := O2.blk fun g hg => by rw [hW]; exact setRow_other _ _ _ _ (by have := hlt g hg; omega)
      have B3 : Below w.heap.size w W := by rw [hW]; exact below_row B2 hsz _
      have HW : Hid (W = _) := hW
      clear hW B1 B2 hO O1 O2 hB
      obtain ⟨c0, c1, c2, c3⟩ := px_cells k1
      have hr0 := hrt.r0
      have hr1 := hrt.r1
      have hg0 := hrt.g0
      have hg1 := hrt.g1
      have hb0 := hrt.b0
      have hb1 := hrt.b1
      have ha0 := hrt.a0
      have ha1 := hrt.a1
      have hWs := B3.size
      have B4 := B3.alloc hWs (.cells #[.int .u8 o.r, .int .u8 o.g, .int .u8 o.b, .int .u8 o.a] 5)
      have O4 := O3.below ((Below.refl _ W).alloc (Nat.le_refl _) (.cells #[.int .u8 o.r, .int .u8 o.g, .int .u8 o.b, .int .u8 o.a] 5))
      have HAP := O4.append (B := W.heap.size) (ys := [o.r, o.g, o.b, o.a]) B4.size (blk_new W _) (by simp) (by simp) (by omega)
      have HAPH : Hid (_) := HAP
      have HG : ∀ k, (Value.slice ua bs.length uc).ownBlock = some k → w.heap.size ≤ k := fun k hk => (World.ownsRow.lt O4 k hk).1
      clear HAP O3 O4 hRG k1
      go_wp2_with (first
        | (refine store_px' o HW g1 rfl _ _ (by rfl) (by rfl) (by rfl) (by rw [← HO.out]; rfl) ?_)
        | (at_builtin; refine wpList_append_ex rfl (.tmp 18) (.tmp 31) 30 rfl rfl rfl HAPH.out ?_; rintro g' c' w' hR'; have HR' : Hid (_) := hR'; clear hR'))
      refine ⟨⟨m + 1, by omega, by go_num, ?_, ?_⟩, by simp [intOf]; omega⟩
      · show OwnV _ _ _ (bl L m ++ pb (L m))
        unfold pb
        rw [hbs.out, HO.out]
        exact HR'.out.1
      · exact B4.grown HR'.out.2 B4.size HG
    · obtain rfl : m = n := by omega
      have hm' : ¬ (m : Int) < m := by omega
      go_wp2
      go_ret
      exact ⟨_, rfl, hO, hB⟩

set_option maxRecDepth 100000 in
set_option maxHeartbeats 3200000 in
theorem rbytes_any (G n : Nat) (L : Nat → Px) (hn : n ≤ 1000) (w : World) (hG : G < w.heap.size) (hL : PxAt w G n L) : Calls Try.prog 27 #[.slice (some ⟨G, 0, none⟩) n n] w (BytesR L n w) := by
  go_enter Try.func27, Try.ntmps27
  go_wp2_with fail
  go_loopw [3, 4] (fun r v wq => ∃ m : Nat, m ≤ n ∧ v = .int .i64 (m : Nat) ∧ OwnV wq w.heap.size r (bl L m) ∧ Below w.heap.size w wq) (fun _ v _ => n - (intOf v).toNat)
  case atStart => exact ⟨0, by omega, rfl, ownv_nil _ _, Below.refl _ _⟩
  case round =>

    obtain ⟨m, hm, rfl, hO, hB⟩ := hrel
    by_cases hmn : m < n
    · have hm' : (m : Int) < n := by omega
      have hRG := hL.below hB hG m hmn
      obtain ⟨bs, hbs⟩ : ∃ bs, Hid (bl L m = bs) := ⟨_, rfl⟩
      have hlen : bs.length ≤ 4000 := by rw [← hbs.out, bl_len]; omega
      rw [hbs.out] at hO
      obtain ⟨ua, uc, rfl⟩ := hO.form
      have hsz := hB.size
      have hrt := ownv_rt (L m)
      obtain ⟨o, ho⟩ : ∃ o, ownv (L m) = o := ⟨_, rfl⟩
      rw [ho] at hrt
      have HO : Hid (ownv (L m) = o) := ho
      clear ho
      have hlt : ∀ g, (Value.slice ua bs.length uc).ownBlock = some g → g < wr.heap.size := fun g hg => (World.ownsRow.lt hO g hg).2
      go_wp2_with (refine wpList_load_mid (by rfl) 23 _ (by rfl) G (m * 4) (by rfl) _ _ hRG Try.underlying23 rfl (by kernel_rfl) ?_)
      refine (rown_any (L m) _).mono ?_
      rintro e w2 ⟨rfl, hb⟩
      rw [HO.out]
      have B1 := hB
      have O1 := hO
      have O2 := O1.below hb
      have B2 := B1.trans (hb.mono B1.size)
      clear hb
      obtain ⟨W, hW⟩ : ∃ W, W = w2.alloc (pblk o) := ⟨_, rfl⟩
      have k1 : W.heap[w2.heap.size]? = some (pblk o) := by rw [hW]; exact blk_new _ _
      have O3 : OwnV W w.heap.size (.slice ua bs.length uc) bs := by rw [hW]; exact O2.below ((Below.refl _ w2).alloc (Nat.le_refl _) _)
      have B3 : Below w.heap.size w W := by rw [hW]; exact B2.alloc B2.size _
      have HW : Hid (W = w2.alloc (.cells #[.int .i64 o.r, .int .i64 o.g, .int .i64 o.b, .int .i64 o.a] 23)) := hW
      clear hW B1 B2 hO O1 O2 hB
      obtain ⟨c0, c1, c2, c3⟩ := px_cells k1
      have hr0 := hrt.r0
      have hr1 := hrt.r1
      have hg0 := hrt.g0
      have hg1 := hrt.g1
      have hb0 := hrt.b0
      have hb1 := hrt.b1
      have ha0 := hrt.a0
      have ha1 := hrt.a1
      have hWs := B3.size
      have B4 := B3.alloc hWs (.cells #[.int .u8 o.r, .int .u8 o.g, .int .u8 o.b, .int .u8 o.a] 5)
      have O4 := O3.below ((Below.refl _ W).alloc (Nat.le_refl _) (.cells #[.int .u8 o.r, .int .u8 o.g, .int .u8 o.b, .int .u8 o.a] 5))
      have HAP := O4.append (B := W.heap.size) (ys := [o.r, o.g, o.b, o.a]) B4.size (blk_new W _) (by simp) (by simp) (by omega)
      have HAPH : Hid (_) := HAP
      have HG : ∀ k, (Value.slice ua bs.length uc).ownBlock = some k → w.heap.size ≤ k := fun k hk => (World.ownsRow.lt O4 k hk).1
      clear HAP O3 O4 hRG k1
      go_wp2_with (first
        | (rw [← HW.out])
        | (at_builtin; refine wpList_append_ex rfl (.tmp 17) (.tmp 30) 30 rfl rfl rfl HAPH.out ?_; rintro g' c' w' hR'; have HR' : Hid (_) := hR'; clear hR'))
      refine ⟨⟨m + 1, by omega, by go_num, ?_, ?_⟩, by simp [intOf]; omega⟩
      · show OwnV _ _ _ (bl L m ++ pb (L m))
        unfold pb
        rw [hbs.out, HO.out]
        exact HR'.out.1
      · exact B4.grown HR'.out.2 B4.size HG
    · obtain rfl : m = n := by omega
      have hm' : ¬ (m : Int) < m := by omega
      go_wp2
      go_ret
      exact ⟨_, rfl, hO, hB⟩

end Go.Proofs.Ytffkbombeaojjaa
