/-
  Bytes of two pixels, as text; PixelKnown's and PixelParts' own walks.
-/
import Derived.Test.YtffkbombeaojjaaMis
import Derived.Test.YtffkbombeaojjaaHeld
namespace Go.Proofs.Ytffkbombeaojjaa
open Go.RowKit

def L2 (p q : Px) (i : Nat) : Px := if i = 0 then p else q
theorem at2 {w : World} {G : Nat} {p q : Px} (h : w.heap[G]? = some (.cells #[.int .i64 p.r, .int .i64 p.g, .int .i64 p.b, .int .i64 p.a, .int .i64 q.r, .int .i64 q.g, .int .i64 q.b, .int .i64 q.a] 23)) : PxAt w G 2 (L2 p q) := by
  intro i hi j v hv
  rw [blk_cell h]
  have hj : j < 4 := by have := (List.getElem?_eq_some_iff.1 hv).1; simpa using this
  rcases (show i = 0 ∨ i = 1 by omega) with rfl | rfl <;> rcases (show j = 0 ∨ j = 1 ∨ j = 2 ∨ j = 3 by omega) with rfl | rfl | rfl | rfl <;> exact hv
def str2 (p q : Px) : ByteArray := bstr (zb (bl (L2 p q) 2)) 8
/-- What Bytes of two pixels tells. -/
def Str2 (p q : Px) (w : World) (e : Ending) (w' : World) : Prop := ∃ a c, e = .returned (.slice a 8 c) ∧ (∀ W, Below w'.heap.size w' W → (convert 30 9 (.slice a 8 c)).run Try.prog W = .ok (.string (str2 p q)) W) ∧ Below w.heap.size w w'
theorem str2_of {p q : Px} {w : World} {e : Ending} {w' : World} (h : BytesR (L2 p q) 2 w e w') : Str2 p q w e w' := by
  obtain ⟨v, rfl, hO, hb⟩ := h
  have hs : ∀ W, Below w'.heap.size w' W → (convert 30 9 v).run Try.prog W = .ok (.string (bstr (zb (bl (L2 p q) 2)) (bl (L2 p q) 2).length)) W := fun W hW => (hO.below hW).str (bl_bd _ 2) (by rw [bl_len]; omega)
  obtain ⟨a, c, rfl⟩ := hO.form
  rw [bl_len] at hs ⊢
  exact ⟨a, c, rfl, hs, hb⟩
theorem bytes2 (p q : Px) (G : Nat) (w : World) (h : w.heap[G]? = some (.cells #[.int .i64 p.r, .int .i64 p.g, .int .i64 p.b, .int .i64 p.a, .int .i64 q.r, .int .i64 q.g, .int .i64 q.b, .int .i64 q.a] 23)) : Calls Try.prog 14 #[.slice (some ⟨G, 0, none⟩) 2 2] w (Str2 p q w) :=
  (bytes_any G 2 (L2 p q) (by omega) w (blk_lt h) (at2 h)).mono fun _ _ h => str2_of h
theorem rbytes2 (p q : Px) (G : Nat) (w : World) (h : w.heap[G]? = some (.cells #[.int .i64 p.r, .int .i64 p.g, .int .i64 p.b, .int .i64 p.a, .int .i64 q.r, .int .i64 q.g, .int .i64 q.b, .int .i64 q.a] 23)) : Calls Try.prog 27 #[.slice (some ⟨G, 0, none⟩) 2 2] w (Str2 p q w) :=
  (rbytes_any G 2 (L2 p q) (by omega) w (blk_lt h) (at2 h)).mono fun _ _ h => str2_of h

set_option maxRecDepth 100000 in
set_option maxHeartbeats 3200000 in
theorem pixelKnown_walk (w : World) : Calls Try.prog 3 #[] w fun e w' => e = .returned (.bool true) ∧ Below w.heap.size w w' := by
  have hnot : ∀ (x : Bool) (w : World), (Op.unary .not (.bool x)).run Try.prog w = .ok (.bool (!x)) w := fun _ _ => rfl
  go_enter Try.func3, Try.ntmps3
  go_wp2_with fail
  obtain ⟨W0, hW0⟩ : ∃ x, x = w.alloc (.cells #[.int .i64 255, .int .i64 255, .int .i64 255, .int .i64 255] 23) := ⟨_, rfl⟩
  rw [← hW0]
  have g0 : W0.heap[w.heap.size]? = some (pblk ⟨255, 255, 255, 255⟩) := by rw [hW0]; exact blk_new _ _
  have b0 : Below w.heap.size w W0 := by rw [hW0]; exact (Below.refl _ _).alloc (Nat.le_refl _) _
  clear hW0
  refine wp_region_held_drew (S := fun w' => Below W0.drew.heap.size W0.drew w') (by kernel_rfl) (Below.refl _ _) (fun _ => ?_)
  obtain ⟨V, hV⟩ : ∃ x, x = W0.drew := ⟨_, rfl⟩
  rw [← hV]
  have g : V.heap[w.heap.size]? = some (pblk ⟨255, 255, 255, 255⟩) := by rw [hV]; exact g0
  have BV : Below w.heap.size w V := by rw [hV]; exact below_drewN b0 1
  have B0 : Below V.heap.size V V := Below.refl _ _
  have c0 : ∀ w', Below V.heap.size V w' → w'.cell? ⟨w.heap.size, 0, none⟩ = some (.int .i64 255) := fun w' h => (px_cells (p := ⟨255, 255, 255, 255⟩) (Below.blk h g (blk_lt g))).1
  have c1 : ∀ w', Below V.heap.size V w' → w'.cell? ⟨w.heap.size, 1, none⟩ = some (.int .i64 255) := fun w' h => (px_cells (p := ⟨255, 255, 255, 255⟩) (Below.blk h g (blk_lt g))).2.1
  have c2 : ∀ w', Below V.heap.size V w' → w'.cell? ⟨w.heap.size, 2, none⟩ = some (.int .i64 255) := fun w' h => (px_cells (p := ⟨255, 255, 255, 255⟩) (Below.blk h g (blk_lt g))).2.2.1
  have c3 : ∀ w', Below V.heap.size V w' → w'.cell? ⟨w.heap.size, 3, none⟩ = some (.int .i64 255) := fun w' h => (px_cells (p := ⟨255, 255, 255, 255⟩) (Below.blk h g (blk_lt g))).2.2.2
  clear hV g0 b0 g
  refine wpAnyH_ready (rs := [0]) (by kernel_rfl) (by simp) ?_
  refine AllReadyH.cons (o := { dst := some 3, op := Op.call { callee := Callee.value (Operand.func 7), args := #[], argTypes := #[] }, type := 4, pos := "law.go:20", after := #[], guard := none }) rfl (fun K hK => ?_) ?_
  · go_simp
    go_at_call 7
    refine (known_any _).mono ?_
    rintro e w1 ⟨rfl, b1⟩
    go_wp2_with fail
    have B1 := B0.trans (b1.mono B0.size)
    refine (Shut.stronger hK (fun w' => Below w1.heap.size w1 w') (fun w' h => b1.trans (h.mono b1.size))).out _ _ (Below.refl _ _) (fun _ => ?_)
    clear hK K
    try simp only [Act.put, List.setIfInBounds_toArray, List.set_cons_zero, List.set_cons_succ]
    refine wpAnyH_take (i := 1) (oi := { dst := some 4, op := Op.move (Operand.tmp 3), type := 4, pos := "law.go:20", after := #[{ on := 0, ground := Ground.data }, { on := 0, ground := Ground.chain }], guard := none }) (v := ?_) rfl (by kernel_rfl) (by kernel_rfl) (by kernel_rfl) (fun _ _ _ h => h) (Or.inl ⟨by rfl, ?_⟩) (Below.refl _ _) ?_
    rotate_left
    · (intro w' hSw; go_simp) <;> with_reducible rfl
    try simp only [Act.put, List.setIfInBounds_toArray, List.set_cons_zero, List.set_cons_succ]
    refine wpAnyH_take (i := 2) (oi := { dst := some 5, op := Op.build 23 #[(0, Operand.const (Value.int IntKind.i64 50)), (1, Operand.const (Value.int IntKind.i64 25)), (2, Operand.const (Value.int IntKind.i64 0)), (3, Operand.const (Value.int IntKind.i64 100))], type := 23, pos := "law.go:20", after := #[{ on := 1, ground := Ground.guard }], guard := some (1, true) }) (v := ?_) rfl (by kernel_rfl) (by kernel_rfl) (by kernel_rfl) (fun _ _ _ h => h) (Or.inl ⟨by rfl, ?_⟩) (Below.refl _ _) ?_
    rotate_left
    · (intro w' hSw; go_simp) <;> with_reducible rfl
    try simp only [Act.put, List.setIfInBounds_toArray, List.set_cons_zero, List.set_cons_succ]
    refine wpAnyH_take (i := 4) (oi := { dst := some 7, op := Op.build 23 #[(0, Operand.const (Value.int IntKind.i64 128)), (1, Operand.const (Value.int IntKind.i64 64)), (2, Operand.const (Value.int IntKind.i64 0)), (3, Operand.const (Value.int IntKind.i64 100))], type := 23, pos := "law.go:20", after := #[{ on := 1, ground := Ground.guard }], guard := some (1, true) }) (v := ?_) rfl (by kernel_rfl) (by kernel_rfl) (by kernel_rfl) (fun _ _ _ h => h) (Or.inl ⟨by rfl, ?_⟩) (Below.refl _ _) ?_
    rotate_left
    · (intro w' hSw; go_simp) <;> with_reducible rfl
    try simp only [Act.put, List.setIfInBounds_toArray, List.set_cons_zero, List.set_cons_succ]
    refine wpAnyH_ready (rs := [3]) (by kernel_rfl) (by simp) ?_
    refine AllReadyH.cons (o := { dst := some 6, op := Op.call { callee := Callee.value (Operand.func 8), args := #[Operand.tmp 5], argTypes := #[23] }, type := 23, pos := "law.go:20", after := #[{ on := 2, ground := Ground.data }, { on := 1, ground := Ground.chain }, { on := 1, ground := Ground.guard }], guard := some (1, true) }) rfl (fun K hK => ?_) ?_
    · go_simp
      go_at_call 8
      refine (told (v' := pv ⟨128, 64, 0, 100⟩) (bare_any ⟨50, 25, 0, 100⟩ _) (by kernel_rfl)).mono ?_
      rintro e w2 ⟨rfl, b2⟩
      go_wp2_with fail
      have B2 := B1.trans (b2.mono B1.size)
      refine (Shut.stronger hK (fun w' => Below w2.heap.size w2 w') (fun w' h => b2.trans (h.mono b2.size))).out _ _ (Below.refl _ _) (fun _ => ?_)
      clear hK K
      try simp only [Act.put, List.setIfInBounds_toArray, List.set_cons_zero, List.set_cons_succ]
      refine wpAnyH_take (i := 5) (oi := { dst := some 8, op := Op.binOp BinOp.eql 23 (Operand.tmp 6) (Operand.tmp 7) 23, type := 4, pos := "law.go:20", after := #[{ on := 3, ground := Ground.data }, { on := 4, ground := Ground.data }, { on := 1, ground := Ground.guard }], guard := some (1, true) }) (v := ?_) rfl (by kernel_rfl) (by kernel_rfl) (by kernel_rfl) (fun _ _ _ h => h) (Or.inl ⟨by rfl, ?_⟩) (Below.refl _ _) ?_
      rotate_left
      · (intro w' hSw; go_simp) <;> with_reducible rfl
      try simp only [Act.put, List.setIfInBounds_toArray, List.set_cons_zero, List.set_cons_succ]
      refine wpAnyH_take (i := 6) (oi := { dst := some 9, op := Op.pick (Operand.tmp 4) (Operand.tmp 8) (Operand.const (Value.bool false)), type := 4, pos := "law.go:20", after := #[{ on := 1, ground := Ground.data }, { on := 5, ground := Ground.data }], guard := none }) (v := ?_) rfl (by kernel_rfl) (by kernel_rfl) (by kernel_rfl) (fun _ _ _ h => h) (Or.inl ⟨by rfl, ?_⟩) (Below.refl _ _) ?_
      rotate_left
      · (intro w' hSw; go_simp) <;> with_reducible rfl
      try simp only [Act.put, List.setIfInBounds_toArray, List.set_cons_zero, List.set_cons_succ]
      refine wpAnyH_take (i := 7) (oi := { dst := some 10, op := Op.move (Operand.tmp 9), type := 4, pos := "law.go:20", after := #[{ on := 6, ground := Ground.data }, { on := 3, ground := Ground.chain }], guard := none }) (v := ?_) rfl (by kernel_rfl) (by kernel_rfl) (by kernel_rfl) (fun _ _ _ h => h) (Or.inl ⟨by rfl, ?_⟩) (Below.refl _ _) ?_
      rotate_left
      · (intro w' hSw; go_simp) <;> with_reducible rfl
      try simp only [Act.put, List.setIfInBounds_toArray, List.set_cons_zero, List.set_cons_succ]
      refine wpAnyH_take (i := 8) (oi := { dst := some 11, op := Op.build 23 #[], type := 23, pos := "law.go:20", after := #[{ on := 7, ground := Ground.guard }], guard := some (7, true) }) (v := ?_) rfl (by kernel_rfl) (by kernel_rfl) (by kernel_rfl) (fun _ _ _ h => h) (Or.inl ⟨by rfl, ?_⟩) (Below.refl _ _) ?_
      rotate_left
      · (intro w' hSw; go_simp) <;> with_reducible rfl
      try simp only [Act.put, List.setIfInBounds_toArray, List.set_cons_zero, List.set_cons_succ]
      refine wpAnyH_take (i := 10) (oi := { dst := some 13, op := Op.build 23 #[], type := 23, pos := "law.go:20", after := #[{ on := 7, ground := Ground.guard }], guard := some (7, true) }) (v := ?_) rfl (by kernel_rfl) (by kernel_rfl) (by kernel_rfl) (fun _ _ _ h => h) (Or.inl ⟨by rfl, ?_⟩) (Below.refl _ _) ?_
      rotate_left
      · (intro w' hSw; go_simp) <;> with_reducible rfl
      try simp only [Act.put, List.setIfInBounds_toArray, List.set_cons_zero, List.set_cons_succ]
      refine wpAnyH_ready (rs := [9]) (by kernel_rfl) (by simp) ?_
      refine AllReadyH.cons (o := { dst := some 12, op := Op.call { callee := Callee.value (Operand.func 8), args := #[Operand.tmp 11], argTypes := #[23] }, type := 23, pos := "law.go:20", after := #[{ on := 8, ground := Ground.data }, { on := 7, ground := Ground.chain }, { on := 7, ground := Ground.guard }], guard := some (7, true) }) rfl (fun K hK => ?_) ?_
      · go_simp
        go_at_call 8
        refine (told (v' := pv ⟨0, 0, 0, 0⟩) (bare_any zpx _) (by kernel_rfl)).mono ?_
        rintro e w3 ⟨rfl, b3⟩
        go_wp2_with fail
        have B3 := B2.trans (b3.mono B2.size)
        refine (Shut.stronger hK (fun w' => Below w3.heap.size w3 w') (fun w' h => b3.trans (h.mono b3.size))).out _ _ (Below.refl _ _) (fun _ => ?_)
        clear hK K
        try simp only [Act.put, List.setIfInBounds_toArray, List.set_cons_zero, List.set_cons_succ]
        refine wpAnyH_take (i := 11) (oi := { dst := some 14, op := Op.binOp BinOp.eql 23 (Operand.tmp 12) (Operand.tmp 13) 23, type := 4, pos := "law.go:20", after := #[{ on := 9, ground := Ground.data }, { on := 10, ground := Ground.data }, { on := 7, ground := Ground.guard }], guard := some (7, true) }) (v := ?_) rfl (by kernel_rfl) (by kernel_rfl) (by kernel_rfl) (fun _ _ _ h => h) (Or.inl ⟨by rfl, ?_⟩) (Below.refl _ _) ?_
        rotate_left
        · (intro w' hSw; go_simp) <;> with_reducible rfl
        try simp only [Act.put, List.setIfInBounds_toArray, List.set_cons_zero, List.set_cons_succ]
        refine wpAnyH_take (i := 12) (oi := { dst := some 15, op := Op.pick (Operand.tmp 10) (Operand.tmp 14) (Operand.const (Value.bool false)), type := 4, pos := "law.go:20", after := #[{ on := 7, ground := Ground.data }, { on := 11, ground := Ground.data }], guard := none }) (v := ?_) rfl (by kernel_rfl) (by kernel_rfl) (by kernel_rfl) (fun _ _ _ h => h) (Or.inl ⟨by rfl, ?_⟩) (Below.refl _ _) ?_
        rotate_left
        · (intro w' hSw; go_simp) <;> with_reducible rfl
        try simp only [Act.put, List.setIfInBounds_toArray, List.set_cons_zero, List.set_cons_succ]
        refine wpAnyH_take (i := 13) (oi := { dst := some 16, op := Op.move (Operand.tmp 15), type := 4, pos := "law.go:20", after := #[{ on := 12, ground := Ground.data }, { on := 9, ground := Ground.chain }], guard := none }) (v := ?_) rfl (by kernel_rfl) (by kernel_rfl) (by kernel_rfl) (fun _ _ _ h => h) (Or.inl ⟨by rfl, ?_⟩) (Below.refl _ _) ?_
        rotate_left
        · (intro w' hSw; go_simp) <;> with_reducible rfl
        try simp only [Act.put, List.setIfInBounds_toArray, List.set_cons_zero, List.set_cons_succ]
        refine wpAnyH_take (i := 14) (oi := { dst := some 17, op := Op.build 23 #[(0, Operand.const (Value.int IntKind.i64 256))], type := 23, pos := "law.go:20", after := #[{ on := 13, ground := Ground.guard }], guard := some (13, true) }) (v := ?_) rfl (by kernel_rfl) (by kernel_rfl) (by kernel_rfl) (fun _ _ _ h => h) (Or.inl ⟨by rfl, ?_⟩) (Below.refl _ _) ?_
        rotate_left
        · (intro w' hSw; go_simp) <;> with_reducible rfl
        try simp only [Act.put, List.setIfInBounds_toArray, List.set_cons_zero, List.set_cons_succ]
        refine wpAnyH_ready (rs := [15]) (by kernel_rfl) (by simp) ?_
        refine AllReadyH.cons (o := { dst := some 18, op := Op.call { callee := Callee.value (Operand.func 9), args := #[Operand.tmp 17], argTypes := #[23] }, type := 4, pos := "law.go:20", after := #[{ on := 14, ground := Ground.data }, { on := 13, ground := Ground.chain }, { on := 13, ground := Ground.guard }], guard := some (13, true) }) rfl (fun K hK => ?_) ?_
        · go_simp
          go_at_call 9
          refine (told (v' := .bool false) (right_any ⟨256, 0, 0, 0⟩ _) (by kernel_rfl)).mono ?_
          rintro e w4 ⟨rfl, b4⟩
          go_wp2_with fail
          have B4 := B3.trans (b4.mono B3.size)
          refine (Shut.stronger hK (fun w' => Below w4.heap.size w4 w') (fun w' h => b4.trans (h.mono b4.size))).out _ _ (Below.refl _ _) (fun _ => ?_)
          clear hK K
          try simp only [Act.put, List.setIfInBounds_toArray, List.set_cons_zero, List.set_cons_succ]
          refine wpAnyH_take (i := 16) (oi := { dst := some 19, op := Op.unOp UnOp.not 4 (Operand.tmp 18), type := 4, pos := "law.go:20", after := #[{ on := 15, ground := Ground.data }, { on := 13, ground := Ground.guard }], guard := some (13, true) }) (v := ?_) rfl (by kernel_rfl) (by kernel_rfl) (by kernel_rfl) (fun _ _ _ h => h) (Or.inl ⟨by rfl, ?_⟩) (Below.refl _ _) ?_
          rotate_left
          · (intro w' hSw; go_simp) <;> with_reducible rfl
          try simp only [Act.put, List.setIfInBounds_toArray, List.set_cons_zero, List.set_cons_succ]
          refine wpAnyH_take (i := 17) (oi := { dst := some 20, op := Op.pick (Operand.tmp 16) (Operand.tmp 19) (Operand.const (Value.bool false)), type := 4, pos := "law.go:20", after := #[{ on := 13, ground := Ground.data }, { on := 16, ground := Ground.data }], guard := none }) (v := ?_) rfl (by kernel_rfl) (by kernel_rfl) (by kernel_rfl) (fun _ _ _ h => h) (Or.inl ⟨by rfl, ?_⟩) (Below.refl _ _) ?_
          rotate_left
          · (intro w' hSw; go_simp) <;> with_reducible rfl
          try simp only [Act.put, List.setIfInBounds_toArray, List.set_cons_zero, List.set_cons_succ]
          refine wpAnyH_take (i := 18) (oi := { dst := some 21, op := Op.move (Operand.tmp 20), type := 4, pos := "law.go:20", after := #[{ on := 17, ground := Ground.data }, { on := 15, ground := Ground.chain }], guard := none }) (v := ?_) rfl (by kernel_rfl) (by kernel_rfl) (by kernel_rfl) (fun _ _ _ h => h) (Or.inl ⟨by rfl, ?_⟩) (Below.refl _ _) ?_
          rotate_left
          · (intro w' hSw; go_simp) <;> with_reducible rfl
          try simp only [Act.put, List.setIfInBounds_toArray, List.set_cons_zero, List.set_cons_succ]
          refine wpAnyH_take (i := 19) (oi := { dst := some 22, op := Op.build 23 #[(0, Operand.const (Value.int IntKind.i64 4)), (3, Operand.const (Value.int IntKind.i64 3))], type := 23, pos := "law.go:20", after := #[{ on := 18, ground := Ground.guard }], guard := some (18, true) }) (v := ?_) rfl (by kernel_rfl) (by kernel_rfl) (by kernel_rfl) (fun _ _ _ h => h) (Or.inl ⟨by rfl, ?_⟩) (Below.refl _ _) ?_
          rotate_left
          · (intro w' hSw; go_simp) <;> with_reducible rfl
          try simp only [Act.put, List.setIfInBounds_toArray, List.set_cons_zero, List.set_cons_succ]
          refine wpAnyH_ready (rs := [20]) (by kernel_rfl) (by simp) ?_
          refine AllReadyH.cons (o := { dst := some 23, op := Op.call { callee := Callee.value (Operand.func 10), args := #[Operand.tmp 22], argTypes := #[23] }, type := 4, pos := "law.go:20", after := #[{ on := 19, ground := Ground.data }, { on := 18, ground := Ground.chain }, { on := 18, ground := Ground.guard }], guard := some (18, true) }) rfl (fun K hK => ?_) ?_
          · go_simp
            go_at_call 10
            refine (told (v' := .bool false) (premultiplied_any ⟨4, 0, 0, 3⟩ _) (by kernel_rfl)).mono ?_
            rintro e w5 ⟨rfl, b5⟩
            go_wp2_with fail
            have B5 := B4.trans (b5.mono B4.size)
            refine (Shut.stronger hK (fun w' => Below w5.heap.size w5 w') (fun w' h => b5.trans (h.mono b5.size))).out _ _ (Below.refl _ _) (fun _ => ?_)
            clear hK K
            try simp only [Act.put, List.setIfInBounds_toArray, List.set_cons_zero, List.set_cons_succ]
            refine wpAnyH_take (i := 21) (oi := { dst := some 24, op := Op.unOp UnOp.not 4 (Operand.tmp 23), type := 4, pos := "law.go:20", after := #[{ on := 20, ground := Ground.data }, { on := 18, ground := Ground.guard }], guard := some (18, true) }) (v := ?_) rfl (by kernel_rfl) (by kernel_rfl) (by kernel_rfl) (fun _ _ _ h => h) (Or.inl ⟨by rfl, ?_⟩) (Below.refl _ _) ?_
            rotate_left
            · (intro w' hSw; go_simp) <;> with_reducible rfl
            try simp only [Act.put, List.setIfInBounds_toArray, List.set_cons_zero, List.set_cons_succ]
            refine wpAnyH_take (i := 22) (oi := { dst := some 25, op := Op.pick (Operand.tmp 21) (Operand.tmp 24) (Operand.const (Value.bool false)), type := 4, pos := "law.go:20", after := #[{ on := 18, ground := Ground.data }, { on := 21, ground := Ground.data }], guard := none }) (v := ?_) rfl (by kernel_rfl) (by kernel_rfl) (by kernel_rfl) (fun _ _ _ h => h) (Or.inl ⟨by rfl, ?_⟩) (Below.refl _ _) ?_
            rotate_left
            · (intro w' hSw; go_simp) <;> with_reducible rfl
            try simp only [Act.put, List.setIfInBounds_toArray, List.set_cons_zero, List.set_cons_succ]
            refine wpAnyH_take (i := 23) (oi := { dst := some 26, op := Op.move (Operand.tmp 25), type := 4, pos := "law.go:20", after := #[{ on := 22, ground := Ground.data }, { on := 20, ground := Ground.chain }], guard := none }) (v := ?_) rfl (by kernel_rfl) (by kernel_rfl) (by kernel_rfl) (fun _ _ _ h => h) (Or.inl ⟨by rfl, ?_⟩) (Below.refl _ _) ?_
            rotate_left
            · (intro w' hSw; go_simp) <;> with_reducible rfl
            try simp only [Act.put, List.setIfInBounds_toArray, List.set_cons_zero, List.set_cons_succ]
            refine wpAnyH_take (i := 24) (oi := { dst := some 27, op := Op.build 23 #[(0, Operand.const (Value.int IntKind.i64 100)), (3, Operand.const (Value.int IntKind.i64 100))], type := 23, pos := "law.go:20", after := #[{ on := 23, ground := Ground.guard }], guard := some (23, true) }) (v := ?_) rfl (by kernel_rfl) (by kernel_rfl) (by kernel_rfl) (fun _ _ _ h => h) (Or.inl ⟨by rfl, ?_⟩) (Below.refl _ _) ?_
            rotate_left
            · (intro w' hSw; go_simp) <;> with_reducible rfl
            try simp only [Act.put, List.setIfInBounds_toArray, List.set_cons_zero, List.set_cons_succ]
            refine wpAnyH_take (i := 25) (oi := { dst := some 28, op := Op.load 23 (Operand.tmp 1), type := 23, pos := "law.go:20", after := #[{ on := 23, ground := Ground.guard }], guard := some (23, true) }) (v := ?_) rfl (by kernel_rfl) (by kernel_rfl) (by kernel_rfl) (fun _ _ _ h => h) (Or.inl ⟨by rfl, ?_⟩) (Below.refl _ _) ?_
            rotate_left
            · (intro w' hSw; have hX := B5.trans (hSw.mono B5.size); have kc0 := c0 w' hX; have kc1 := c1 w' hX; have kc2 := c2 w' hX; have kc3 := c3 w' hX; go_simp) <;> with_reducible rfl
            try simp only [Act.put, List.setIfInBounds_toArray, List.set_cons_zero, List.set_cons_succ]
            refine wpAnyH_take (i := 27) (oi := { dst := some 30, op := Op.build 23 #[(0, Operand.const (Value.int IntKind.i64 255)), (1, Operand.const (Value.int IntKind.i64 155)), (2, Operand.const (Value.int IntKind.i64 155)), (3, Operand.const (Value.int IntKind.i64 255))], type := 23, pos := "law.go:20", after := #[{ on := 23, ground := Ground.guard }], guard := some (23, true) }) (v := ?_) rfl (by kernel_rfl) (by kernel_rfl) (by kernel_rfl) (fun _ _ _ h => h) (Or.inl ⟨by rfl, ?_⟩) (Below.refl _ _) ?_
            rotate_left
            · (intro w' hSw; go_simp) <;> with_reducible rfl
            try simp only [Act.put, List.setIfInBounds_toArray, List.set_cons_zero, List.set_cons_succ]
            refine wpAnyH_ready (rs := [26]) (by kernel_rfl) (by simp) ?_
            refine AllReadyH.cons (o := { dst := some 29, op := Op.call { callee := Callee.value (Operand.func 11), args := #[Operand.tmp 27, Operand.tmp 28], argTypes := #[23, 23] }, type := 23, pos := "law.go:20", after := #[{ on := 24, ground := Ground.data }, { on := 25, ground := Ground.data }, { on := 23, ground := Ground.chain }, { on := 23, ground := Ground.guard }], guard := some (23, true) }) rfl (fun K hK => ?_) ?_
            · go_simp
              go_at_call 11
              refine (told (v' := pv ⟨255, 155, 155, 255⟩) (over_any ⟨100, 0, 0, 100⟩ ⟨255, 255, 255, 255⟩ _) (by kernel_rfl)).mono ?_
              rintro e w6 ⟨rfl, b6⟩
              go_wp2_with fail
              have B6 := B5.trans (b6.mono B5.size)
              refine (Shut.stronger hK (fun w' => Below w6.heap.size w6 w') (fun w' h => b6.trans (h.mono b6.size))).out _ _ (Below.refl _ _) (fun _ => ?_)
              clear hK K
              try simp only [Act.put, List.setIfInBounds_toArray, List.set_cons_zero, List.set_cons_succ]
              refine wpAnyH_take (i := 28) (oi := { dst := some 31, op := Op.binOp BinOp.eql 23 (Operand.tmp 29) (Operand.tmp 30) 23, type := 4, pos := "law.go:20", after := #[{ on := 26, ground := Ground.data }, { on := 27, ground := Ground.data }, { on := 23, ground := Ground.guard }], guard := some (23, true) }) (v := ?_) rfl (by kernel_rfl) (by kernel_rfl) (by kernel_rfl) (fun _ _ _ h => h) (Or.inl ⟨by rfl, ?_⟩) (Below.refl _ _) ?_
              rotate_left
              · (intro w' hSw; go_simp) <;> with_reducible rfl
              try simp only [Act.put, List.setIfInBounds_toArray, List.set_cons_zero, List.set_cons_succ]
              refine wpAnyH_take (i := 29) (oi := { dst := some 32, op := Op.pick (Operand.tmp 26) (Operand.tmp 31) (Operand.const (Value.bool false)), type := 4, pos := "law.go:20", after := #[{ on := 23, ground := Ground.data }, { on := 28, ground := Ground.data }], guard := none }) (v := ?_) rfl (by kernel_rfl) (by kernel_rfl) (by kernel_rfl) (fun _ _ _ h => h) (Or.inl ⟨by rfl, ?_⟩) (Below.refl _ _) ?_
              rotate_left
              · (intro w' hSw; go_simp) <;> with_reducible rfl
              try simp only [Act.put, List.setIfInBounds_toArray, List.set_cons_zero, List.set_cons_succ]
              refine wpAnyH_take (i := 30) (oi := { dst := some 33, op := Op.move (Operand.tmp 32), type := 4, pos := "law.go:20", after := #[{ on := 29, ground := Ground.data }, { on := 26, ground := Ground.chain }], guard := none }) (v := ?_) rfl (by kernel_rfl) (by kernel_rfl) (by kernel_rfl) (fun _ _ _ h => h) (Or.inl ⟨by rfl, ?_⟩) (Below.refl _ _) ?_
              rotate_left
              · (intro w' hSw; go_simp) <;> with_reducible rfl
              try simp only [Act.put, List.setIfInBounds_toArray, List.set_cons_zero, List.set_cons_succ]
              refine wpAnyH_take (i := 31) (oi := { dst := some 34, op := Op.build 23 #[], type := 23, pos := "law.go:20", after := #[{ on := 30, ground := Ground.guard }], guard := some (30, true) }) (v := ?_) rfl (by kernel_rfl) (by kernel_rfl) (by kernel_rfl) (fun _ _ _ h => h) (Or.inl ⟨by rfl, ?_⟩) (Below.refl _ _) ?_
              rotate_left
              · (intro w' hSw; go_simp) <;> with_reducible rfl
              try simp only [Act.put, List.setIfInBounds_toArray, List.set_cons_zero, List.set_cons_succ]
              refine wpAnyH_take (i := 32) (oi := { dst := some 35, op := Op.load 23 (Operand.tmp 1), type := 23, pos := "law.go:20", after := #[{ on := 30, ground := Ground.guard }], guard := some (30, true) }) (v := ?_) rfl (by kernel_rfl) (by kernel_rfl) (by kernel_rfl) (fun _ _ _ h => h) (Or.inl ⟨by rfl, ?_⟩) (Below.refl _ _) ?_
              rotate_left
              · (intro w' hSw; have hX := B6.trans (hSw.mono B6.size); have kc0 := c0 w' hX; have kc1 := c1 w' hX; have kc2 := c2 w' hX; have kc3 := c3 w' hX; go_simp) <;> with_reducible rfl
              try simp only [Act.put, List.setIfInBounds_toArray, List.set_cons_zero, List.set_cons_succ]
              refine wpAnyH_take (i := 34) (oi := { dst := some 37, op := Op.build 23 #[(0, Operand.const (Value.int IntKind.i64 128)), (1, Operand.const (Value.int IntKind.i64 128)), (2, Operand.const (Value.int IntKind.i64 128)), (3, Operand.const (Value.int IntKind.i64 128))], type := 23, pos := "law.go:20", after := #[{ on := 30, ground := Ground.guard }], guard := some (30, true) }) (v := ?_) rfl (by kernel_rfl) (by kernel_rfl) (by kernel_rfl) (fun _ _ _ h => h) (Or.inl ⟨by rfl, ?_⟩) (Below.refl _ _) ?_
              rotate_left
              · (intro w' hSw; go_simp) <;> with_reducible rfl
              try simp only [Act.put, List.setIfInBounds_toArray, List.set_cons_zero, List.set_cons_succ]
              refine wpAnyH_ready (rs := [33]) (by kernel_rfl) (by simp) ?_
              refine AllReadyH.cons (o := { dst := some 36, op := Op.call { callee := Callee.value (Operand.func 12), args := #[Operand.tmp 34, Operand.tmp 35, Operand.const (Value.int IntKind.i64 32768)], argTypes := #[23, 23, 3] }, type := 23, pos := "law.go:20", after := #[{ on := 31, ground := Ground.data }, { on := 32, ground := Ground.data }, { on := 30, ground := Ground.chain }, { on := 30, ground := Ground.guard }], guard := some (30, true) }) rfl (fun K hK => ?_) ?_
              · go_simp
                go_at_call 12
                refine (told (v' := pv ⟨128, 128, 128, 128⟩) (mixp_any zpx ⟨255, 255, 255, 255⟩ 32768 _) (by kernel_rfl)).mono ?_
                rintro e w7 ⟨rfl, b7⟩
                go_wp2_with fail
                have B7 := B6.trans (b7.mono B6.size)
                refine (Shut.stronger hK (fun w' => Below w7.heap.size w7 w') (fun w' h => b7.trans (h.mono b7.size))).out _ _ (Below.refl _ _) (fun _ => ?_)
                clear hK K
                try simp only [Act.put, List.setIfInBounds_toArray, List.set_cons_zero, List.set_cons_succ]
                refine wpAnyH_take (i := 35) (oi := { dst := some 38, op := Op.binOp BinOp.eql 23 (Operand.tmp 36) (Operand.tmp 37) 23, type := 4, pos := "law.go:20", after := #[{ on := 33, ground := Ground.data }, { on := 34, ground := Ground.data }, { on := 30, ground := Ground.guard }], guard := some (30, true) }) (v := ?_) rfl (by kernel_rfl) (by kernel_rfl) (by kernel_rfl) (fun _ _ _ h => h) (Or.inl ⟨by rfl, ?_⟩) (Below.refl _ _) ?_
                rotate_left
                · (intro w' hSw; go_simp) <;> with_reducible rfl
                try simp only [Act.put, List.setIfInBounds_toArray, List.set_cons_zero, List.set_cons_succ]
                refine wpAnyH_take (i := 36) (oi := { dst := some 39, op := Op.pick (Operand.tmp 33) (Operand.tmp 38) (Operand.const (Value.bool false)), type := 4, pos := "law.go:20", after := #[{ on := 30, ground := Ground.data }, { on := 35, ground := Ground.data }], guard := none }) (v := ?_) rfl (by kernel_rfl) (by kernel_rfl) (by kernel_rfl) (fun _ _ _ h => h) (Or.inl ⟨by rfl, ?_⟩) (Below.refl _ _) ?_
                rotate_left
                · (intro w' hSw; go_simp) <;> with_reducible rfl
                try simp only [Act.put, List.setIfInBounds_toArray, List.set_cons_zero, List.set_cons_succ]
                refine wpAnyH_take (i := 37) (oi := { dst := some 40, op := Op.move (Operand.tmp 39), type := 4, pos := "law.go:20", after := #[{ on := 36, ground := Ground.data }, { on := 33, ground := Ground.chain }], guard := none }) (v := ?_) rfl (by kernel_rfl) (by kernel_rfl) (by kernel_rfl) (fun _ _ _ h => h) (Or.inl ⟨by rfl, ?_⟩) (Below.refl _ _) ?_
                rotate_left
                · (intro w' hSw; go_simp) <;> with_reducible rfl
                try simp only [Act.put, List.setIfInBounds_toArray, List.set_cons_zero, List.set_cons_succ]
                refine wpAnyH_take (i := 38) (oi := { dst := some 41, op := Op.build 23 #[], type := 23, pos := "law.go:20", after := #[{ on := 37, ground := Ground.guard }], guard := some (37, true) }) (v := ?_) rfl (by kernel_rfl) (by kernel_rfl) (by kernel_rfl) (fun _ _ _ h => h) (Or.inl ⟨by rfl, ?_⟩) (Below.refl _ _) ?_
                rotate_left
                · (intro w' hSw; go_simp) <;> with_reducible rfl
                try simp only [Act.put, List.setIfInBounds_toArray, List.set_cons_zero, List.set_cons_succ]
                refine wpAnyH_take (i := 39) (oi := { dst := some 42, op := Op.load 23 (Operand.tmp 1), type := 23, pos := "law.go:20", after := #[{ on := 37, ground := Ground.guard }], guard := some (37, true) }) (v := ?_) rfl (by kernel_rfl) (by kernel_rfl) (by kernel_rfl) (fun _ _ _ h => h) (Or.inl ⟨by rfl, ?_⟩) (Below.refl _ _) ?_
                rotate_left
                · (intro w' hSw; have hX := B7.trans (hSw.mono B7.size); have kc0 := c0 w' hX; have kc1 := c1 w' hX; have kc2 := c2 w' hX; have kc3 := c3 w' hX; go_simp) <;> with_reducible rfl
                try simp only [Act.put, List.setIfInBounds_toArray, List.set_cons_zero, List.set_cons_succ]
                refine wpAnyH_take (i := 41) (oi := { dst := some 44, op := Op.load 23 (Operand.tmp 1), type := 23, pos := "law.go:20", after := #[{ on := 37, ground := Ground.guard }], guard := some (37, true) }) (v := ?_) rfl (by kernel_rfl) (by kernel_rfl) (by kernel_rfl) (fun _ _ _ h => h) (Or.inl ⟨by rfl, ?_⟩) (Below.refl _ _) ?_
                rotate_left
                · (intro w' hSw; have hX := B7.trans (hSw.mono B7.size); have kc0 := c0 w' hX; have kc1 := c1 w' hX; have kc2 := c2 w' hX; have kc3 := c3 w' hX; go_simp) <;> with_reducible rfl
                try simp only [Act.put, List.setIfInBounds_toArray, List.set_cons_zero, List.set_cons_succ]
                refine wpAnyH_ready (rs := [40]) (by kernel_rfl) (by simp) ?_
                refine AllReadyH.cons (o := { dst := some 43, op := Op.call { callee := Callee.value (Operand.func 12), args := #[Operand.tmp 41, Operand.tmp 42, Operand.const (Value.int IntKind.i64 1099511627776)], argTypes := #[23, 23, 3] }, type := 23, pos := "law.go:20", after := #[{ on := 38, ground := Ground.data }, { on := 39, ground := Ground.data }, { on := 37, ground := Ground.chain }, { on := 37, ground := Ground.guard }], guard := some (37, true) }) rfl (fun K hK => ?_) ?_
                · go_simp
                  go_at_call 12
                  refine (told (v' := pv ⟨255, 255, 255, 255⟩) (mixp_any zpx ⟨255, 255, 255, 255⟩ 1099511627776 _) (by kernel_rfl)).mono ?_
                  rintro e w8 ⟨rfl, b8⟩
                  go_wp2_with fail
                  have B8 := B7.trans (b8.mono B7.size)
                  refine (Shut.stronger hK (fun w' => Below w8.heap.size w8 w') (fun w' h => b8.trans (h.mono b8.size))).out _ _ (Below.refl _ _) (fun _ => ?_)
                  clear hK K
                  try simp only [Act.put, List.setIfInBounds_toArray, List.set_cons_zero, List.set_cons_succ]
                  refine wpAnyH_take (i := 42) (oi := { dst := some 45, op := Op.binOp BinOp.eql 23 (Operand.tmp 43) (Operand.tmp 44) 23, type := 4, pos := "law.go:20", after := #[{ on := 40, ground := Ground.data }, { on := 41, ground := Ground.data }, { on := 37, ground := Ground.guard }], guard := some (37, true) }) (v := ?_) rfl (by kernel_rfl) (by kernel_rfl) (by kernel_rfl) (fun _ _ _ h => h) (Or.inl ⟨by rfl, ?_⟩) (Below.refl _ _) ?_
                  rotate_left
                  · (intro w' hSw; go_simp) <;> with_reducible rfl
                  try simp only [Act.put, List.setIfInBounds_toArray, List.set_cons_zero, List.set_cons_succ]
                  refine wpAnyH_take (i := 43) (oi := { dst := some 46, op := Op.pick (Operand.tmp 40) (Operand.tmp 45) (Operand.const (Value.bool false)), type := 4, pos := "law.go:20", after := #[{ on := 37, ground := Ground.data }, { on := 42, ground := Ground.data }], guard := none }) (v := ?_) rfl (by kernel_rfl) (by kernel_rfl) (by kernel_rfl) (fun _ _ _ h => h) (Or.inl ⟨by rfl, ?_⟩) (Below.refl _ _) ?_
                  rotate_left
                  · (intro w' hSw; go_simp) <;> with_reducible rfl
                  try simp only [Act.put, List.setIfInBounds_toArray, List.set_cons_zero, List.set_cons_succ]
                  refine wpAnyH_take (i := 44) (oi := { dst := some 47, op := Op.move (Operand.tmp 46), type := 4, pos := "law.go:20", after := #[{ on := 43, ground := Ground.data }, { on := 40, ground := Ground.chain }], guard := none }) (v := ?_) rfl (by kernel_rfl) (by kernel_rfl) (by kernel_rfl) (fun _ _ _ h => h) (Or.inl ⟨by rfl, ?_⟩) (Below.refl _ _) ?_
                  rotate_left
                  · (intro w' hSw; go_simp) <;> with_reducible rfl
                  try simp only [Act.put, List.setIfInBounds_toArray, List.set_cons_zero, List.set_cons_succ]
                  refine wpAnyH_take (i := 45) (oi := { dst := some 48, op := Op.load 23 (Operand.tmp 1), type := 23, pos := "law.go:20", after := #[{ on := 44, ground := Ground.guard }], guard := some (44, true) }) (v := ?_) rfl (by kernel_rfl) (by kernel_rfl) (by kernel_rfl) (fun _ _ _ h => h) (Or.inl ⟨by rfl, ?_⟩) (Below.refl _ _) ?_
                  rotate_left
                  · (intro w' hSw; have hX := B8.trans (hSw.mono B8.size); have kc0 := c0 w' hX; have kc1 := c1 w' hX; have kc2 := c2 w' hX; have kc3 := c3 w' hX; go_simp) <;> with_reducible rfl
                  try simp only [Act.put, List.setIfInBounds_toArray, List.set_cons_zero, List.set_cons_succ]
                  refine wpAnyH_take (i := 47) (oi := { dst := some 50, op := Op.build 23 #[(0, Operand.const (Value.int IntKind.i64 128)), (1, Operand.const (Value.int IntKind.i64 128)), (2, Operand.const (Value.int IntKind.i64 128)), (3, Operand.const (Value.int IntKind.i64 128))], type := 23, pos := "law.go:20", after := #[{ on := 44, ground := Ground.guard }], guard := some (44, true) }) (v := ?_) rfl (by kernel_rfl) (by kernel_rfl) (by kernel_rfl) (fun _ _ _ h => h) (Or.inl ⟨by rfl, ?_⟩) (Below.refl _ _) ?_
                  rotate_left
                  · (intro w' hSw; go_simp) <;> with_reducible rfl
                  try simp only [Act.put, List.setIfInBounds_toArray, List.set_cons_zero, List.set_cons_succ]
                  refine wpAnyH_ready (rs := [46]) (by kernel_rfl) (by simp) ?_
                  refine AllReadyH.cons (o := { dst := some 49, op := Op.call { callee := Callee.value (Operand.func 13), args := #[Operand.tmp 48, Operand.const (Value.int IntKind.i64 128)], argTypes := #[23, 3] }, type := 23, pos := "law.go:20", after := #[{ on := 45, ground := Ground.data }, { on := 44, ground := Ground.chain }, { on := 44, ground := Ground.guard }], guard := some (44, true) }) rfl (fun K hK => ?_) ?_
                  · go_simp
                    go_at_call 13
                    refine (told (v' := pv ⟨128, 128, 128, 128⟩) (scale_any ⟨255, 255, 255, 255⟩ 128 _) (by kernel_rfl)).mono ?_
                    rintro e w9 ⟨rfl, b9⟩
                    go_wp2_with fail
                    have B9 := B8.trans (b9.mono B8.size)
                    refine (Shut.stronger hK (fun w' => Below w9.heap.size w9 w') (fun w' h => b9.trans (h.mono b9.size))).out _ _ (Below.refl _ _) (fun _ => ?_)
                    clear hK K
                    try simp only [Act.put, List.setIfInBounds_toArray, List.set_cons_zero, List.set_cons_succ]
                    refine wpAnyH_take (i := 48) (oi := { dst := some 51, op := Op.binOp BinOp.eql 23 (Operand.tmp 49) (Operand.tmp 50) 23, type := 4, pos := "law.go:20", after := #[{ on := 46, ground := Ground.data }, { on := 47, ground := Ground.data }, { on := 44, ground := Ground.guard }], guard := some (44, true) }) (v := ?_) rfl (by kernel_rfl) (by kernel_rfl) (by kernel_rfl) (fun _ _ _ h => h) (Or.inl ⟨by rfl, ?_⟩) (Below.refl _ _) ?_
                    rotate_left
                    · (intro w' hSw; go_simp) <;> with_reducible rfl
                    try simp only [Act.put, List.setIfInBounds_toArray, List.set_cons_zero, List.set_cons_succ]
                    refine wpAnyH_take (i := 49) (oi := { dst := some 52, op := Op.pick (Operand.tmp 47) (Operand.tmp 51) (Operand.const (Value.bool false)), type := 4, pos := "law.go:20", after := #[{ on := 44, ground := Ground.data }, { on := 48, ground := Ground.data }], guard := none }) (v := ?_) rfl (by kernel_rfl) (by kernel_rfl) (by kernel_rfl) (fun _ _ _ h => h) (Or.inl ⟨by rfl, ?_⟩) (Below.refl _ _) ?_
                    rotate_left
                    · (intro w' hSw; go_simp) <;> with_reducible rfl
                    try simp only [Act.put, List.setIfInBounds_toArray, List.set_cons_zero, List.set_cons_succ]
                    refine wpAnyH_take (i := 50) (oi := { dst := some 53, op := Op.move (Operand.tmp 52), type := 4, pos := "law.go:20", after := #[{ on := 49, ground := Ground.data }, { on := 46, ground := Ground.chain }], guard := none }) (v := ?_) rfl (by kernel_rfl) (by kernel_rfl) (by kernel_rfl) (fun _ _ _ h => h) (Or.inl ⟨by rfl, ?_⟩) (Below.refl _ _) ?_
                    rotate_left
                    · (intro w' hSw; go_simp) <;> with_reducible rfl
                    try simp only [Act.put, List.setIfInBounds_toArray, List.set_cons_zero, List.set_cons_succ]
                    refine wpAnyH_take (i := 51) (oi := { dst := some 54, op := Op.build 23 #[(0, Operand.const (Value.int IntKind.i64 1)), (1, Operand.const (Value.int IntKind.i64 2)), (2, Operand.const (Value.int IntKind.i64 3)), (3, Operand.const (Value.int IntKind.i64 4))], type := 23, pos := "law.go:20", after := #[{ on := 50, ground := Ground.guard }], guard := some (50, true) }) (v := ?_) rfl (by kernel_rfl) (by kernel_rfl) (by kernel_rfl) (fun _ _ _ h => h) (Or.inl ⟨by rfl, ?_⟩) (Below.refl _ _) ?_
                    rotate_left
                    · (intro w' hSw; go_simp) <;> with_reducible rfl
                    try simp only [Act.put, List.setIfInBounds_toArray, List.set_cons_zero, List.set_cons_succ]
                    refine wpAnyH_take (i := 52) (oi := { dst := some 55, op := Op.build 23 #[(0, Operand.const (Value.int IntKind.i64 999))], type := 23, pos := "law.go:20", after := #[{ on := 50, ground := Ground.guard }], guard := some (50, true) }) (v := ?_) rfl (by kernel_rfl) (by kernel_rfl) (by kernel_rfl) (fun _ _ _ h => h) (Or.inl ⟨by rfl, ?_⟩) (Below.refl _ _) ?_
                    rotate_left
                    · (intro w' hSw; go_simp) <;> with_reducible rfl
                    try simp only [Act.put, List.setIfInBounds_toArray, List.set_cons_zero, List.set_cons_succ]
                    refine wpAnyH_ready (rs := [53]) (by kernel_rfl) (by simp) ?_
                    refine AllReadyH.cons (o := { dst := some 56, op := Op.buildSlice 32 2 #[(0, Operand.tmp 54), (1, Operand.tmp 55)], type := 32, pos := "law.go:20", after := #[{ on := 51, ground := Ground.data }, { on := 52, ground := Ground.data }, { on := 50, ground := Ground.guard }], guard := some (50, true) }) rfl (fun K hK => ?_) ?_
                    · go_simp
                      obtain ⟨w10, hw10⟩ : ∃ x, x = w9.alloc (.cells #[.int .i64 1, .int .i64 2, .int .i64 3, .int .i64 4, .int .i64 999, .int .i64 0, .int .i64 0, .int .i64 0] 23) := ⟨_, rfl⟩
                      rw [← hw10]
                      have gs : w10.heap[w9.heap.size]? = some (.cells #[.int .i64 1, .int .i64 2, .int .i64 3, .int .i64 4, .int .i64 999, .int .i64 0, .int .i64 0, .int .i64 0] 23) := by rw [hw10]; exact blk_new _ _
                      have b10 : Below w9.heap.size w9 w10 := by rw [hw10]; exact (Below.refl _ _).alloc (Nat.le_refl _) _
                      clear hw10
                      have B10 := B9.trans (b10.mono B9.size)
                      refine (Shut.stronger hK (fun w' => Below w10.heap.size w10 w') (fun w' h => b10.trans (h.mono b10.size))).out _ _ (Below.refl _ _) (fun _ => ?_)
                      clear hK K
                      try simp only [Act.put, List.setIfInBounds_toArray, List.set_cons_zero, List.set_cons_succ]
                      refine wpAnyH_ready (rs := [54]) (by kernel_rfl) (by simp) ?_
                      refine AllReadyH.cons (o := { dst := some 57, op := Op.call { callee := Callee.value (Operand.func 14), args := #[Operand.tmp 56], argTypes := #[32] }, type := 30, pos := "law.go:20", after := #[{ on := 53, ground := Ground.data }, { on := 50, ground := Ground.chain }, { on := 50, ground := Ground.guard }], guard := some (50, true) }) rfl (fun K hK => ?_) ?_
                      · go_simp
                        go_at_call 14
                        refine (bytes2 ⟨1, 2, 3, 4⟩ ⟨999, 0, 0, 0⟩ _ _ gs).mono ?_
                        rintro e w11 ⟨a11, c11, rfl, hs11, b11⟩
                        rw [show str2 ⟨1, 2, 3, 4⟩ ⟨999, 0, 0, 0⟩ = ⟨#[1, 2, 3, 4, 0, 0, 0, 0]⟩ by kernel_rfl] at hs11
                        go_wp2_with fail
                        have B11 := B10.trans (b11.mono B10.size)
                        refine (Shut.stronger hK (fun w' => Below w11.heap.size w11 w') (fun w' h => b11.trans (h.mono b11.size))).out _ _ (Below.refl _ _) (fun _ => ?_)
                        clear hK K
                        try simp only [Act.put, List.setIfInBounds_toArray, List.set_cons_zero, List.set_cons_succ]
                        refine wpAnyH_take (i := 55) (oi := { dst := some 58, op := Op.convert 30 9 (Operand.tmp 57), type := 9, pos := "law.go:20", after := #[{ on := 54, ground := Ground.data }, { on := 50, ground := Ground.guard }], guard := some (50, true) }) (v := ?_) rfl (by kernel_rfl) (by kernel_rfl) (by kernel_rfl) (fun _ _ _ h => h) (Or.inl ⟨by rfl, ?_⟩) (Below.refl _ _) ?_
                        rotate_left
                        · (intro w' hSw; have kc := hs11 w' hSw; go_simp) <;> with_reducible rfl
                        try simp only [Act.put, List.setIfInBounds_toArray, List.set_cons_zero, List.set_cons_succ]
                        refine wpAnyH_take (i := 56) (oi := { dst := some 59, op := Op.binOp BinOp.eql 9 (Operand.tmp 58) (Operand.const (Value.string { data := #[1, 2, 3, 4, 0, 0, 0, 0] })) 9, type := 4, pos := "law.go:20", after := #[{ on := 55, ground := Ground.data }, { on := 50, ground := Ground.guard }], guard := some (50, true) }) (v := ?_) rfl (by kernel_rfl) (by kernel_rfl) (by kernel_rfl) (fun _ _ _ h => h) (Or.inl ⟨by rfl, ?_⟩) (Below.refl _ _) ?_
                        rotate_left
                        · (intro w' hSw; go_simp) <;> with_reducible rfl
                        try simp only [Act.put, List.setIfInBounds_toArray, List.set_cons_zero, List.set_cons_succ]
                        refine wpAnyH_take (i := 57) (oi := { dst := some 60, op := Op.pick (Operand.tmp 53) (Operand.tmp 59) (Operand.const (Value.bool false)), type := 4, pos := "law.go:20", after := #[{ on := 50, ground := Ground.data }, { on := 56, ground := Ground.data }], guard := none }) (v := ?_) rfl (by kernel_rfl) (by kernel_rfl) (by kernel_rfl) (fun _ _ _ h => h) (Or.inl ⟨by rfl, ?_⟩) (Below.refl _ _) ?_
                        rotate_left
                        · (intro w' hSw; go_simp) <;> with_reducible rfl
                        try simp only [Act.put, List.setIfInBounds_toArray, List.set_cons_zero, List.set_cons_succ]
                        refine wpAnyH_take (i := 58) (oi := { dst := some 61, op := Op.move (Operand.tmp 60), type := 4, pos := "law.go:20", after := #[{ on := 57, ground := Ground.data }, { on := 54, ground := Ground.chain }], guard := none }) (v := ?_) rfl (by kernel_rfl) (by kernel_rfl) (by kernel_rfl) (fun _ _ _ h => h) (Or.inl ⟨by rfl, ?_⟩) (Below.refl _ _) ?_
                        rotate_left
                        · (intro w' hSw; go_simp) <;> with_reducible rfl
                        try simp only [Act.put, List.setIfInBounds_toArray, List.set_cons_zero, List.set_cons_succ]
                        refine wpAnyH_ready (rs := [59]) (by kernel_rfl) (by simp) ?_
                        refine AllReadyH.cons (o := { dst := some 62, op := Op.call { callee := Callee.value (Operand.func 15), args := #[Operand.const (Value.int IntKind.i64 (-5)), Operand.const (Value.int IntKind.i64 9)], argTypes := #[3, 3] }, type := 3, pos := "law.go:20", after := #[{ on := 58, ground := Ground.chain }, { on := 58, ground := Ground.guard }], guard := some (58, true) }) rfl (fun K hK => ?_) ?_
                        · go_simp
                          go_at_call 15
                          refine (toldi (v' := .int .i64 0) (part_any (-5) 9 _) (by kernel_rfl)).mono ?_
                          rintro e w12 ⟨rfl, hw12⟩
                          have b12 : Below w11.heap.size w11 w12 := by rw [hw12]; exact Below.refl _ _
                          clear hw12
                          go_wp2_with fail
                          have B12 := B11.trans (b12.mono B11.size)
                          refine (Shut.stronger hK (fun w' => Below w12.heap.size w12 w') (fun w' h => b12.trans (h.mono b12.size))).out _ _ (Below.refl _ _) (fun _ => ?_)
                          clear hK K
                          try simp only [Act.put, List.setIfInBounds_toArray, List.set_cons_zero, List.set_cons_succ]
                          refine wpAnyH_take (i := 60) (oi := { dst := some 63, op := Op.binOp BinOp.eql 3 (Operand.tmp 62) (Operand.const (Value.int IntKind.i64 0)) 3, type := 4, pos := "law.go:20", after := #[{ on := 59, ground := Ground.data }, { on := 58, ground := Ground.guard }], guard := some (58, true) }) (v := ?_) rfl (by kernel_rfl) (by kernel_rfl) (by kernel_rfl) (fun _ _ _ h => h) (Or.inl ⟨by rfl, ?_⟩) (Below.refl _ _) ?_
                          rotate_left
                          · (intro w' hSw; go_simp) <;> with_reducible rfl
                          try simp only [Act.put, List.setIfInBounds_toArray, List.set_cons_zero, List.set_cons_succ]
                          refine wpAnyH_take (i := 61) (oi := { dst := some 64, op := Op.pick (Operand.tmp 61) (Operand.tmp 63) (Operand.const (Value.bool false)), type := 4, pos := "law.go:20", after := #[{ on := 58, ground := Ground.data }, { on := 60, ground := Ground.data }], guard := none }) (v := ?_) rfl (by kernel_rfl) (by kernel_rfl) (by kernel_rfl) (fun _ _ _ h => h) (Or.inl ⟨by rfl, ?_⟩) (Below.refl _ _) ?_
                          rotate_left
                          · (intro w' hSw; go_simp) <;> with_reducible rfl
                          try simp only [Act.put, List.setIfInBounds_toArray, List.set_cons_zero, List.set_cons_succ]
                          refine wpAnyH_take (i := 62) (oi := { dst := some 65, op := Op.move (Operand.tmp 64), type := 4, pos := "law.go:20", after := #[{ on := 61, ground := Ground.data }, { on := 59, ground := Ground.chain }], guard := none }) (v := ?_) rfl (by kernel_rfl) (by kernel_rfl) (by kernel_rfl) (fun _ _ _ h => h) (Or.inl ⟨by rfl, ?_⟩) (Below.refl _ _) ?_
                          rotate_left
                          · (intro w' hSw; go_simp) <;> with_reducible rfl
                          try simp only [Act.put, List.setIfInBounds_toArray, List.set_cons_zero, List.set_cons_succ]
                          refine wpAnyH_take (i := 63) (oi := { dst := some 66, op := Op.build 23 #[(0, Operand.const (Value.int IntKind.i64 (-1))), (3, Operand.const (Value.int IntKind.i64 9))], type := 23, pos := "law.go:20", after := #[{ on := 62, ground := Ground.guard }], guard := some (62, true) }) (v := ?_) rfl (by kernel_rfl) (by kernel_rfl) (by kernel_rfl) (fun _ _ _ h => h) (Or.inl ⟨by rfl, ?_⟩) (Below.refl _ _) ?_
                          rotate_left
                          · (intro w' hSw; go_simp) <;> with_reducible rfl
                          try simp only [Act.put, List.setIfInBounds_toArray, List.set_cons_zero, List.set_cons_succ]
                          refine wpAnyH_take (i := 65) (oi := { dst := some 68, op := Op.build 23 #[], type := 23, pos := "law.go:20", after := #[{ on := 62, ground := Ground.guard }], guard := some (62, true) }) (v := ?_) rfl (by kernel_rfl) (by kernel_rfl) (by kernel_rfl) (fun _ _ _ h => h) (Or.inl ⟨by rfl, ?_⟩) (Below.refl _ _) ?_
                          rotate_left
                          · (intro w' hSw; go_simp) <;> with_reducible rfl
                          try simp only [Act.put, List.setIfInBounds_toArray, List.set_cons_zero, List.set_cons_succ]
                          refine wpAnyH_ready (rs := [64]) (by kernel_rfl) (by simp) ?_
                          refine AllReadyH.cons (o := { dst := some 67, op := Op.call { callee := Callee.value (Operand.func 16), args := #[Operand.tmp 66], argTypes := #[23] }, type := 23, pos := "law.go:20", after := #[{ on := 63, ground := Ground.data }, { on := 62, ground := Ground.chain }, { on := 62, ground := Ground.guard }], guard := some (62, true) }) rfl (fun K hK => ?_) ?_
                          · go_simp
                            go_at_call 16
                            refine (told (v' := pv ⟨0, 0, 0, 0⟩) (pre_any ⟨-1, 0, 0, 9⟩ _) (by kernel_rfl)).mono ?_
                            rintro e w13 ⟨rfl, b13⟩
                            go_wp2_with fail
                            have B13 := B12.trans (b13.mono B12.size)
                            refine (Shut.stronger hK (fun w' => Below w13.heap.size w13 w') (fun w' h => b13.trans (h.mono b13.size))).out _ _ (Below.refl _ _) (fun _ => ?_)
                            clear hK K
                            try simp only [Act.put, List.setIfInBounds_toArray, List.set_cons_zero, List.set_cons_succ]
                            refine wpAnyH_take (i := 66) (oi := { dst := some 69, op := Op.binOp BinOp.eql 23 (Operand.tmp 67) (Operand.tmp 68) 23, type := 4, pos := "law.go:20", after := #[{ on := 64, ground := Ground.data }, { on := 65, ground := Ground.data }, { on := 62, ground := Ground.guard }], guard := some (62, true) }) (v := ?_) rfl (by kernel_rfl) (by kernel_rfl) (by kernel_rfl) (fun _ _ _ h => h) (Or.inl ⟨by rfl, ?_⟩) (Below.refl _ _) ?_
                            rotate_left
                            · (intro w' hSw; go_simp) <;> with_reducible rfl
                            try simp only [Act.put, List.setIfInBounds_toArray, List.set_cons_zero, List.set_cons_succ]
                            refine wpAnyH_take (i := 67) (oi := { dst := some 70, op := Op.pick (Operand.tmp 65) (Operand.tmp 69) (Operand.const (Value.bool false)), type := 4, pos := "law.go:20", after := #[{ on := 62, ground := Ground.data }, { on := 66, ground := Ground.data }], guard := none }) (v := ?_) rfl (by kernel_rfl) (by kernel_rfl) (by kernel_rfl) (fun _ _ _ h => h) (Or.inl ⟨by rfl, ?_⟩) (Below.refl _ _) ?_
                            rotate_left
                            · (intro w' hSw; go_simp) <;> with_reducible rfl
                            try simp only [Act.put, List.setIfInBounds_toArray, List.set_cons_zero, List.set_cons_succ]
                            refine wpAnyH_take (i := 68) (oi := { dst := some 0, op := Op.assign (Operand.tmp 70), type := 4, pos := "law.go:20", after := #[{ on := 67, ground := Ground.data }, { on := 64, ground := Ground.chain }, { on := 0, ground := Ground.phase }, { on := 1, ground := Ground.phase }, { on := 2, ground := Ground.phase }, { on := 3, ground := Ground.phase }, { on := 4, ground := Ground.phase }, { on := 5, ground := Ground.phase }, { on := 6, ground := Ground.phase }, { on := 7, ground := Ground.phase }, { on := 8, ground := Ground.phase }, { on := 9, ground := Ground.phase }, { on := 10, ground := Ground.phase }, { on := 11, ground := Ground.phase }, { on := 12, ground := Ground.phase }, { on := 13, ground := Ground.phase }, { on := 14, ground := Ground.phase }, { on := 15, ground := Ground.phase }, { on := 16, ground := Ground.phase }, { on := 17, ground := Ground.phase }, { on := 18, ground := Ground.phase }, { on := 19, ground := Ground.phase }, { on := 20, ground := Ground.phase }, { on := 21, ground := Ground.phase }, { on := 22, ground := Ground.phase }, { on := 23, ground := Ground.phase }, { on := 24, ground := Ground.phase }, { on := 25, ground := Ground.phase }, { on := 26, ground := Ground.phase }, { on := 27, ground := Ground.phase }, { on := 28, ground := Ground.phase }, { on := 29, ground := Ground.phase }, { on := 30, ground := Ground.phase }, { on := 31, ground := Ground.phase }, { on := 32, ground := Ground.phase }, { on := 33, ground := Ground.phase }, { on := 34, ground := Ground.phase }, { on := 35, ground := Ground.phase }, { on := 36, ground := Ground.phase }, { on := 37, ground := Ground.phase }, { on := 38, ground := Ground.phase }, { on := 39, ground := Ground.phase }, { on := 40, ground := Ground.phase }, { on := 41, ground := Ground.phase }, { on := 42, ground := Ground.phase }, { on := 43, ground := Ground.phase }, { on := 44, ground := Ground.phase }, { on := 45, ground := Ground.phase }, { on := 46, ground := Ground.phase }, { on := 47, ground := Ground.phase }, { on := 48, ground := Ground.phase }, { on := 49, ground := Ground.phase }, { on := 50, ground := Ground.phase }, { on := 51, ground := Ground.phase }, { on := 52, ground := Ground.phase }, { on := 53, ground := Ground.phase }, { on := 54, ground := Ground.phase }, { on := 55, ground := Ground.phase }, { on := 56, ground := Ground.phase }, { on := 57, ground := Ground.phase }, { on := 58, ground := Ground.phase }, { on := 59, ground := Ground.phase }, { on := 60, ground := Ground.phase }, { on := 61, ground := Ground.phase }, { on := 62, ground := Ground.phase }, { on := 63, ground := Ground.phase }, { on := 64, ground := Ground.phase }, { on := 65, ground := Ground.phase }, { on := 66, ground := Ground.phase }, { on := 67, ground := Ground.phase }], guard := none }) (v := ?_) rfl (by kernel_rfl) (by kernel_rfl) (by kernel_rfl) (fun _ _ _ h => h) (Or.inl ⟨by rfl, ?_⟩) (Below.refl _ _) ?_
                            rotate_left
                            · (intro w' hSw; go_simp) <;> with_reducible rfl
                            try simp only [Act.put, List.setIfInBounds_toArray, List.set_cons_zero]
                            refine wpAnyH_done (by kernel_rfl) ?_ _
                            go_wp2
                            go_ret
                            exact ⟨rfl, BV.trans (B13.mono BV.size)⟩
                          exact AllReadyH.nil
                        exact AllReadyH.nil
                      exact AllReadyH.nil
                    exact AllReadyH.nil
                  exact AllReadyH.nil
                exact AllReadyH.nil
              exact AllReadyH.nil
            exact AllReadyH.nil
          exact AllReadyH.nil
        exact AllReadyH.nil
      exact AllReadyH.nil
    exact AllReadyH.nil
  exact AllReadyH.nil

set_option maxRecDepth 100000 in
set_option maxHeartbeats 3200000 in
theorem pixelParts_walk (x y z : Int) (w : World) : Calls Try.prog 6 #[.int .i64 x, .int .i64 y, .int .i64 z] w fun e w' => e = .returned (.bool true) ∧ Below w.heap.size w w' := by
  obtain ⟨a, ha⟩ : ∃ a, x % 256 = a := ⟨_, rfl⟩
  obtain ⟨b, hb⟩ : ∃ b, y % 256 = b := ⟨_, rfl⟩
  obtain ⟨c, hc⟩ : ∃ c, z % 256 = c := ⟨_, rfl⟩
  have a0 : 0 ≤ a := by omega
  have a1 : a ≤ 255 := by omega
  have b0 : 0 ≤ b := by omega
  have b1 : b ≤ 255 := by omega
  have c0 : 0 ≤ c := by omega
  have c1 : c ≤ 255 := by omega
  have Ha : Hid (x % 256 = a) := ha
  have Hb : Hid (y % 256 = b) := hb
  have Hc : Hid (z % 256 = c) := hc
  clear ha hb hc
  obtain ⟨P, hP⟩ : ∃ P, partv a b = P := ⟨_, rfl⟩
  have p0 : 0 ≤ P := by rw [← hP]; exact (partv_bd a b).1
  have pb : P ≤ b := by rw [← hP]; exact partv_le b0 b1
  have pa : P ≤ a := by rw [← hP, partv_comm]; exact partv_le a0 a1
  have A1 : ∀ W, Calls Try.prog 15 #[.int .i64 a, .int .i64 b] W fun e w' => e = .returned (.int .i64 P) ∧ w' = W := fun W => by rw [← hP]; exact part_any a b W
  have A2 : ∀ W, Calls Try.prog 15 #[.int .i64 b, .int .i64 a] W fun e w' => e = .returned (.int .i64 P) ∧ w' = W := fun W => by rw [← hP, partv_comm]; exact part_any b a W
  have A3 : ∀ W, Calls Try.prog 15 #[.int .i64 a, .int .i64 255] W fun e w' => e = .returned (.int .i64 a) ∧ w' = W := fun W => by have := part_any a 255 W; rwa [partv_255 a0 a1] at this
  have A4 : ∀ W, Calls Try.prog 15 #[.int .i64 a, .int .i64 0] W fun e w' => e = .returned (.int .i64 0) ∧ w' = W := fun W => by have := part_any a 0 W; rwa [partv_0] at this
  obtain ⟨mn, hmn⟩ : ∃ mn, (if c < b then c else b) = mn := ⟨_, rfl⟩
  obtain ⟨mx, hmx⟩ : ∃ mx, (if b < c then c else b) = mx := ⟨_, rfl⟩
  obtain ⟨ma, hma⟩ : ∃ ma, (if b < a then b else a) = ma := ⟨_, rfl⟩
  have hPma : P ≤ ma := by rw [← hma]; split <;> omega
  have hm0 : 0 ≤ mn := by rw [← hmn]; split <;> omega
  have hmm : mn ≤ mx := by rw [← hmn, ← hmx]; split <;> split <;> omega
  have hm1 : mx ≤ 255 := by rw [← hmx]; split <;> omega
  obtain ⟨U, hU⟩ : ∃ U, partv mn a = U := ⟨_, rfl⟩
  obtain ⟨V, hV⟩ : ∃ V, partv mx a = V := ⟨_, rfl⟩
  have hUV : U ≤ V := by rw [← hU, ← hV]; exact partv_mono hm0 hmm hm1
  have A5 : ∀ W, Calls Try.prog 15 #[.int .i64 mn, .int .i64 a] W fun e w' => e = .returned (.int .i64 U) ∧ w' = W := fun W => by rw [← hU]; exact part_any mn a W
  have A6 : ∀ W, Calls Try.prog 15 #[.int .i64 mx, .int .i64 a] W fun e w' => e = .returned (.int .i64 V) ∧ w' = W := fun W => by rw [← hV]; exact part_any mx a W
  have A7 : ∀ W, Calls Try.prog 16 #[pv ⟨a, b, c, 255⟩] W fun e w' => e = .returned (pv ⟨a, b, c, 255⟩) ∧ Below W.heap.size W w' := fun W => told (pre_any ⟨a, b, c, 255⟩ W) (by rw [(bare_pre a0 a1 b0 b1 c0 c1).1])
  have A8 : ∀ W, Calls Try.prog 8 #[pv ⟨a, b, c, 255⟩] W fun e w' => e = .returned (pv ⟨a, b, c, 255⟩) ∧ Below W.heap.size W w' := fun W => told (bare_any ⟨a, b, c, 255⟩ W) (by rw [(bare_pre a0 a1 b0 b1 c0 c1).2])
  clear hP hU hV pa pb hm0 hmm hm1
  go_enter Try.func6, Try.ntmps6
  go_wp2_with fail
  refine (pick_det x 256 (by omega) (by omega) _).mono ?_
  rintro e w' ⟨rfl, rfl⟩
  rw [Ha.out]
  go_wp2_with fail
  refine (pick_det y 256 (by omega) (by omega) _).mono ?_
  rintro e w' ⟨rfl, rfl⟩
  rw [Hb.out]
  go_wp2_with fail
  refine (pick_det z 256 (by omega) (by omega) _).mono ?_
  rintro e w' ⟨rfl, rfl⟩
  rw [Hc.out]
  go_wp2_with fail
  refine (A1 _).mono ?_
  rintro e w' ⟨rfl, rfl⟩
  go_wp2_with fail
  refine (known_any _).mono ?_
  rintro e w1 ⟨rfl, B1⟩
  go_wp2_with fail
  refine (A2 _).mono ?_
  rintro e w' ⟨rfl, rfl⟩
  go_wp2_with fail
  refine (A3 _).mono ?_
  rintro e w' ⟨rfl, rfl⟩
  go_wp2_with fail
  refine (A4 _).mono ?_
  rintro e w' ⟨rfl, rfl⟩
  go_wp2_with fail
  refine (A5 _).mono ?_
  rintro e w' ⟨rfl, rfl⟩
  go_wp2_with fail
  refine (A6 _).mono ?_
  rintro e w' ⟨rfl, rfl⟩
  go_wp2_with fail
  refine (A7 _).mono ?_
  rintro e w2 ⟨rfl, B2⟩
  replace B1 := B1.trans (B2.mono B1.size)
  clear B2
  go_wp2_with fail
  refine (A8 _).mono ?_
  rintro e w3 ⟨rfl, B2⟩
  replace B1 := B1.trans (B2.mono B1.size)
  clear B2
  go_wp2
  go_ret
  exact ⟨rfl, B1⟩
end Go.Proofs.Ytffkbombeaojjaa
