/-
  Beside the reference's stream: new blocks, rows of the call's own; what own tells, as plain functions.
-/
import Derived.Test.YtahibacjaoohiaaDoorRCod
import Derived.Test.YtahibacjaoohiaaDoorOwnp
namespace Go.Proofs.YtahibacjaoohiaaDoor
open Go.RowKit

theorem RFl.new {w w1 w2 : World} {B s sb : Nat} {a : Option Addr} {len cap : Nat} {z : Nat → Nat} {mo : Int} {E0 E : Nat} {v : Value} {p q : Nat} {out : List Int} {k : Nat} (h0 : RFl w B s sb a len cap z mo E0 v p out) (h1 : RFl w1 B s sb a len cap z mo E v q out) (hk : Kept (fun i => i = k) w1 w2) (hn : w.heap.size ≤ k) : RFl w2 B s sb a len cap z mo E v q out := by
  have hl : ∀ i, Mine s sb v i → ¬ (i = k) := fun i e e2 => by have := (h0.mine e).2; omega
  exact ⟨hk.blk h1.obj (hl s (.inl rfl)), h1.bits.kept hk (hl sb (.inr (.inl rfl))) (fun hl b off ea e => by have := h0.far b off hl ea; have := h0.sz; omega), h1.own.kept' hk (fun i hi => hl i (.inr (.inr hi))), h1.byte, h1.fit, h1.far, h1.bs, h1.bb, Nat.le_trans h1.sz hk.size⟩
theorem RFl.row {w w1 w2 : World} {B s sb : Nat} {a : Option Addr} {len cap : Nat} {z : Nat → Nat} {mo : Int} {E0 E : Nat} {v : Value} {p q : Nat} {out : List Int} {u u' : Value} {acc : List Int} (h0 : RFl w B s sb a len cap z mo E0 v p out) (h1 : RFl w1 B s sb a len cap z mo E v q out) (M1 : Moves s sb v v w w1) (hO : OwnV w1 w.heap.size 3 .i64 u acc) (m : RowM u u' w1 w2) :
    RFl w2 B s sb a len cap z mo E v q out ∧ Moves s sb v v w w2 := by
  have hu : ∀ k, u.ownBlock = some k → w.heap.size ≤ k := fun k hk => (World.ownsRow.lt hO k hk).1
  have M2 : Moves s sb v v w w2 := ⟨⟨m.kept.os.trans M1.kept.os, m.kept.tape.trans M1.kept.tape, m.kept.output.trans M1.kept.output, Nat.le_trans M1.kept.size m.kept.size, fun k hk ha => by
    rw [m.kept.block k (Nat.lt_of_lt_of_le hk M1.kept.size) (fun e => by have := hu k e; omega)]; exact M1.kept.block k hk ha⟩, .inl rfl⟩
  have ns : ∀ k, k < w.heap.size → ¬ (u.ownBlock = some k) := fun k hk e => by have := hu k e; omega
  exact ⟨⟨m.kept.blk h1.obj (ns s (blk_lt h0.obj)), h1.bits.kept m.kept (ns sb (blk_lt h0.bits.obj)) (fun hl b off ea => ns b (by have := h0.far b off hl ea; have := h0.sz; omega)), h1.own.kept' m.kept (fun i hi => ns i (h0.mine (.inr (.inr hi))).2), h1.byte, h1.fit, h1.far, h1.bs, h1.bb, Nat.le_trans h1.sz m.kept.size⟩, M2⟩
theorem OwnV.rmoves {w w1 w2 : World} {B s sb : Nat} {a : Option Addr} {len cap : Nat} {z : Nat → Nat} {mo : Int} {E0 : Nat} {v : Value} {p : Nat} {out : List Int} {u : Value} {acc : List Int} (h0 : RFl w B s sb a len cap z mo E0 v p out) (hO : OwnV w1 w.heap.size 3 .i64 u acc) (M : Moves s sb v v w1 w2) : OwnV w2 w.heap.size 3 .i64 u acc :=
  hO.kept' M.kept (fun i hi e => by have := (h0.mine e).2; have := (World.ownsRow.lt hO i hi).1; omega)
theorem rftake_y (B s sb : Nat) (a : Option Addr) (len cap : Nat) (z : Nat → Nat) (mo : Int) (v : Value) (p : Nat) (out : List Int) (n : Nat) (hn : n ≤ 24) (w : World) (h : RFl w B s sb a len cap z mo 0 v p out) (hp : p + n ≤ 8 * len) :
    Calls Tryd.prog 30 #[.pointer (some ⟨s, 0, none⟩), .int .i64 (n : Nat)] w fun e w' => e = .returned (.int .i64 (takev z p n : Nat)) ∧ RFl w' B s sb a len cap z mo 0 v (p + n) out ∧ Moves s sb v v w w' :=
  (rftake_any B s sb a len cap z mo 0 v p out n hn w h).mono (by
    rintro e w' ⟨t, p', E', rfl, hF, hM, ⟨_, rfl, rfl, rfl⟩ | ⟨hx, _⟩⟩
    · exact ⟨rfl, hF, hM⟩
    · exact absurd hp hx)
theorem rftake_n (B s sb : Nat) (a : Option Addr) (len cap : Nat) (z : Nat → Nat) (mo : Int) (v : Value) (p : Nat) (out : List Int) (n : Nat) (hn : n ≤ 24) (w : World) (h : RFl w B s sb a len cap z mo 0 v p out) (hp : ¬ p + n ≤ 8 * len) :
    Calls Tryd.prog 30 #[.pointer (some ⟨s, 0, none⟩), .int .i64 (n : Nat)] w fun e w' => e = .returned (.int .i64 0) ∧ RFl w' B s sb a len cap z mo 3 v p out ∧ Moves s sb v v w w' :=
  (rftake_any B s sb a len cap z mo 0 v p out n hn w h).mono (by
    rintro e w' ⟨t, p', E', rfl, hF, hM, ⟨hx, _⟩ | ⟨_, rfl, rfl, rfl⟩⟩
    · exact absurd hx hp
    · exact ⟨rfl, hF, hM⟩)

/-- What a block with codes of its own says. -/
def ownCE (z : Nat → Nat) (lim most p : Nat) (out : List Int) : Except Nat St := match ownE z lim p with
    | .error e => .error e
    | .ok x => codedE x.1.L x.1.N x.1.D x.1.M z lim most (x.2, out)
def ownF (H Dn : Nat) (z : Nat → Nat) (lim most : Nat) (out : List Int) : Except Nat St → Except Nat St
  | .error e => .error e
  | .ok st => match pairE st.2 H Dn with
    | .error e => .error e
    | .ok c => codedE c.L c.N c.D c.M z lim most (st.1, out)
theorem own_short {z : Nat → Nat} {lim most p : Nat} {out : List Int} (h : ¬ p + 14 ≤ lim) : ownCE z lim most p out = .error 3 := by
  unfold ownCE ownE; rw [if_neg h]
theorem own_big {z : Nat → Nat} {lim most p H Dn : Nat} {out : List Int} (h : p + 14 ≤ lim) (hH : 257 + takev z p 5 = H) (hD : 1 + takev z (p + 5) 5 = Dn) (hb : 286 < H ∨ 30 < Dn) : ownCE z lim most p out = .error 2 := by
  unfold ownCE ownE; rw [if_pos h, if_pos (by omega)]
theorem own_lens_short {z : Nat → Nat} {lim most p H Dn C4 : Nat} {out : List Int} (h : p + 14 ≤ lim) (hH : 257 + takev z p 5 = H) (hD : 1 + takev z (p + 5) 5 = Dn) (hC : 4 + takev z (p + 10) 4 = C4) (hb : ¬ (286 < H ∨ 30 < Dn)) (h2 : ¬ p + 14 + 3 * C4 ≤ lim) : ownCE z lim most p out = .error 3 := by
  unfold ownCE ownE; rw [if_pos h, if_neg (by omega), if_neg (by omega)]
theorem own_lens_bad {z : Nat → Nat} {lim most p H Dn C4 : Nat} {out : List Int} (h : p + 14 ≤ lim) (hH : 257 + takev z p 5 = H) (hD : 1 + takev z (p + 5) 5 = Dn) (hC : 4 + takev z (p + 10) 4 = C4) (hb : ¬ (286 < H ∨ 30 < Dn)) (h2 : p + 14 + 3 * C4 ≤ lim) (h3 : ¬ okc (shL z (p + 14) C4) 19 = true) : ownCE z lim most p out = .error 2 := by
  have e : takev z (p + 10) 4 + 4 = C4 := by omega
  unfold ownCE ownE; rw [if_pos h, if_neg (by omega), if_pos (by omega), e, if_neg h3]
theorem own_lens_ok {z : Nat → Nat} {lim most p H Dn C4 N : Nat} {out : List Int} (h : p + 14 ≤ lim) (hH : 257 + takev z p 5 = H) (hD : 1 + takev z (p + 5) 5 = Dn) (hC : 4 + takev z (p + 10) 4 = C4) (hN : H + Dn = N) (hb : ¬ (286 < H ∨ 30 < Dn)) (h2 : p + 14 + 3 * C4 ≤ lim) (h3 : okc (shL z (p + 14) C4) 19 = true) : ownCE z lim most p out = ownF H Dn z lim most out (lensE (shL z (p + 14) C4) N z lim (p + 14 + 3 * C4, [])) := by
  have e : takev z (p + 10) 4 + 4 = C4 := by omega
  have e2 : takev z p 5 + 257 = H := by omega
  have e3 : takev z (p + 5) 5 + 1 = Dn := by omega
  unfold ownCE ownE; rw [if_pos h, if_neg (by omega), if_pos (by omega), e, e2, e3, hN, if_pos h3]
  cases lensE (shL z (p + 14) C4) N z lim (p + 14 + 3 * C4, []) with
  | error e => rfl
  | ok st =>
    show _ = ownF H Dn z lim most out (.ok st)
    unfold ownF
    simp only
    cases pairE st.2 H Dn with
    | error e => rfl
    | ok c => rfl
theorem pair_zero {acc : List Int} {H Dn : Nat} (h : acc.getD 256 0 = 0) : pairE acc H Dn = .error 2 := by unfold pairE; rw [if_pos h]
theorem pair_bad1 {acc : List Int} {H Dn : Nat} (hy : ¬ acc.getD 256 0 = 0) (h : ¬ okc (nthL acc 0) H = true) : pairE acc H Dn = .error 2 := by unfold pairE; rw [if_neg hy, if_neg h]
theorem pair_bad2 {acc : List Int} {H Dn : Nat} (hy : ¬ acc.getD 256 0 = 0) (h : okc (nthL acc 0) H = true) (h2 : ¬ okc (nthL acc H) Dn = true) : pairE acc H Dn = .error 2 := by unfold pairE; rw [if_neg hy, if_pos h, if_neg h2]
theorem pair_ok {acc : List Int} {H Dn : Nat} (hy : ¬ acc.getD 256 0 = 0) (h : okc (nthL acc 0) H = true) (h2 : okc (nthL acc H) Dn = true) : pairE acc H Dn = .ok ⟨nthL acc 0, H, nthL acc H, Dn⟩ := by unfold pairE; rw [if_neg hy, if_pos h, if_pos h2]
theorem ownF_err {H Dn : Nat} {z : Nat → Nat} {lim most e q : Nat} {out acc : List Int} (h : pairE acc H Dn = .error e) : ownF H Dn z lim most out (.ok (q, acc)) = .error e := by unfold ownF; simp only; rw [h]
theorem ownF_ok {H Dn : Nat} {z : Nat → Nat} {lim most q : Nat} {out acc : List Int} {c : Pr} (h : pairE acc H Dn = .ok c) : ownF H Dn z lim most out (.ok (q, acc)) = codedE c.L c.N c.D c.M z lim most (q, out) := by unfold ownF; simp only; rw [h]
theorem lens_sym {A : Nat → Nat} {count : Nat} {z : Nat → Nat} {lim p e : Nat} {acc : List Int} (hc : acc.length < count) (hE : symE A 19 z lim p = .error e) : lensE A count z lim (p, acc) = .error e :=
  lensE_done (by unfold lensS; rw [if_neg (by simp; omega), hE])
theorem lens_run {A : Nat → Nat} {count : Nat} {z : Nat → Nat} {lim p e n q : Nat} {acc : List Int} (hc : acc.length < count) (hE : symE A 19 z lim p = .ok (n, q)) (hr : runE z lim q n acc = .error e) : lensE A count z lim (p, acc) = .error e :=
  lensE_done (by unfold lensS; rw [if_neg (by simp; omega), hE]; simp only; rw [hr])
theorem lens_big {A : Nat → Nat} {count : Nat} {z : Nat → Nat} {lim p n q t q2 : Nat} {l : Int} {acc : List Int} (hc : acc.length < count) (hE : symE A 19 z lim p = .ok (n, q)) (hr : runE z lim q n acc = .ok (l, t, q2)) (hb : count < acc.length + t) : lensE A count z lim (p, acc) = .error 2 :=
  lensE_done (by unfold lensS; rw [if_neg (by simp; omega), hE]; simp only; rw [hr]; simp only; rw [if_pos (by omega)])
theorem lens_more {A : Nat → Nat} {count : Nat} {z : Nat → Nat} {lim p n q t q2 : Nat} {l : Int} {acc : List Int} (h15 : ∀ y ∈ acc, 0 ≤ y ∧ y ≤ 15) (hc : acc.length < count) (hE : symE A 19 z lim p = .ok (n, q)) (hr : runE z lim q n acc = .ok (l, t, q2)) (hb : ¬ count < acc.length + t) : lensE A count z lim (p, acc) = lensE A count z lim (q2, acc ++ List.replicate t l) :=
  lensE_more (by unfold lensS; rw [if_neg (by simp; omega), hE]; simp only; rw [hr]; simp only; rw [if_neg (by omega)]) h15
theorem lens_end {A : Nat → Nat} {count : Nat} {z : Nat → Nat} {lim p : Nat} {acc : List Int} (hc : ¬ acc.length < count) : lensE A count z lim (p, acc) = .ok (p, acc) :=
  lensE_done (by unfold lensS; rw [if_pos (by simp; omega)])
theorem h15_app {acc : List Int} {t : Nat} {l : Int} (h : ∀ y ∈ acc, 0 ≤ y ∧ y ≤ 15) (hl : 0 ≤ l ∧ l ≤ 15) : ∀ y ∈ acc ++ List.replicate t l, 0 ≤ y ∧ y ≤ 15 := fun y hy => by
  simp at hy
  rcases hy with hy | hy
  · exact h y hy
  · rw [hy.2]; exact hl

def z19 : Array Value := #[.int .i64 0, .int .i64 0, .int .i64 0, .int .i64 0, .int .i64 0, .int .i64 0, .int .i64 0, .int .i64 0, .int .i64 0, .int .i64 0, .int .i64 0, .int .i64 0, .int .i64 0, .int .i64 0, .int .i64 0, .int .i64 0, .int .i64 0, .int .i64 0, .int .i64 0]
def ord19 : Array Value := #[.int .i64 16, .int .i64 17, .int .i64 18, .int .i64 0, .int .i64 8, .int .i64 7, .int .i64 9, .int .i64 6, .int .i64 10, .int .i64 5, .int .i64 11, .int .i64 4, .int .i64 12, .int .i64 3, .int .i64 13, .int .i64 2, .int .i64 14, .int .i64 1, .int .i64 15]
theorem ord19_get (k : Nat) (h : k < 19) : ord19[k]? = some (.int .i64 ((ord k : Nat) : Int)) := by
  rcases (show k = 0 ∨ k = 1 ∨ k = 2 ∨ k = 3 ∨ k = 4 ∨ k = 5 ∨ k = 6 ∨ k = 7 ∨ k = 8 ∨ k = 9 ∨ k = 10 ∨ k = 11 ∨ k = 12 ∨ k = 13 ∨ k = 14 ∨ k = 15 ∨ k = 16 ∨ k = 17 ∨ k = 18 by omega) with rfl | rfl | rfl | rfl | rfl | rfl | rfl | rfl | rfl | rfl | rfl | rfl | rfl | rfl | rfl | rfl | rfl | rfl | rfl <;> rfl
theorem size94 : (Tryd.prog.info? 94).map (·.size) = some 19 := by kernel_rfl
theorem one19 : (#[.int .i64 16, .int .i64 17, .int .i64 18, .int .i64 0, .int .i64 8, .int .i64 7, .int .i64 9, .int .i64 6, .int .i64 10, .int .i64 5, .int .i64 11, .int .i64 4, .int .i64 12, .int .i64 3, .int .i64 13, .int .i64 2, .int .i64 14, .int .i64 1, .int .i64 15] : Array Value).all (·.oneCell') = true := by simp [Value.oneCell']
theorem put19 : putA z19 0 (#[.int .i64 16, .int .i64 17, .int .i64 18, .int .i64 0, .int .i64 8, .int .i64 7, .int .i64 9, .int .i64 6, .int .i64 10, .int .i64 5, .int .i64 11, .int .i64 4, .int .i64 12, .int .i64 3, .int .i64 13, .int .i64 2, .int .i64 14, .int .i64 1, .int .i64 15] : Array Value).toList = ord19 := by rfl
end Go.Proofs.YtahibacjaoohiaaDoor
