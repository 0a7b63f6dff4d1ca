/-
  Chapter 13 in whole numbers: each mode, of one number, of three numbers, of two pixels; facts on them. No Go text is walked here.
-/
import Derived.Test.YtdaapanmalcgbaaDoorNum
namespace Go.Proofs.YtdaapanmalcgbaaDoor
open Go.RowKit

def minv (a b : Int) : Int := if b < a then b else a
def maxv (a b : Int) : Int := if a < b then b else a
theorem minv_comm (a b : Int) : minv a b = minv b a := by unfold minv; repeat' split <;> omega
theorem maxv_comm (a b : Int) : maxv a b = maxv b a := by unfold maxv; repeat' split <;> omega
theorem minv_self (a : Int) : minv a a = a := by unfold minv; split <;> rfl
theorem maxv_self (a : Int) : maxv a a = a := by unfold maxv; split <;> rfl
theorem minv_le (a b : Int) : minv a b ≤ a := by unfold minv; split <;> omega
theorem minv_ge {a b : Int} (h : 0 ≤ a) (h2 : 0 ≤ b) : 0 ≤ minv a b := by unfold minv; split <;> omega

/-- s's part f and d's part g, at most 255. -/
def sumv (s d f g : Int) : Int := addv (partv s f) (partv d g)
theorem sumv_bd (s d f g : Int) : 0 ≤ sumv s d f g ∧ sumv s d f g ≤ 255 := addv_bd (partv_bd s f).1 (partv_bd d g).1
theorem sumv_mono {s d t u f g : Int} (h0 : 0 ≤ s) (h : s ≤ t) (h1 : t ≤ 255) (k0 : 0 ≤ d) (k : d ≤ u) (k1 : u ≤ 255) : sumv s d f g ≤ sumv t u f g :=
  addv_mono (partv_mono h0 h h1) (partv_mono k0 k k1)
theorem addv_comm (a b : Int) : addv a b = addv b a := by unfold addv; rw [Int.add_comm]
theorem sumv_swap (s d f g : Int) : sumv s d f g = sumv d s g f := addv_comm _ _

def screenv (c b : Int) : Int := 255 - partv (255 - c) (255 - b)
def dodgev (c b : Int) : Int := if b = 0 then 0 else if c = 255 then 255 else if b * 255 / (255 - c) < 255 then b * 255 / (255 - c) else 255
def burnv (c b : Int) : Int := if b = 255 then 255 else if c = 0 then 0 else 255 - (if (255 - b) * 255 / c < 255 then (255 - b) * 255 / c else 255)
def hardv (c b : Int) : Int := if c ≤ 127 then partv (2 * c) b else screenv (2 * c - 255) b
def softv (c b : Int) : Int := addv (partv (255 - c) (partv b b)) (partv c (screenv b b))
def diffv (c b : Int) : Int := maxv c b - minv c b
def exclv (c b : Int) : Int := maxv 0 (c + b - 2 * partv c b)
/-- Modes 13 to 23, of one number. -/
def alonev (m c b : Int) : Int :=
  if m = 13 then screenv c b else if m = 14 then hardv b c else if m = 15 then minv c b else if m = 16 then maxv c b
  else if m = 17 then dodgev c b else if m = 18 then burnv c b else if m = 19 then hardv c b else if m = 20 then softv c b
  else if m = 21 then diffv c b else if m = 22 then exclv c b else partv c b

/-- Three numbers. -/
structure T3 where
  x : Int
  y : Int
  z : Int
abbrev tv (t : T3) : Value := .agg #[.int .i64 t.x, .int .i64 t.y, .int .i64 t.z]
abbrev tcs (t : T3) : Array Value := #[.int .i64 t.x, .int .i64 t.y, .int .i64 t.z]
/-- Each within 0 to 255. -/
structure In3 (t : T3) : Prop where
  x0 : 0 ≤ t.x
  x1 : t.x ≤ 255
  y0 : 0 ≤ t.y
  y1 : t.y ≤ 255
  z0 : 0 ≤ t.z
  z1 : t.z ≤ 255
def colv (p : Px) : T3 := ⟨p.r, p.g, p.b⟩
theorem colv_in {p : Px} (h : Rt p) : In3 (colv p) := ⟨h.r0, h.r1, h.g0, h.g1, h.b0, h.b1⟩
def lumv (t : T3) : Int := (30 * t.x + 59 * t.y + 11 * t.z) / 100
def least (t : T3) : Int := minv (minv t.x t.y) t.z
def great (t : T3) : Int := maxv (maxv t.x t.y) t.z
def satv (t : T3) : Int := great t - least t
def satedv (t : T3) (n : Int) : T3 := if satv t = 0 then ⟨0, 0, 0⟩ else ⟨(t.x - least t) * n / satv t, (t.y - least t) * n / satv t, (t.z - least t) * n / satv t⟩
def upv (t : T3) (n : Int) : T3 := ⟨t.x + n, t.y + n, t.z + n⟩
def drawv (t : T3) (l n d : Int) : T3 := ⟨l + (t.x - l) * n / d, l + (t.y - l) * n / d, l + (t.z - l) * n / d⟩
def win3 (t : T3) : T3 := ⟨win t.x 255, win t.y 255, win t.z 255⟩
def lit1 (u : T3) : T3 := if least u < 0 ∧ ¬ lumv u = least u then drawv u (lumv u) (lumv u) (lumv u - least u) else u
def lit2 (u : T3) : T3 := if 255 < great u ∧ ¬ lumv u = great u then drawv (lit1 u) (lumv u) (255 - lumv u) (great u - lumv u) else lit1 u
def litv (t : T3) (n : Int) : T3 := win3 (lit2 (upv t (n - lumv t)))
/-- Modes 13 to 27, of three numbers. -/
def mixturev (m : Int) (c b : T3) : T3 :=
  if m = 24 then litv (satedv c (satv b)) (lumv b) else if m = 25 then litv (satedv b (satv c)) (lumv b)
  else if m = 26 then litv c (lumv b) else if m = 27 then litv b (lumv c)
  else ⟨alonev m c.x b.x, alonev m c.y b.y, alonev m c.z b.z⟩

/-- What s, and d, is a part of in modes 0 to 12. -/
def facs (m da : Int) : Int :=
  if m = 0 then 0 else if m = 1 then 255 else if m = 2 then 0 else if m = 3 then 255 else if m = 4 then 255 - da else if m = 5 then da
  else if m = 6 then 0 else if m = 7 then 255 - da else if m = 8 then 0 else if m = 9 then da else if m = 10 then 255 - da else if m = 11 then 255 - da else 255
def facd (m sa : Int) : Int :=
  if m = 0 then 0 else if m = 1 then 0 else if m = 2 then 255 else if m = 3 then 255 - sa else if m = 4 then 255 else if m = 5 then 0
  else if m = 6 then sa else if m = 7 then 0 else if m = 8 then 255 - sa else if m = 9 then 255 - sa else if m = 10 then sa else if m = 11 then 255 - sa else 255
def weighv (s d : Px) (f g : Int) : Px := ⟨sumv s.r d.r f g, sumv s.g d.g f g, sumv s.b d.b f g, sumv s.a d.a f g⟩
def alphav (s d : Px) : Int := sumv s.a d.a 255 (255 - s.a)
def metc (s d : Px) (x y e : Int) : Int := minv (alphav s d) (partv x (255 - d.a) + partv y (255 - s.a) + partv (partv s.a d.a) e)
def metv (m : Int) (s d : Px) : Px :=
  ⟨metc s d s.r d.r (mixturev m (colv (barev s)) (colv (barev d))).x, metc s d s.g d.g (mixturev m (colv (barev s)) (colv (barev d))).y,
   metc s d s.b d.b (mixturev m (colv (barev s)) (colv (barev d))).z, alphav s d⟩
def blendv (m : Int) (s d : Px) : Px := if m < 13 then weighv s d (facs m d.a) (facd m s.a) else metv m s d
def mayv (m : Int) (s d : Px) : Bool := decide (0 ≤ m) && decide (m < 28) && premv s && premv d
def outv (m : Int) (s d : Px) : Px := if mayv m s d = true then blendv m s d else zpx

theorem barev_rt (p : Px) : Rt (barev p) := by
  have h := ownv_rt p
  unfold barev
  split
  · exact zpx_rt
  · have h1 : 1 ≤ (ownv p).a := by have := h.a0; omega
    exact ⟨(baredv_bd h.r0 h1).1, (baredv_bd h.r0 h1).2, (baredv_bd h.g0 h1).1, (baredv_bd h.g0 h1).2, (baredv_bd h.b0 h1).1, (baredv_bd h.b0 h1).2, h.a0, h.a1⟩
theorem least_le (t : T3) : least t ≤ t.x ∧ least t ≤ t.y ∧ least t ≤ t.z := by unfold least minv; repeat' split <;> omega
theorem great_ge (t : T3) : t.x ≤ great t ∧ t.y ≤ great t ∧ t.z ≤ great t := by unfold great maxv; repeat' split <;> omega
theorem least_is (t : T3) : least t = t.x ∨ least t = t.y ∨ least t = t.z := by unfold least minv; repeat' split <;> omega
theorem great_is (t : T3) : great t = t.x ∨ great t = t.y ∨ great t = t.z := by unfold great maxv; repeat' split <;> omega
theorem lumv_bd (t : T3) : least t ≤ lumv t ∧ lumv t ≤ great t := by
  have h1 := least_le t
  have h2 := great_ge t
  unfold lumv; omega
theorem satv_bd {t : T3} (h : In3 t) : 0 ≤ satv t ∧ satv t ≤ 255 := by
  have h1 := least_is t
  have h2 := great_is t
  have h3 := least_le t
  have h4 := great_ge t
  obtain ⟨_, _, _, _, _, _⟩ := h
  unfold satv; omega
theorem lumv_in {t : T3} (h : In3 t) : 0 ≤ lumv t ∧ lumv t ≤ 255 := by
  obtain ⟨_, _, _, _, _, _⟩ := h
  unfold lumv; omega
theorem quo_le {a n d : Int} (ha : 0 ≤ a) (had : a ≤ d) (hn : 0 ≤ n) (hd : 0 < d) : 0 ≤ a * n / d ∧ a * n / d ≤ n := by
  refine ⟨Int.ediv_nonneg (Int.mul_nonneg ha hn) (by omega), ?_⟩
  have h : a * n ≤ n * d := by rw [Int.mul_comm n d]; exact Int.mul_le_mul_of_nonneg_right had hn
  have := Int.ediv_le_ediv hd h
  rwa [Int.mul_ediv_cancel _ (by omega)] at this
theorem satedv_in {t : T3} {n : Int} (hn : 0 ≤ n) (hn2 : n ≤ 255) : In3 (satedv t n) := by
  have h1 := least_is t
  have h2 := great_is t
  have h3 := least_le t
  have h4 := great_ge t
  unfold satedv
  split
  · exact ⟨by decide, by decide, by decide, by decide, by decide, by decide⟩
  · rename_i hs
    have hd : 0 < satv t := by unfold satv at hs ⊢; omega
    have hx := quo_le (a := t.x - least t) (n := n) (d := satv t) (by omega) (by unfold satv; omega) hn hd
    have hy := quo_le (a := t.y - least t) (n := n) (d := satv t) (by omega) (by unfold satv; omega) hn hd
    have hz := quo_le (a := t.z - least t) (n := n) (d := satv t) (by omega) (by unfold satv; omega) hn hd
    exact ⟨hx.1, by dsimp only; omega, hy.1, by dsimp only; omega, hz.1, by dsimp only; omega⟩
theorem win3_in (t : T3) : In3 (win3 t) := by
  have hx := win_bd (n := t.x) (m := 255) (by omega)
  have hy := win_bd (n := t.y) (m := 255) (by omega)
  have hz := win_bd (n := t.z) (m := 255) (by omega)
  exact ⟨hx.1, hx.2, hy.1, hy.2, hz.1, hz.2⟩
theorem lum_up (t : T3) (n : Int) : lumv (upv t n) = lumv t + n := by unfold lumv upv; dsimp only; omega

theorem alphav_bd (s d : Px) : 0 ≤ alphav s d ∧ alphav s d ≤ 255 := sumv_bd _ _ _ _
theorem metc_bd (s d : Px) (x y e : Int) : 0 ≤ metc s d x y e ∧ metc s d x y e ≤ alphav s d := by
  have h1 := partv_bd x (255 - d.a)
  have h2 := partv_bd y (255 - s.a)
  have h3 := partv_bd (partv s.a d.a) e
  exact ⟨minv_ge (alphav_bd s d).1 (by omega), minv_le _ _⟩
theorem metv_pm (m : Int) (s d : Px) : Pm (metv m s d) := by
  have h := alphav_bd s d
  have hr := metc_bd s d s.r d.r (mixturev m (colv (barev s)) (colv (barev d))).x
  have hg := metc_bd s d s.g d.g (mixturev m (colv (barev s)) (colv (barev d))).y
  have hb := metc_bd s d s.b d.b (mixturev m (colv (barev s)) (colv (barev d))).z
  exact ⟨⟨hr.1, Int.le_trans hr.2 h.2, hg.1, Int.le_trans hg.2 h.2, hb.1, Int.le_trans hb.2 h.2, h.1, h.2⟩, hr.2, hg.2, hb.2⟩
theorem weighv_pm {s d : Px} (hs : Pm s) (hd : Pm d) (f g : Int) : Pm (weighv s d f g) :=
  ⟨⟨(sumv_bd _ _ _ _).1, (sumv_bd _ _ _ _).2, (sumv_bd _ _ _ _).1, (sumv_bd _ _ _ _).2, (sumv_bd _ _ _ _).1, (sumv_bd _ _ _ _).2, (sumv_bd _ _ _ _).1, (sumv_bd _ _ _ _).2⟩,
   sumv_mono hs.rt.r0 hs.r hs.rt.a1 hd.rt.r0 hd.r hd.rt.a1, sumv_mono hs.rt.g0 hs.g hs.rt.a1 hd.rt.g0 hd.g hd.rt.a1, sumv_mono hs.rt.b0 hs.b hs.rt.a1 hd.rt.b0 hd.b hd.rt.a1⟩
theorem blendv_pm (m : Int) {s d : Px} (hs : Pm s) (hd : Pm d) : Pm (blendv m s d) := by
  unfold blendv; split
  · exact weighv_pm hs hd _ _
  · exact metv_pm m s d
theorem mayv_of {m : Int} {s d : Px} (h0 : 0 ≤ m) (h1 : m < 28) (hs : Pm s) (hd : Pm d) : mayv m s d = true := by
  unfold mayv; rw [(premv_iff s).2 hs, (premv_iff d).2 hd, decide_eq_true h0, decide_eq_true h1]; rfl
theorem outv_of {m : Int} {s d : Px} (h0 : 0 ≤ m) (h1 : m < 28) (hs : Pm s) (hd : Pm d) : outv m s d = blendv m s d := if_pos (mayv_of h0 h1 hs hd)

theorem part_0l (a : Int) : partv 0 a = 0 := by rw [partv_comm, partv_0]
theorem zpx_pm : Pm zpx := ⟨zpx_rt, by decide, by decide, by decide⟩
theorem alpha_upon {s : Px} (h : Pm s) : alphav s zpx = s.a := by
  unfold alphav sumv; simp only [zpx]; rw [part_0l, partv_255 h.rt.a0 h.rt.a1, addv_0 h.rt.a1]
theorem alpha_of {d : Px} (h : Pm d) : alphav zpx d = d.a := by
  unfold alphav sumv; simp only [zpx]; rw [part_0l, Int.sub_zero, partv_255 h.rt.a0 h.rt.a1, addv_0' h.rt.a1]
theorem metc_upon {s : Px} (h : Pm s) {x : Int} (h0 : 0 ≤ x) (hx : x ≤ s.a) (e : Int) : metc s zpx x 0 e = x := by
  have ha := h.rt.a1
  unfold metc
  rw [alpha_upon h]
  simp only [zpx]
  rw [Int.sub_zero, partv_255 h0 (by omega), part_0l, partv_0, part_0l]
  unfold minv; split <;> omega
theorem metc_of {d : Px} (h : Pm d) {x : Int} (h0 : 0 ≤ x) (hx : x ≤ d.a) (e : Int) : metc zpx d 0 x e = x := by
  have ha := h.rt.a1
  unfold metc
  rw [alpha_of h]
  simp only [zpx]
  rw [Int.sub_zero, partv_255 h0 (by omega), part_0l, part_0l, part_0l]
  unfold minv; split <;> omega
theorem blend_upon {m : Int} (hm : 13 ≤ m) {s : Px} (h : Pm s) : blendv m s zpx = s := by
  unfold blendv
  rw [if_neg (by omega)]
  unfold metv
  have e0 : zpx.r = 0 := rfl
  have e1 : zpx.g = 0 := rfl
  have e2 : zpx.b = 0 := rfl
  rw [e0, e1, e2, metc_upon h h.rt.r0 h.r, metc_upon h h.rt.g0 h.g, metc_upon h h.rt.b0 h.b, alpha_upon h]
theorem blend_of {m : Int} (hm : 13 ≤ m) {d : Px} (h : Pm d) : blendv m zpx d = d := by
  unfold blendv
  rw [if_neg (by omega)]
  unfold metv
  have e0 : zpx.r = 0 := rfl
  have e1 : zpx.g = 0 := rfl
  have e2 : zpx.b = 0 := rfl
  rw [e0, e1, e2, metc_of h h.rt.r0 h.r, metc_of h h.rt.g0 h.g, metc_of h h.rt.b0 h.b, alpha_of h]
theorem weigh_swap (s d : Px) (f g : Int) : weighv s d f g = weighv d s g f := by
  unfold weighv; rw [sumv_swap s.r, sumv_swap s.g, sumv_swap s.b, sumv_swap s.a]
/-- Modes that are said by two numbers alone, turned about. -/
theorem blend_pairs (s d : Px) : blendv 1 s d = blendv 2 d s ∧ blendv 3 s d = blendv 4 d s ∧ blendv 5 s d = blendv 6 d s ∧ blendv 7 s d = blendv 8 d s ∧ blendv 9 s d = blendv 10 d s ∧ blendv 11 s d = blendv 11 d s ∧ blendv 12 s d = blendv 12 d s := by
  refine ⟨?_, ?_, ?_, ?_, ?_, ?_, ?_⟩ <;> (unfold blendv; rw [if_pos (by decide), if_pos (by decide)]; exact weigh_swap _ _ _ _)

theorem screenv_comm (c b : Int) : screenv c b = screenv b c := by unfold screenv; rw [partv_comm]
theorem diffv_comm (c b : Int) : diffv c b = diffv b c := by unfold diffv; rw [maxv_comm, minv_comm]
theorem exclv_comm (c b : Int) : exclv c b = exclv b c := by unfold exclv; rw [partv_comm, Int.add_comm c b]
theorem alphav_comm {s d : Px} (hs : Pm s) (hd : Pm d) : alphav s d = alphav d s := by
  have h1 := hs.rt.a0
  have h2 := hs.rt.a1
  have h3 := hd.rt.a0
  have h4 := hd.rt.a1
  unfold alphav sumv
  rw [partv_255 h1 h2, partv_255 h3 h4]
  unfold partv
  rw [win_id h3 h4, win_id h1 h2, win_id (n := 255 - s.a) (by omega) (by omega), win_id (n := 255 - d.a) (by omega) (by omega), Int.mul_sub, Int.mul_sub, Int.mul_comm d.a s.a]
  generalize s.a * d.a = k
  unfold addv; repeat' split <;> omega
theorem metc_swap {s d : Px} (hs : Pm s) (hd : Pm d) (x y e : Int) : metc s d x y e = metc d s y x e := by
  unfold metc
  rw [alphav_comm hs hd, partv_comm s.a d.a, Int.add_comm (partv x _)]
theorem met_swap {m n : Int} {s d : Px} (hs : Pm s) (hd : Pm d) (h : mixturev m (colv (barev s)) (colv (barev d)) = mixturev n (colv (barev d)) (colv (barev s))) : metv m s d = metv n d s := by
  unfold metv
  rw [h, metc_swap hs hd, metc_swap hs hd, metc_swap hs hd, alphav_comm hs hd]
theorem mix_alone {m : Int} (hm : m < 24) (c b : T3) : mixturev m c b = ⟨alonev m c.x b.x, alonev m c.y b.y, alonev m c.z b.z⟩ := by
  unfold mixturev; rw [if_neg (by omega), if_neg (by omega), if_neg (by omega), if_neg (by omega)]
theorem blend_same {m n : Int} (hm : 13 ≤ m) (hm2 : m < 24) (hn : 13 ≤ n) (hn2 : n < 24) (h : ∀ c b, alonev m c b = alonev n b c) {s d : Px} (hs : Pm s) (hd : Pm d) : blendv m s d = blendv n d s := by
  unfold blendv
  rw [if_neg (by omega), if_neg (by omega)]
  refine met_swap hs hd ?_
  rw [mix_alone hm2, mix_alone hn2, h, h, h]
theorem alone13 (c b : Int) : alonev 13 c b = screenv c b := rfl
theorem alone14 (c b : Int) : alonev 14 c b = hardv b c := rfl
theorem alone15 (c b : Int) : alonev 15 c b = minv c b := rfl
theorem alone16 (c b : Int) : alonev 16 c b = maxv c b := rfl
theorem alone17 (c b : Int) : alonev 17 c b = dodgev c b := rfl
theorem alone18 (c b : Int) : alonev 18 c b = burnv c b := rfl
theorem alone19 (c b : Int) : alonev 19 c b = hardv c b := rfl
theorem alone20 (c b : Int) : alonev 20 c b = softv c b := rfl
theorem alone21 (c b : Int) : alonev 21 c b = diffv c b := rfl
theorem alone22 (c b : Int) : alonev 22 c b = exclv c b := rfl
theorem alone23 (c b : Int) : alonev 23 c b = partv c b := rfl
theorem blend_sames {s d : Px} (hs : Pm s) (hd : Pm d) : blendv 12 s d = blendv 12 d s ∧ blendv 13 s d = blendv 13 d s ∧ blendv 15 s d = blendv 15 d s ∧ blendv 16 s d = blendv 16 d s ∧ blendv 21 s d = blendv 21 d s ∧ blendv 22 s d = blendv 22 d s ∧ blendv 23 s d = blendv 23 d s ∧ blendv 14 s d = blendv 19 d s :=
  ⟨(blend_pairs s d).2.2.2.2.2.2, blend_same (m := 13) (n := 13) (by omega) (by omega) (by omega) (by omega) screenv_comm hs hd, blend_same (m := 15) (n := 15) (by omega) (by omega) (by omega) (by omega) minv_comm hs hd,
   blend_same (m := 16) (n := 16) (by omega) (by omega) (by omega) (by omega) maxv_comm hs hd, blend_same (m := 21) (n := 21) (by omega) (by omega) (by omega) (by omega) diffv_comm hs hd,
   blend_same (m := 22) (n := 22) (by omega) (by omega) (by omega) (by omega) exclv_comm hs hd, blend_same (m := 23) (n := 23) (by omega) (by omega) (by omega) (by omega) partv_comm hs hd,
   blend_same (m := 14) (n := 19) (by omega) (by omega) (by omega) (by omega) (fun _ _ => rfl) hs hd⟩

/-- A whole colour. -/
structure Wh (p : Px) : Prop where
  rt : Rt p
  a : p.a = 255
theorem Wh.pm {p : Px} (h : Wh p) : Pm p := ⟨h.rt, by rw [h.a]; exact h.rt.r1, by rw [h.a]; exact h.rt.g1, by rw [h.a]; exact h.rt.b1⟩
theorem alpha_whole {s d : Px} (hs : Wh s) : alphav s d = 255 := by
  unfold alphav sumv
  rw [hs.a, show (255 : Int) - 255 = 0 by decide, partv_0, partv_255 (by omega) (by omega), addv_0 (by omega)]
theorem blend_whole {m : Int} {s d : Px} (hs : Wh s) (hd : Wh d) (h : m = 3 ∨ m = 4 ∨ m = 9 ∨ m = 10 ∨ 12 < m) : (blendv m s d).a = 255 := by
  unfold blendv
  split
  · show sumv s.a d.a _ _ = 255
    rw [hs.a, hd.a]
    rcases h with rfl | rfl | rfl | rfl | h
    · decide
    · decide
    · decide
    · decide
    · omega
  · exact alpha_whole hs
theorem bare_whole {p : Px} (h : Wh p) : barev p = p := by
  have h2 := h.rt
  obtain ⟨r, g, b, a⟩ := p
  obtain rfl : a = 255 := h.a
  exact (bare_pre h2.r0 h2.r1 h2.g0 h2.g1 h2.b0 h2.b1).2
theorem metc_whole {s d : Px} (hs : Wh s) (hd : Wh d) {x y e : Int} (he : 0 ≤ e) (he2 : e ≤ 255) : metc s d x y e = e := by
  unfold metc
  rw [alpha_whole hs, hs.a, hd.a, show (255 : Int) - 255 = 0 by decide, partv_0, partv_0, partv_255 (a := 255) (by omega) (by omega), partv_comm 255 e, partv_255 he he2]
  unfold minv; split <;> omega
theorem met_whole {m : Int} {s d : Px} (hs : Wh s) (hd : Wh d) (h : In3 (mixturev m (colv s) (colv d))) :
    metv m s d = ⟨(mixturev m (colv s) (colv d)).x, (mixturev m (colv s) (colv d)).y, (mixturev m (colv s) (colv d)).z, 255⟩ := by
  unfold metv
  rw [bare_whole hs, bare_whole hd, metc_whole hs hd h.x0 h.x1, metc_whole hs hd h.y0 h.y1, metc_whole hs hd h.z0 h.z1, alpha_whole hs]
theorem lit_self {t : T3} (h : In3 t) : litv t (lumv t) = t := by
  have h1 := least_is t
  have h2 := great_is t
  obtain ⟨h3, h4, h5, h6, h7, h8⟩ := h
  obtain ⟨x, y, z⟩ := t
  unfold litv
  rw [Int.sub_self, show upv ⟨x, y, z⟩ 0 = ⟨x, y, z⟩ by unfold upv; simp]
  dsimp only at h1 h2 h3 h4 h5 h6 h7 h8
  unfold lit2
  rw [if_neg (by omega)]
  unfold lit1
  rw [if_neg (by omega)]
  unfold win3
  dsimp only
  rw [win_id h3 h4, win_id h5 h6, win_id h7 h8]
theorem blend_self {m : Int} {p : Px} (h : Wh p) (hm : m = 15 ∨ m = 16 ∨ m = 26 ∨ m = 27) : blendv m p p = p := by
  have hi := colv_in h.rt
  have hx : mixturev m (colv p) (colv p) = colv p := by
    rcases hm with rfl | rfl | rfl | rfl
    · show (⟨minv _ _, minv _ _, minv _ _⟩ : T3) = _
      rw [minv_self, minv_self, minv_self]
    · show (⟨maxv _ _, maxv _ _, maxv _ _⟩ : T3) = _
      rw [maxv_self, maxv_self, maxv_self]
    · exact lit_self hi
    · exact lit_self hi
  unfold blendv
  rw [if_neg (by omega), met_whole h h (by rw [hx]; exact hi), hx]
  have := h.a
  cases p; simp_all [colv]
end Go.Proofs.YtdaapanmalcgbaaDoor
