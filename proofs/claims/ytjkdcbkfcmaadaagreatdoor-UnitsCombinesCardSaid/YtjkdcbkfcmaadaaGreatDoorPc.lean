/- Plain facts on products of units: commutative, associative; division undoes them. -/
import Derived.Test.YtjkdcbkfcmaadaaGreatDoorUi
namespace Go.Proofs.YtjkdcbkfcmaadaaGreatDoor
open Go.RowKit Go.Shelf

theorem lim_lt {a b : Int} (hb : 1 ≤ b) : 100000000000 / b < a ↔ 100000000000 < a * b := by
  constructor
  · intro h
    exact Int.lt_mul_of_ediv_lt (by omega) h
  · intro h
    exact Int.ediv_lt_of_lt_mul (by omega) h
theorem limI_comm {a b : Int} (ha : 1 ≤ a) (hb : 1 ≤ b) : limI a b = limI b a := by
  unfold limI
  by_cases h : 100000000000 < a * b
  · rw [if_pos ((lim_lt hb).2 h), if_pos ((lim_lt ha).2 (by rw [Int.mul_comm]; exact h))]
  · rw [if_neg (fun h' => h ((lim_lt hb).1 h')), if_neg (fun h' => h (by rw [Int.mul_comm]; exact (lim_lt ha).1 h')), Int.mul_comm]
theorem limI_mul {a b : Int} (_hb : 1 ≤ b) (h : limI a b ≤ 100000000000) : limI a b = a * b := by
  unfold limI at h ⊢
  split
  · rename_i h1; rw [if_pos h1] at h; omega
  · rfl
theorem limI_of {a b : Int} (hb : 1 ≤ b) (h : a * b ≤ 100000000000) : limI a b = a * b := by
  unfold limI
  rw [if_neg (fun h' => by have := (lim_lt hb).1 h'; omega)]
theorem valid_parts {u : UnitD} (h : validB u = true) : (1 ≤ u.n ∧ u.n ≤ 100000000000) ∧ (1 ≤ u.d ∧ u.d ≤ 100000000000) ∧ Nat.gcd u.n.toNat u.d.toNat = 1 := by
  unfold validB inScaleB at h
  simp only [Bool.and_eq_true, decide_eq_true_eq, beq_iff_eq] at h
  exact ⟨⟨h.1.1.2.1.1.1, h.1.1.2.1.1.2⟩, ⟨h.1.1.2.1.2.1, h.1.1.2.1.2.2⟩, h.1.1.2.2⟩
theorem prodU_comm {u v : UnitD} (hu : validB u = true) (hv : validB v = true) : prodU u v = prodU v u := by
  obtain ⟨bn, bd, _⟩ := valid_parts hu
  obtain ⟨cn, cd, _⟩ := valid_parts hv
  obtain ⟨g1, ⟨g2, _⟩, g4, _⟩ := gI_facts bn.1 cd.1
  obtain ⟨g6, ⟨g7, _⟩, g9, _⟩ := gI_facts cn.1 bd.1
  unfold prodU
  rw [limI_comm g2 g7, limI_comm g9 g4, Int.add_comm u.e0, Int.add_comm u.e1, Int.add_comm u.e2, Int.add_comm u.e3]
theorem mulR_comm (u v : UnitD) : mulR u v = mulR v u := by
  have hc : checkFE u v = checkFE v u := by
    unfold checkFE
    by_cases h1 : validB u = false <;> by_cases h2 : validB v = false <;> by_cases h3 : u.o ≠ 0 <;> by_cases h4 : v.o ≠ 0 <;> simp [h1, h2, h3, h4]
  unfold mulR
  rw [hc]
  by_cases h : checkFE v u = 0
  · obtain ⟨hv, hu, _, _⟩ := checkFE_ok h
    rw [if_pos h, if_pos h, prodU_comm hu hv]
  · rw [if_neg h, if_neg h]
theorem gI_dvd {a b : Int} (ha : 1 ≤ a) (hb : 1 ≤ b) : gI a b ∣ a ∧ gI a b ∣ b := by
  have h1 := Int.natCast_dvd_natCast.mpr (Nat.gcd_dvd_left a.toNat b.toNat)
  have h2 := Int.natCast_dvd_natCast.mpr (Nat.gcd_dvd_right a.toNat b.toNat)
  rw [Int.toNat_of_nonneg (by omega)] at h1
  rw [Int.toNat_of_nonneg (show 0 ≤ b by omega)] at h2
  exact ⟨h1, h2⟩
/-- a product that is a unit is the fraction in lowest terms -/
theorem prod_frac {u v : UnitD} (hu : validB u = true) (hv : validB v = true) (hp : validB (prodU u v) = true) :
    (prodU u v).n * (u.d * v.d) = (prodU u v).d * (u.n * v.n) := by
  obtain ⟨bn, bd, _⟩ := valid_parts hu
  obtain ⟨cn, cd, _⟩ := valid_parts hv
  obtain ⟨pn, pd, _⟩ := valid_parts hp
  obtain ⟨g1, ⟨g2, _⟩, g4, _⟩ := gI_facts bn.1 cd.1
  obtain ⟨g6, ⟨g7, _⟩, g9, _⟩ := gI_facts cn.1 bd.1
  have en : (prodU u v).n = (u.n / gI u.n v.d) * (v.n / gI v.n u.d) := limI_mul g7 pn.2
  have ed : (prodU u v).d = (u.d / gI v.n u.d) * (v.d / gI u.n v.d) := limI_mul g4 pd.2
  have d1 := gI_dvd bn.1 cd.1
  have d2 := gI_dvd cn.1 bd.1
  obtain ⟨G, hG⟩ : ∃ G, G = gI u.n v.d := ⟨_, rfl⟩
  obtain ⟨H, hH⟩ : ∃ H, H = gI v.n u.d := ⟨_, rfl⟩
  rw [← hG] at en ed d1
  rw [← hH] at en ed d2
  have k1 := Int.ediv_mul_cancel d1.1
  have k2 := Int.ediv_mul_cancel d1.2
  have k3 := Int.ediv_mul_cancel d2.1
  have k4 := Int.ediv_mul_cancel d2.2
  rw [en, ed]
  obtain ⟨a, ha⟩ : ∃ a, a = u.n / G := ⟨_, rfl⟩
  obtain ⟨b, hb⟩ : ∃ b, b = v.d / G := ⟨_, rfl⟩
  obtain ⟨c, hc⟩ : ∃ c, c = v.n / H := ⟨_, rfl⟩
  obtain ⟨d, hd⟩ : ∃ d, d = u.d / H := ⟨_, rfl⟩
  rw [← ha] at k1 ⊢
  rw [← hb] at k2 ⊢
  rw [← hc] at k3 ⊢
  rw [← hd] at k4 ⊢
  grind
/-- fractions in lowest terms that are equal are the same -/
theorem frac_unique {n d m e : Int} (hn : 1 ≤ n) (hd : 1 ≤ d) (hm : 1 ≤ m) (he : 1 ≤ e) (h1 : Nat.gcd n.toNat d.toNat = 1) (h2 : Nat.gcd m.toNat e.toNat = 1) (h : n * e = m * d) : n = m ∧ d = e := by
  have hN : n.toNat * e.toNat = m.toNat * d.toNat := by
    have : ((n.toNat * e.toNat : Nat) : Int) = ((m.toNat * d.toNat : Nat) : Int) := by
      rw [Int.natCast_mul, Int.natCast_mul, Int.toNat_of_nonneg (by omega), Int.toNat_of_nonneg (by omega), Int.toNat_of_nonneg (by omega), Int.toNat_of_nonneg (by omega)]
      exact h
    exact Int.ofNat.inj this
  have a1 : n.toNat ∣ m.toNat := Nat.Coprime.dvd_of_dvd_mul_right (show Nat.Coprime n.toNat d.toNat from h1) (by rw [← hN]; exact Nat.dvd_mul_right _ _)
  have a2 : m.toNat ∣ n.toNat := Nat.Coprime.dvd_of_dvd_mul_right (show Nat.Coprime m.toNat e.toNat from h2) (by rw [hN]; exact Nat.dvd_mul_right _ _)
  have a3 : n.toNat = m.toNat := Nat.dvd_antisymm a1 a2
  have a4 : n = m := by omega
  refine ⟨a4, ?_⟩
  rw [a4, Int.mul_comm] at h
  rw [Int.mul_comm m] at h
  exact (Int.eq_of_mul_eq_mul_right (show m ≠ 0 by omega) h).symm
/-- the product before its limits: in lowest terms -/
theorem red_coprime {a b c d : Nat} (ha : 0 < a) (hc : 0 < c) (h1 : Nat.gcd a b = 1) (h2 : Nat.gcd c d = 1) : Nat.gcd (a / Nat.gcd a d * (c / Nat.gcd c b)) (b / Nat.gcd c b * (d / Nat.gcd a d)) = 1 := by
  have ga : Nat.gcd a d ∣ a := Nat.gcd_dvd_left _ _
  have gd : Nat.gcd a d ∣ d := Nat.gcd_dvd_right _ _
  have hc' : Nat.gcd c b ∣ c := Nat.gcd_dvd_left _ _
  have hb' : Nat.gcd c b ∣ b := Nat.gcd_dvd_right _ _
  have q1 : Nat.Coprime (a / Nat.gcd a d) (b / Nat.gcd c b) := Nat.Coprime.coprime_div_left (Nat.Coprime.coprime_div_right h1 hb') ga
  have q2 : Nat.Coprime (a / Nat.gcd a d) (d / Nat.gcd a d) := Nat.coprime_div_gcd_div_gcd (Nat.gcd_pos_of_pos_left _ ha)
  have q3 : Nat.Coprime (c / Nat.gcd c b) (b / Nat.gcd c b) := Nat.coprime_div_gcd_div_gcd (Nat.gcd_pos_of_pos_left _ hc)
  have q4 : Nat.Coprime (c / Nat.gcd c b) (d / Nat.gcd a d) := Nat.Coprime.coprime_div_left (Nat.Coprime.coprime_div_right h2 gd) hc'
  exact Nat.Coprime.mul_left (Nat.Coprime.mul_right q1 q2) (Nat.Coprime.mul_right q3 q4)
theorem mulR_ok {u v p : UnitD} (h : mulR u v = (p, 0)) : validB u = true ∧ validB v = true ∧ u.o = 0 ∧ v.o = 0 ∧ validB p = true ∧ p = prodU u v := by
  unfold mulR at h
  split at h
  · rename_i h0
    obtain ⟨a, b, c, d⟩ := checkFE_ok h0
    split at h
    · rename_i h1
      injection h with h _
      exact ⟨a, b, c, d, by rw [← h]; exact h1, h.symm⟩
    · injection h with _ h; cases h
  · rename_i h0
    injection h with _ h
    exact absurd h h0
theorem assoc_cross {an ad bn bd cn cd xn xd yn yd ln ld rn rd : Int} (hxd : 1 ≤ xd) (hyd : 1 ≤ yd) (hN : 1 ≤ an * (bn * cn)) (h1 : xn * (ad * bd) = xd * (an * bn)) (h2 : yn * (bd * cd) = yd * (bn * cn)) (h3 : ln * (xd * cd) = ld * (xn * cn)) (h4 : rn * (ad * yd) = rd * (an * yn)) : ln * rd = rn * ld := by
  have k1 : ln * (ad * (bd * cd)) = ld * (an * (bn * cn)) := by
    refine Int.eq_of_mul_eq_mul_right (show xd ≠ 0 by omega) ?_
    have e1 : ln * (ad * (bd * cd)) * xd = ln * (xd * cd) * (ad * bd) := by grind
    have e2 : ld * (an * (bn * cn)) * xd = ld * cn * (xd * (an * bn)) := by grind
    rw [e1, e2, h3, ← h1]; grind
  have k2 : rn * (ad * (bd * cd)) = rd * (an * (bn * cn)) := by
    refine Int.eq_of_mul_eq_mul_right (show yd ≠ 0 by omega) ?_
    have e1 : rn * (ad * (bd * cd)) * yd = rn * (ad * yd) * (bd * cd) := by grind
    have e2 : rd * (an * (bn * cn)) * yd = rd * an * (yd * (bn * cn)) := by grind
    rw [e1, e2, h4, ← h2]; grind
  refine Int.eq_of_mul_eq_mul_right (show an * (bn * cn) ≠ 0 by omega) ?_
  have e1 : ln * rd * (an * (bn * cn)) = ln * (rd * (an * (bn * cn))) := by grind
  have e2 : rn * ld * (an * (bn * cn)) = rn * (ld * (an * (bn * cn))) := by grind
  rw [e1, e2, ← k2, ← k1]; grind
theorem unit_ext {u v : UnitD} (h0 : u.e0 = v.e0) (h1 : u.e1 = v.e1) (h2 : u.e2 = v.e2) (h3 : u.e3 = v.e3) (h4 : u.n = v.n) (h5 : u.d = v.d) (h6 : u.o = v.o) : u = v := by
  obtain ⟨a0, a1, a2, a3, an, ad, ao⟩ := u
  obtain ⟨b0, b1, b2, b3, bn, bd, bo⟩ := v
  simp only at h0 h1 h2 h3 h4 h5 h6
  rw [h0, h1, h2, h3, h4, h5, h6]
theorem mulR_assoc {a b c x y l r : UnitD} (h1 : mulR a b = (x, 0)) (h2 : mulR x c = (l, 0)) (h3 : mulR b c = (y, 0)) (h4 : mulR a y = (r, 0)) : l = r := by
  obtain ⟨va, vb, _, _, vx, ex⟩ := mulR_ok h1
  obtain ⟨_, vc, _, _, vl, el⟩ := mulR_ok h2
  obtain ⟨_, _, _, _, vy, ey⟩ := mulR_ok h3
  obtain ⟨_, _, _, _, vr, er⟩ := mulR_ok h4
  have f1 := prod_frac va vb (by rw [← ex]; exact vx)
  have f2 := prod_frac vx vc (by rw [← el]; exact vl)
  have f3 := prod_frac vb vc (by rw [← ey]; exact vy)
  have f4 := prod_frac va vy (by rw [← er]; exact vr)
  rw [← ex] at f1
  rw [← el] at f2
  rw [← ey] at f3
  rw [← er] at f4
  obtain ⟨an, ad, _⟩ := valid_parts va
  obtain ⟨bn, bd, _⟩ := valid_parts vb
  obtain ⟨cn, cd, _⟩ := valid_parts vc
  obtain ⟨xn, xd, _⟩ := valid_parts vx
  obtain ⟨yn, yd, _⟩ := valid_parts vy
  obtain ⟨ln, ld, lg⟩ := valid_parts vl
  obtain ⟨rn, rd, rg⟩ := valid_parts vr
  have hN : 1 ≤ a.n * (b.n * c.n) := Int.mul_pos (by omega) (Int.mul_pos (by omega) (by omega))
  have hc := assoc_cross xd.1 yd.1 hN f1 f3 f2 f4
  obtain ⟨e1, e2⟩ := frac_unique ln.1 ld.1 rn.1 rd.1 lg rg hc
  refine unit_ext ?_ ?_ ?_ ?_ e1 e2 ?_
  · rw [el, er, ex, ey]; show a.e0 + b.e0 + c.e0 = a.e0 + (b.e0 + c.e0); omega
  · rw [el, er, ex, ey]; show a.e1 + b.e1 + c.e1 = a.e1 + (b.e1 + c.e1); omega
  · rw [el, er, ex, ey]; show a.e2 + b.e2 + c.e2 = a.e2 + (b.e2 + c.e2); omega
  · rw [el, er, ex, ey]; show a.e3 + b.e3 + c.e3 = a.e3 + (b.e3 + c.e3); omega
  · rw [el, er]; rfl
theorem gI_div {a b : Int} (ha : 1 ≤ a) : a / gI a b = ((a.toNat / Nat.gcd a.toNat b.toNat : Nat) : Int) := by
  have e : a / gI a b = (a.toNat : Int) / ((Nat.gcd a.toNat b.toNat : Nat) : Int) := by rw [Int.toNat_of_nonneg (by omega)]; rfl
  rw [e]
  exact (Int.natCast_ediv _ _).symm
theorem gI_div' {a b : Int} (hb : 1 ≤ b) : b / gI a b = ((b.toNat / Nat.gcd a.toNat b.toNat : Nat) : Int) := by
  have e : b / gI a b = (b.toNat : Int) / ((Nat.gcd a.toNat b.toNat : Nat) : Int) := by rw [Int.toNat_of_nonneg (by omega)]; rfl
  rw [e]
  exact (Int.natCast_ediv _ _).symm
theorem red_cross {a b c d : Int} (ha : 1 ≤ a) (hb : 1 ≤ b) (hc : 1 ≤ c) (hd : 1 ≤ d) : (a / gI a d) * (c / gI c b) * (b * d) = (b / gI c b) * (d / gI a d) * (a * c) := by
  have d1 := gI_dvd ha hd
  have d2 := gI_dvd hc hb
  obtain ⟨G, hG⟩ : ∃ G, G = gI a d := ⟨_, rfl⟩
  obtain ⟨H, hH⟩ : ∃ H, H = gI c b := ⟨_, rfl⟩
  rw [← hG] at d1 ⊢
  rw [← hH] at d2 ⊢
  have k1 := Int.ediv_mul_cancel d1.1
  have k2 := Int.ediv_mul_cancel d1.2
  have k3 := Int.ediv_mul_cancel d2.1
  have k4 := Int.ediv_mul_cancel d2.2
  obtain ⟨x, hx⟩ : ∃ x, x = a / G := ⟨_, rfl⟩
  obtain ⟨y, hy⟩ : ∃ x, x = d / G := ⟨_, rfl⟩
  obtain ⟨z, hz⟩ : ∃ x, x = c / H := ⟨_, rfl⟩
  obtain ⟨t, ht⟩ : ∃ x, x = b / H := ⟨_, rfl⟩
  rw [← hx] at k1 ⊢
  rw [← hy] at k2 ⊢
  rw [← hz] at k3 ⊢
  rw [← ht] at k4 ⊢
  grind
theorem red_gcd {a b c d : Int} (ha : 1 ≤ a) (hb : 1 ≤ b) (hc : 1 ≤ c) (hd : 1 ≤ d) (h1 : Nat.gcd a.toNat b.toNat = 1) (h2 : Nat.gcd c.toNat d.toNat = 1) : Nat.gcd ((a / gI a d) * (c / gI c b)).toNat ((b / gI c b) * (d / gI a d)).toNat = 1 := by
  rw [gI_div ha, gI_div hc, gI_div' hb, gI_div' hd, ← Int.natCast_mul, ← Int.natCast_mul, Int.toNat_natCast, Int.toNat_natCast]
  exact red_coprime (by omega) (by omega) h1 h2
theorem checkFE_zero {u v : UnitD} (h1 : validB u = true) (h2 : validB v = true) (h3 : u.o = 0) (h4 : v.o = 0) : checkFE u v = 0 := by
  unfold checkFE
  rw [if_neg (by simp [h1, h2]), if_neg (by simp [h3, h4])]
/-- division undoes multiplication -/
theorem div_undoes {a b p : UnitD} (h : mulR a b = (p, 0)) : divR p b = (a, 0) := by
  obtain ⟨va, vb, oa, ob, vp, ep⟩ := mulR_ok h
  obtain ⟨an, ad, ag⟩ := valid_parts va
  obtain ⟨bn, bd, bg⟩ := valid_parts vb
  obtain ⟨pn, pd, pg⟩ := valid_parts vp
  have hf := prod_frac va vb (by rw [← ep]; exact vp)
  rw [← ep] at hf
  have po : p.o = 0 := by rw [ep]; rfl
  have hx := red_cross pn.1 pd.1 bd.1 bn.1
  have hg := red_gcd pn.1 pd.1 bd.1 bn.1 pg (by rw [Nat.gcd_comm]; exact bg)
  obtain ⟨g1, ⟨g2, _⟩, g4, _⟩ := gI_facts pn.1 bn.1
  obtain ⟨g6, ⟨g7, _⟩, g9, _⟩ := gI_facts bd.1 pd.1
  have hN1 : 1 ≤ p.n / gI p.n b.n * (b.d / gI b.d p.d) := Int.mul_pos (by omega) (by omega)
  have hD1 : 1 ≤ p.d / gI b.d p.d * (b.n / gI p.n b.n) := Int.mul_pos (by omega) (by omega)
  have en : (prodU p (invU b)).n = limI (p.n / gI p.n b.n) (b.d / gI b.d p.d) := rfl
  have ed : (prodU p (invU b)).d = limI (p.d / gI b.d p.d) (b.n / gI p.n b.n) := rfl
  obtain ⟨X1, hX1⟩ : ∃ x, x = p.n / gI p.n b.n := ⟨_, rfl⟩
  obtain ⟨X2, hX2⟩ : ∃ x, x = b.d / gI b.d p.d := ⟨_, rfl⟩
  obtain ⟨Y1, hY1⟩ : ∃ x, x = p.d / gI b.d p.d := ⟨_, rfl⟩
  obtain ⟨Y2, hY2⟩ : ∃ x, x = b.n / gI p.n b.n := ⟨_, rfl⟩
  rw [← hX1, ← hX2, ← hY1, ← hY2] at hx hg
  rw [← hX1, ← hX2] at hN1 en
  rw [← hY1, ← hY2] at hD1 ed
  rw [← hX1] at g2
  rw [← hX2] at g7
  rw [← hY1] at g9
  rw [← hY2] at g4
  have hc : X1 * X2 * a.d = a.n * (Y1 * Y2) := by
    refine Int.eq_of_mul_eq_mul_right (show p.d * (b.n * b.d) ≠ 0 from Int.ne_of_gt (Int.mul_pos (by omega) (Int.mul_pos (by omega) (by omega)))) ?_
    have e1 : X1 * X2 * a.d * (p.d * (b.n * b.d)) = X1 * X2 * (p.d * b.n) * (a.d * b.d) := by grind
    have e2 : a.n * (Y1 * Y2) * (p.d * (b.n * b.d)) = Y1 * Y2 * b.d * (p.d * (a.n * b.n)) := by grind
    rw [e1, e2, hx, ← hf]; grind
  obtain ⟨e1, e2⟩ := frac_unique hN1 hD1 an.1 ad.1 hg ag hc
  have fn : (prodU p (invU b)).n = a.n := by rw [en, limI_of g7 (by omega), e1]
  have fd : (prodU p (invU b)).d = a.d := by rw [ed, limI_of g4 (by omega), e2]
  have hq : prodU p (invU b) = a := by
    refine unit_ext ?_ ?_ ?_ ?_ fn fd (by rw [oa]; rfl)
    · show p.e0 + -b.e0 = a.e0; rw [ep]; show a.e0 + b.e0 + -b.e0 = a.e0; omega
    · show p.e1 + -b.e1 = a.e1; rw [ep]; show a.e1 + b.e1 + -b.e1 = a.e1; omega
    · show p.e2 + -b.e2 = a.e2; rw [ep]; show a.e2 + b.e2 + -b.e2 = a.e2; omega
    · show p.e3 + -b.e3 = a.e3; rw [ep]; show a.e3 + b.e3 + -b.e3 = a.e3; omega
  unfold divR
  rw [if_pos (checkFE_zero vp vb po ob), hq, if_pos va]
/-- a unit divided by itself -/
theorem div_self {a : UnitD} (va : validB a = true) (oa : a.o = 0) : divR a a = (⟨0, 0, 0, 0, 1, 1, 0⟩, 0) := by
  obtain ⟨an, ad, ag⟩ := valid_parts va
  have hn : gI a.n a.n = a.n := by unfold gI; rw [Nat.gcd_self, Int.toNat_of_nonneg (by omega)]
  have hd : gI a.d a.d = a.d := by unfold gI; rw [Nat.gcd_self, Int.toNat_of_nonneg (by omega)]
  have e1 := Int.ediv_self (show a.n ≠ 0 by omega)
  have e2 := Int.ediv_self (show a.d ≠ 0 by omega)
  have fn : (prodU a (invU a)).n = 1 := by
    show limI (a.n / gI a.n a.n) (a.d / gI a.d a.d) = 1
    rw [hn, hd, e1, e2]; decide
  have fd : (prodU a (invU a)).d = 1 := by
    show limI (a.d / gI a.d a.d) (a.n / gI a.n a.n) = 1
    rw [hn, hd, e1, e2]; decide
  have hq : prodU a (invU a) = ⟨0, 0, 0, 0, 1, 1, 0⟩ := by
    refine unit_ext ?_ ?_ ?_ ?_ fn fd rfl
    · show a.e0 + -a.e0 = 0; omega
    · show a.e1 + -a.e1 = 0; omega
    · show a.e2 + -a.e2 = 0; omega
    · show a.e3 + -a.e3 = 0; omega
  unfold divR
  rw [if_pos (checkFE_zero va va oa oa), hq, if_pos (by decide)]
end Go.Proofs.YtjkdcbkfcmaadaaGreatDoor
