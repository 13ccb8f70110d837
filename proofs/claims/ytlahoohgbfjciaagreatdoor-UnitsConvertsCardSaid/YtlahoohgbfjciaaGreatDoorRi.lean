/- The specification's divide. -/
import Derived.Test.YtlahoohgbfjciaaGreatDoorPd
namespace Go.Proofs.YtlahoohgbfjciaaGreatDoor
open Go.RowKit Go.Shelf

theorem five_wides (w : World) (t : TypeId) (h l m k : Int) : ∃ (W : World) (a b R q r : Nat), W = ((((w.alloc (Obj.cells #[.int .u64 h, .int .u64 l] t)).alloc (Obj.cells #[.int .u64 m, .int .u64 k] t)).alloc (Obj.cells #[.int .u64 0, .int .u64 0] t)).alloc (Obj.cells #[.int .u64 0, .int .u64 0] t)).alloc (Obj.cells #[.int .u64 0, .int .u64 0] t) ∧ a = w.heap.size ∧ b = w.heap.size + 1 ∧ R = w.heap.size + 2 ∧ q = w.heap.size + 3 ∧ r = w.heap.size + 4 ∧ TwoC W a h l ∧ TwoC W b m k ∧ TwoC W R 0 0 ∧ TwoC W q 0 0 ∧ TwoC W r 0 0 ∧ Below w.heap.size w W := by
  obtain ⟨W, a, b, hW, ha, hb, A, B, bel, sz⟩ := two_wides w t h l m k
  have s1 := World.size_alloc W (Obj.cells #[.int .u64 0, .int .u64 0] t)
  have r1 := twoc_fresh W t 0 0
  have k1 := (Below.refl W.heap.size W).alloc (Nat.le_refl _) (Obj.cells #[.int .u64 0, .int .u64 0] t)
  obtain ⟨W1, hW1⟩ : ∃ x, x = W.alloc (Obj.cells #[.int .u64 0, .int .u64 0] t) := ⟨_, rfl⟩
  rw [← hW1] at s1 r1 k1
  have s2 := World.size_alloc W1 (Obj.cells #[.int .u64 0, .int .u64 0] t)
  have r2 := twoc_fresh W1 t 0 0
  have k2 := (Below.refl W1.heap.size W1).alloc (Nat.le_refl _) (Obj.cells #[.int .u64 0, .int .u64 0] t)
  obtain ⟨W2, hW2⟩ : ∃ x, x = W1.alloc (Obj.cells #[.int .u64 0, .int .u64 0] t) := ⟨_, rfl⟩
  rw [← hW2] at s2 r2 k2
  have r3 := twoc_fresh W2 t 0 0
  have k3 := (Below.refl W2.heap.size W2).alloc (Nat.le_refl _) (Obj.cells #[.int .u64 0, .int .u64 0] t)
  rw [sz] at r1
  rw [s1, sz] at r2
  rw [s2, s1, sz] at r3
  refine ⟨_, a, b, w.heap.size + 2, w.heap.size + 3, w.heap.size + 4, by rw [← hW, ← hW1, ← hW2], ha, hb, rfl, rfl, rfl, ((A.keep k1).keep k2).keep k3, ((B.keep k1).keep k2).keep k3, (r1.keep k2).keep k3, r2.keep k3, r3, ?_⟩
  exact ((bel.trans (k1.mono bel.size)).trans (k2.mono (by omega))).trans (k3.mono (by omega))
structure DivF (w : World) (a b R q r : Nat) (ah al bh bl qh ql rh rl : Int) (w' : World) : Prop where
  A : TwoC w' a ah al
  B : TwoC w' b bh bl
  O : TwoC w' R 0 0
  Q : TwoC w' q qh ql
  P : TwoC w' r rh rl
  bel : Below w.heap.size w w'
section
variable {w w' w2 : World} {a b R q r : Nat} {ah al bh bl qh ql rh rl : Int}
theorem DivF.keep (t : DivF w a b R q r ah al bh bl qh ql rh rl w') (hb : Below w'.heap.size w' w2) : DivF w a b R q r ah al bh bl qh ql rh rl w2 := ⟨t.A.keep hb, t.B.keep hb, t.O.keep hb, t.Q.keep hb, t.P.keep hb, t.bel.trans (hb.mono t.bel.size)⟩
theorem DivF.drew (t : DivF w a b R q r ah al bh bl qh ql rh rl w') : DivF w a b R q r ah al bh bl qh ql rh rl w'.drew := ⟨t.A.drew, t.B.drew, t.O.drew, t.Q.drew, t.P.drew, t.bel.drew⟩
theorem DivF.setP (t : DivF w a b R q r ah al bh bl qh ql rh rl w') (hr : w.heap.size ≤ r) (h1 : r ≠ a) (h2 : r ≠ b) (h3 : r ≠ R) (h4 : r ≠ q) (x y : Int) : DivF w a b R q r ah al bh bl qh ql x y ((w'.setCell ⟨r, 0, none⟩ (.int .u64 x)).setCell ⟨r, 1, none⟩ (.int .u64 y)) :=
  ⟨(t.A.other h1).other h1, (t.B.other h2).other h2, (t.O.other h3).other h3, (t.Q.other h4).other h4, (t.P.set0 x).set1 y, (t.bel.setCell hr _).setCell hr _⟩
theorem DivF.setQ (t : DivF w a b R q r ah al bh bl qh ql rh rl w') (hr : w.heap.size ≤ q) (h1 : q ≠ a) (h2 : q ≠ b) (h3 : q ≠ R) (h4 : q ≠ r) (x y : Int) : DivF w a b R q r ah al bh bl x y rh rl ((w'.setCell ⟨q, 0, none⟩ (.int .u64 x)).setCell ⟨q, 1, none⟩ (.int .u64 y)) :=
  ⟨(t.A.other h1).other h1, (t.B.other h2).other h2, (t.O.other h3).other h3, (t.Q.set0 x).set1 y, (t.P.other h4).other h4, (t.bel.setCell hr _).setCell hr _⟩
theorem DivF.setQ1 (t : DivF w a b R q r ah al bh bl qh ql rh rl w') (hr : w.heap.size ≤ q) (h1 : q ≠ a) (h2 : q ≠ b) (h3 : q ≠ R) (h4 : q ≠ r) (y : Int) : DivF w a b R q r ah al bh bl qh y rh rl (w'.setCell ⟨q, 1, none⟩ (.int .u64 y)) :=
  ⟨t.A.other h1, t.B.other h2, t.O.other h3, t.Q.set1 y, t.P.other h4, t.bel.setCell hr _⟩
end
theorem div_step {A : Nat} {B b : Int} {m : Nat} (hB : 1 ≤ B) (hb : b = ((A / 2 ^ m % 2 : Nat) : Int)) :
    (2 * (((A / 2 ^ (m + 1) : Nat) : Int) % B) + b < B → ((A / 2 ^ m : Nat) : Int) % B = 2 * (((A / 2 ^ (m + 1) : Nat) : Int) % B) + b ∧ ((A / 2 ^ m : Nat) : Int) / B = 2 * (((A / 2 ^ (m + 1) : Nat) : Int) / B)) ∧
    (¬ 2 * (((A / 2 ^ (m + 1) : Nat) : Int) % B) + b < B → ((A / 2 ^ m : Nat) : Int) % B = 2 * (((A / 2 ^ (m + 1) : Nat) : Int) % B) + b - B ∧ ((A / 2 ^ m : Nat) : Int) / B = 2 * (((A / 2 ^ (m + 1) : Nat) : Int) / B) + 1) := by
  have e : A / 2 ^ (m + 1) = A / 2 ^ m / 2 := by rw [Nat.div_div_eq_div_mul, Nat.pow_succ]
  have hx : ((A / 2 ^ m : Nat) : Int) = 2 * ((A / 2 ^ (m + 1) : Nat) : Int) + b := by rw [hb, e]; omega
  obtain ⟨X, hX⟩ : ∃ X : Int, X = ((A / 2 ^ (m + 1) : Nat) : Int) := ⟨_, rfl⟩
  rw [hx, ← hX]
  have h1 := Int.emod_nonneg X (show B ≠ 0 by omega)
  have h2 := Int.emod_lt_of_pos X (show 0 < B by omega)
  have h3 := Int.mul_ediv_add_emod X B
  have hb01 : 0 ≤ b ∧ b ≤ 1 := by rw [hb]; omega
  obtain ⟨Q, hQ⟩ : ∃ Q, Q = X / B := ⟨_, rfl⟩
  obtain ⟨P, hP⟩ : ∃ P, P = X % B := ⟨_, rfl⟩
  rw [← hQ, ← hP] at h3
  rw [← hP] at h1 h2
  rw [← hQ, ← hP]
  constructor
  · intro h
    have e2 : 2 * X + b = (2 * P + b) + B * (2 * Q) := by rw [← h3]; grind
    rw [e2, Int.add_mul_emod_self_left, Int.add_mul_ediv_left _ _ (show B ≠ 0 by omega), Int.emod_eq_of_lt (by omega) h, Int.ediv_eq_zero_of_lt (by omega) h]
    exact ⟨rfl, by omega⟩
  · intro h
    have e2 : 2 * X + b = (2 * P + b - B) + B * (2 * Q + 1) := by rw [← h3]; grind
    rw [e2, Int.add_mul_emod_self_left, Int.add_mul_ediv_left _ _ (show B ≠ 0 by omega), Int.emod_eq_of_lt (by omega) (by omega), Int.ediv_eq_zero_of_lt (by omega) (by omega)]
    exact ⟨rfl, by omega⟩
theorem div_round {A : Nat} {B P Q : Int} (hB : 1 ≤ B) (hP : P = (A : Int) % B) (hQ : Q = (A : Int) / B) : (P + P < B → (2 * (A : Int) + B) / (2 * B) = Q) ∧ (¬ P + P < B → (2 * (A : Int) + B) / (2 * B) = Q + 1) := by
  have h1 := Int.emod_nonneg (A : Int) (show B ≠ 0 by omega)
  have h2 := Int.emod_lt_of_pos (A : Int) (show 0 < B by omega)
  have h3 := Int.mul_ediv_add_emod (A : Int) B
  rw [← hP] at h1 h2 h3
  rw [← hQ] at h3
  constructor
  · intro h
    have e : 2 * (A : Int) + B = (2 * P + B) + (2 * B) * Q := by rw [← h3]; grind
    rw [e, Int.add_mul_ediv_left _ _ (show 2 * B ≠ 0 by omega), Int.ediv_eq_zero_of_lt (by omega) (by omega)]
    omega
  · intro h
    have e : 2 * (A : Int) + B = (2 * P - B) + (2 * B) * (Q + 1) := by rw [← h3]; grind
    rw [e, Int.add_mul_ediv_left _ _ (show 2 * B ≠ 0 by omega), Int.ediv_eq_zero_of_lt (by omega) (by omega)]
    omega
abbrev A13 (w : World) (a b R q r : Nat) (ah al bh bl qh ql ph pl : Int) (w' : World) : Prop := w'.cell? ⟨r, 0, none⟩ = some (.int .u64 ph) ∧ w'.cell? ⟨r, 1, none⟩ = some (.int .u64 pl) ∧ w'.cell? ⟨b, 0, none⟩ = some (.int .u64 bh) ∧ w'.cell? ⟨b, 1, none⟩ = some (.int .u64 bl) ∧ DivF w a b R q r ah al bh bl qh ql ph pl w'
section
variable {w w' w2 : World} {a b R q r : Nat} {ah al bh bl qh ql ph pl : Int}
theorem a13_of (t : DivF w a b R q r ah al bh bl qh ql ph pl w') : A13 w a b R q r ah al bh bl qh ql ph pl w' := ⟨t.P.c0, t.P.c1, t.B.c0, t.B.c1, t⟩
theorem a13_keep (hb : Below w'.heap.size w' w2) (c : A13 w a b R q r ah al bh bl qh ql ph pl w') : A13 w a b R q r ah al bh bl qh ql ph pl w2 := a13_of (c.2.2.2.2.keep hb)
theorem a13_drew (c : A13 w a b R q r ah al bh bl qh ql ph pl w') : A13 w a b R q r ah al bh bl qh ql ph pl w'.drew := a13_of c.2.2.2.2.drew
end
set_option maxRecDepth 100000 in
set_option maxHeartbeats 8000000 in
theorem divide_core (A : Nat) (B : Int) (w : World) (hA : A < 170141183460469231731687303715884105728) (hB : 1 ≤ B) (hB2 : B < 85070591730234615865843651857942052864) :
    Calls Tryz.prog 17 #[.agg #[.int .u64 (hiW A), .int .u64 (loW A)], .agg #[.int .u64 (hiW B), .int .u64 (loW B)]] w fun e w' => e = .returned (pairV ((2 * (A : Int) + B) / (2 * B))) ∧ Below w.heap.size w w' := by
  have HR0 := Lib.hid (And.intro hA (And.intro hB hB2))
  have HLe := Lib.hid fun V w h1 h2 => rless_any V B w h1 h2 (by omega) (by omega)
  have HMi := Lib.hid fun V w => rminus_any V B w
  simp only [pairV, wordsV] at HLe HMi
  have hbit1 := fun i h => bit_hi A i (by omega) h
  have hbit2 := fun i h => bit_lo A i h
  have HB1 := Lib.hid hbit1
  have HB2 := Lib.hid hbit2
  have ra := hiW_range A
  have rb := loW_range A
  have HRa := Lib.hid (And.intro ra rb)
  clear hbit1 hbit2 hA hB hB2 ra rb
  obtain ⟨ah, hah⟩ : ∃ x, x = hiW (A : Int) := ⟨_, rfl⟩
  obtain ⟨al, hal⟩ : ∃ x, x = loW (A : Int) := ⟨_, rfl⟩
  obtain ⟨bh, hbh⟩ : ∃ x, x = hiW B := ⟨_, rfl⟩
  obtain ⟨bl, hbl⟩ : ∃ x, x = loW B := ⟨_, rfl⟩
  rw [← hah, ← hal, ← hbh, ← hbl]
  rw [← hah, ← hal] at HRa
  rw [← hbh, ← hbl] at HLe HMi
  rw [← hah] at HB1
  rw [← hal] at HB2
  clear hah hal hbh hbl
  go_enter Tryz.func17, Tryz.ntmps17
  go_wp2_with fail
  obtain ⟨W, a, b, R, q, r, hW, ha, hb, hR, hq, hr, A1, B1, R1, Q1, P1, bel⟩ := five_wides w 44 ah al bh bl
  rw [← hW]
  try rw [← hr]
  try rw [← hq]
  try rw [← hR]
  try rw [← hb]
  try rw [← ha]
  have HN := Lib.hid (show w.heap.size ≤ R ∧ w.heap.size ≤ q ∧ w.heap.size ≤ r ∧ q ≠ a ∧ q ≠ b ∧ q ≠ R ∧ q ≠ r ∧ r ≠ a ∧ r ≠ b ∧ r ≠ R ∧ r ≠ q by omega)
  have HD0 := Lib.hid (show DivF w a b R q r ah al bh bl 0 0 0 0 W from ⟨A1, B1, R1, Q1, P1, bel⟩)
  clear hW ha hb hR hq hr A1 B1 R1 Q1 P1 bel
  go_loopw [7] (fun i wr => ∃ n : Nat, n ≤ 128 ∧ i = .int .i64 ((n : Int) - 1) ∧ Hid (DivF w a b R q r ah al bh bl (hiW (((A / 2 ^ n : Nat) : Int) / B)) (loW (((A / 2 ^ n : Nat) : Int) / B)) (hiW (((A / 2 ^ n : Nat) : Int) % B)) (loW (((A / 2 ^ n : Nat) : Int) % B)) wr)) (fun i _ => (intOf i + 1).toNat)
  case atStart => exact ⟨128, by omega, rfl, Lib.hid (by
    have hz : A / 2 ^ 128 = 0 := Nat.div_eq_of_lt (by have := HR0.out.1; omega)
    rw [hz, show ((0 : Nat) : Int) / B = 0 from Int.zero_ediv B, show ((0 : Nat) : Int) % B = 0 from Int.zero_emod B]
    exact HD0.out)⟩
  case round =>
    obtain ⟨n, hn, rfl, HD⟩ := hrel
    by_cases h0 : n = 0
    · subst h0
      rw [Nat.pow_zero, Nat.div_one] at HD
      rw [show ((0 : Nat) : Int) - 1 = -1 from rfl]
      obtain ⟨P, hP⟩ : ∃ x, x = (A : Int) % B := ⟨_, rfl⟩
      obtain ⟨Q, hQ⟩ : ∃ x, x = (A : Int) / B := ⟨_, rfl⟩
      rw [← hP, ← hQ] at HD
      have hP0 : 0 ≤ P ∧ P < B := ⟨by rw [hP]; exact Int.emod_nonneg _ (by have := HR0.out.2.1; omega), by rw [hP]; exact Int.emod_lt_of_pos _ (by have := HR0.out.2.1; omega)⟩
      have hfin := div_round (A := A) HR0.out.2.1 hP hQ
      have hpl := fun w => rplus_any P P w
      have hpq := fun w => rplus_any Q 1 w
      have hle := fun w => HLe.out (P + P) w (by omega) (by have := HR0.out.2.2; omega)
      simp only [pairV, wordsV] at hpl hpq
      rw [show hiW 1 = 0 by decide, show loW 1 = 1 by decide] at hpq
      obtain ⟨ph, hph⟩ : ∃ x, x = hiW P := ⟨_, rfl⟩
      obtain ⟨pl, hpl2⟩ : ∃ x, x = loW P := ⟨_, rfl⟩
      obtain ⟨qh, hqh⟩ : ∃ x, x = hiW Q := ⟨_, rfl⟩
      obtain ⟨ql, hql⟩ : ∃ x, x = loW Q := ⟨_, rfl⟩
      obtain ⟨sh, hsh⟩ : ∃ x, x = hiW (P + P) := ⟨_, rfl⟩
      obtain ⟨sl, hsl⟩ : ∃ x, x = loW (P + P) := ⟨_, rfl⟩
      obtain ⟨th, hth⟩ : ∃ x, x = hiW (Q + 1) := ⟨_, rfl⟩
      obtain ⟨tl, htl⟩ : ∃ x, x = loW (Q + 1) := ⟨_, rfl⟩
      obtain ⟨LT, hLT⟩ : ∃ x, x = decide (P + P < B) := ⟨_, rfl⟩
      rw [← hph, ← hpl2, ← hqh, ← hql] at HD
      rw [← hph, ← hpl2, ← hsh, ← hsl] at hpl
      rw [← hqh, ← hql, ← hth, ← htl] at hpq
      rw [← hsh, ← hsl, ← hLT] at hle
      have HPl := Lib.hid hpl
      have HPq := Lib.hid hpq
      have HL := Lib.hid hle
      have HLT := Lib.hid hLT
      have HE := Lib.hid (And.intro hqh (And.intro hql (And.intro hth htl)))
      have HF := Lib.hid hfin
      clear hpl hpq hle hLT hfin hph hpl2 hqh hql hsh hsl hth htl hP hQ hP0 hn
      have HA := Lib.hid (a13_of HD.out)
      have HAA := Lib.hid (a13_of HD.out.drew)
      unfold A13 at HA HAA
      go_wp2_with fail
      go_region_held3 (fun w' => w'.cell? ⟨r, 0, none⟩ = some (.int .u64 ph) ∧ w'.cell? ⟨r, 1, none⟩ = some (.int .u64 pl) ∧ w'.cell? ⟨b, 0, none⟩ = some (.int .u64 bh) ∧ w'.cell? ⟨b, 1, none⟩ = some (.int .u64 bl) ∧ DivF w a b R q r ah al bh bl qh ql ph pl w')
        (first | (with_reducible exact HA.out) | (with_reducible exact HAA.out) | (with_reducible exact a13_keep hb2 (by assumption)) | (with_reducible exact a13_drew (by assumption)) | go_keep)
        (first | (go_at_call 31; refine (HPl.out _).mono ?_; rintro e x1 ⟨rfl, hb2⟩; have HS1 : Hid (A13 w a b R q r ah al bh bl qh ql ph pl x1) := a13_keep hb2 ‹_›) | (go_at_call 32; refine (HL.out _).mono ?_; rintro e x2 ⟨rfl, hb2⟩; have HS2 : Hid (A13 w a b R q r ah al bh bl qh ql ph pl x2) := a13_keep hb2 ‹_›))
      rename_i hHeld
      clear hHeld HA HAA HS1
      have HD2 := Lib.hid HS2.out.2.2.2.2
      clear HS2 HD
      obtain ⟨q0, q1, qz⟩ := HD2.out.Q
      obtain ⟨o0, o1, oz⟩ := HD2.out.O
      cases LT
      · go_wp2_with fail
        refine (HPq.out _).mono ?_
        rintro e w3 ⟨rfl, hb⟩
        have HD3 := Lib.hid (HD2.out.keep hb)
        clear hb q0 q1 qz o0 o1 oz
        obtain ⟨q0, q1, qz⟩ := HD3.out.Q
        go_upto_region 15 with fail
        have HD4 := Lib.hid (HD3.out.setQ HN.out.2.1 HN.out.2.2.2.1 HN.out.2.2.2.2.1 HN.out.2.2.2.2.2.1 HN.out.2.2.2.2.2.2.1 th tl)
        obtain ⟨W4, hW4⟩ : ∃ x, x = (w3.setCell ⟨q, 0, none⟩ (.int .u64 th)).setCell ⟨q, 1, none⟩ (.int .u64 tl) := ⟨_, rfl⟩
        rw [← hW4]
        rw [← hW4] at HD4
        clear hW4 q0 q1 qz
        obtain ⟨q0, q1, qz⟩ := HD4.out.Q
        obtain ⟨o0, o1, oz⟩ := HD4.out.O
        have k0 : ((W4.setCell ⟨R, 0, none⟩ (.int .u64 th)).setCell ⟨R, 1, none⟩ (.int .u64 tl)).cell? ⟨R, 0, none⟩ = some (.int .u64 th) := ((HD4.out.O.set0 th).set1 tl).c0
        have k1 : ((W4.setCell ⟨R, 0, none⟩ (.int .u64 th)).setCell ⟨R, 1, none⟩ (.int .u64 tl)).cell? ⟨R, 1, none⟩ = some (.int .u64 tl) := ((HD4.out.O.set0 th).set1 tl).c1
        have hres : pairV ((2 * (A : Int) + B) / (2 * B)) = .agg #[.int .u64 th, .int .u64 tl] := by
          rw [HF.out.2 (by have := HLT.out; simpa using this.symm), HE.out.2.2.1, HE.out.2.2.2]; rfl
        have HRes := Lib.hid hres
        clear hres
        go_wp2_with fail
        (try simp only [Exit.inBlock, Exit.then])
        refine bodyPost_ret (v := .agg #[.int .u64 th, .int .u64 tl]) (by simp [results, Tryz.results17, go_sem, k0, k1]; try rfl) rfl ?_
        first | exact ⟨by rw [HRes.out], (HD4.out.bel.setCell HN.out.1 _).setCell HN.out.1 _⟩ | exact ⟨by rw [HRes.out], ((HD4.out.bel.setCell HN.out.1 _).setCell HN.out.1 _).drew⟩
      · have k0 : ((x2.setCell ⟨R, 0, none⟩ (.int .u64 qh)).setCell ⟨R, 1, none⟩ (.int .u64 ql)).cell? ⟨R, 0, none⟩ = some (.int .u64 qh) := ((HD2.out.O.set0 qh).set1 ql).c0
        have k1 : ((x2.setCell ⟨R, 0, none⟩ (.int .u64 qh)).setCell ⟨R, 1, none⟩ (.int .u64 ql)).cell? ⟨R, 1, none⟩ = some (.int .u64 ql) := ((HD2.out.O.set0 qh).set1 ql).c1
        have hres : pairV ((2 * (A : Int) + B) / (2 * B)) = .agg #[.int .u64 qh, .int .u64 ql] := by
          rw [HF.out.1 (by have := HLT.out; simpa using this.symm), HE.out.1, HE.out.2.1]; rfl
        have HRes := Lib.hid hres
        clear hres
        go_wp2_with fail
        (try simp only [Exit.inBlock, Exit.then])
        refine bodyPost_ret (v := .agg #[.int .u64 qh, .int .u64 ql]) (by simp [results, Tryz.results17, go_sem, k0, k1]; try rfl) rfl ?_
        first | exact ⟨by rw [HRes.out], (HD2.out.bel.setCell HN.out.1 _).setCell HN.out.1 _⟩ | exact ⟨by rw [HRes.out], ((HD2.out.bel.setCell HN.out.1 _).setCell HN.out.1 _).drew⟩
    · obtain ⟨m, rfl⟩ : ∃ m, n = m + 1 := ⟨n - 1, by omega⟩
      obtain ⟨P, hP⟩ : ∃ x, x = ((A / 2 ^ (m + 1) : Nat) : Int) % B := ⟨_, rfl⟩
      obtain ⟨Q, hQ⟩ : ∃ x, x = ((A / 2 ^ (m + 1) : Nat) : Int) / B := ⟨_, rfl⟩
      obtain ⟨BT, hBT⟩ : ∃ x, x = ((A / 2 ^ m % 2 : Nat) : Int) := ⟨_, rfl⟩
      have hst := div_step HR0.out.2.1 hBT
      rw [← hP, ← hQ] at hst
      rw [← hP, ← hQ] at HD
      have hP0 : 0 ≤ P ∧ P < B := ⟨by rw [hP]; exact Int.emod_nonneg _ (by have := HR0.out.2.1; omega), by rw [hP]; exact Int.emod_lt_of_pos _ (by have := HR0.out.2.1; omega)⟩
      have hbt : BT = 0 ∨ BT = 1 := by rw [hBT]; omega
      have hQ0 : 0 ≤ Q ∧ Q < 170141183460469231731687303715884105728 := by
        have h1 : 0 ≤ Q := by rw [hQ]; exact Int.ediv_nonneg (Int.natCast_nonneg _) (by have := HR0.out.2.1; omega)
        refine ⟨h1, ?_⟩
        have h2 : Q ≤ ((A / 2 ^ (m + 1) : Nat) : Int) := by rw [hQ]; exact Int.ediv_le_self _ (Int.natCast_nonneg _)
        have h3 : A / 2 ^ (m + 1) ≤ A := Nat.div_le_self _ _
        have := HR0.out.1
        omega
      have hdP := dbl_words P BT hP0.1 (by have := HR0.out.2.2; omega) hbt
      have hdQ := dbl_words Q 0 hQ0.1 hQ0.2 (.inl rfl)
      have hor := or_one Q
      have hbits : (64 ≤ (m : Int) → bits .and .u64 (ah / 2 ^ ((m : Int) % 64).toNat) 1 = BT) ∧ ((m : Int) < 64 → bits .and .u64 (al / 2 ^ ((m : Int) % 64).toNat) 1 = BT) := by
        obtain ⟨⟨x1, x2⟩, ⟨x3, x4⟩⟩ := HRa.out
        refine ⟨fun h => ?_, fun h => ?_⟩
        · have e := HB1.out m (by omega)
          rw [show ((m : Int) % 64).toNat = m - 64 by omega, and_one _ (Int.ediv_nonneg x1 (Int.le_of_lt (Int.pow_pos (by decide)))) (Int.lt_of_le_of_lt (Int.ediv_le_self _ x1) x2), e, hBT]
        · have e := HB2.out m (by omega)
          rw [show ((m : Int) % 64).toNat = m by omega, and_one _ (Int.ediv_nonneg x3 (Int.le_of_lt (Int.pow_pos (by decide)))) (Int.lt_of_le_of_lt (Int.ediv_le_self _ x3) x4), e, hBT]
      have HSt := Lib.hid hst
      have HP0 := Lib.hid hP0
      have HBt := Lib.hid hbt
      have HD1 := HD
      clear hst hP0 hbt hQ0 hP hQ hBT HD
      obtain ⟨ph, hph⟩ : ∃ x, x = hiW P := ⟨_, rfl⟩
      obtain ⟨pl, hpl⟩ : ∃ x, x = loW P := ⟨_, rfl⟩
      obtain ⟨qh, hqh⟩ : ∃ x, x = hiW Q := ⟨_, rfl⟩
      obtain ⟨ql, hql⟩ : ∃ x, x = loW Q := ⟨_, rfl⟩
      rw [← hph, ← hpl] at hdP
      rw [← hqh, ← hql] at hdQ
      rw [← hph, ← hpl, ← hqh, ← hql] at HD1
      rw [Int.add_zero] at hdQ
      obtain ⟨P1, hP1⟩ : ∃ x, x = 2 * P + BT := ⟨_, rfl⟩
      obtain ⟨Q1, hQ1⟩ : ∃ x, x = 2 * Q := ⟨_, rfl⟩
      rw [← hP1] at hdP
      rw [← hQ1] at hdQ hor
      rw [← hP1, ← hQ1] at HSt
      obtain ⟨xh, hxh⟩ : ∃ x, x = hiW P1 := ⟨_, rfl⟩
      obtain ⟨xl, hxl⟩ : ∃ x, x = loW P1 := ⟨_, rfl⟩
      obtain ⟨yh, hyh⟩ : ∃ x, x = hiW Q1 := ⟨_, rfl⟩
      obtain ⟨yl, hyl⟩ : ∃ x, x = loW Q1 := ⟨_, rfl⟩
      rw [← hxh, ← hxl] at hdP
      rw [← hyh, ← hyl] at hdQ
      rw [← hyl, ← hyh] at hor
      have hle := HLe.out P1
      have hmi := HMi.out P1
      rw [← hxh, ← hxl] at hle hmi
      have hq2 : bits .or .u64 (IntKind.u64.wrap (ql * 2)) 0 = IntKind.u64.wrap (ql * 2) → IntKind.u64.wrap (ql * 2) = yl := fun h => by rw [← h]; exact hdQ.2
      have hq3 : IntKind.u64.wrap (ql * 2) = yl := hq2 (by
        have e2 : IntKind.u64.wrap (ql * 2) = 2 * (ql % 9223372036854775808) := by rw [wrapU]; unfold uns; rw [hql]; unfold loW; omega
        rw [e2, or_even _ _ (by omega) (by omega) (.inl rfl), Int.add_zero])
      have hlt : decide (P1 < B) = true ∨ decide (P1 < B) = false := by cases decide (P1 < B) <;> simp
      have hle2 := fun w => hle w (by rw [hP1]; have := HP0.out; have := HBt.out; omega) (by rw [hP1]; have := HP0.out; have := HBt.out; have := HR0.out.2.2; omega)
      obtain ⟨LT, hLT⟩ : ∃ x, x = decide (P1 < B) := ⟨_, rfl⟩
      rw [← hLT] at hle2
      have HL := Lib.hid hle2
      have HM := Lib.hid hmi
      have HLT := Lib.hid hLT
      have HXe := Lib.hid (And.intro hxh (And.intro hxl (And.intro hyh (And.intro hyl hQ1))))
      have HOr := Lib.hid hor
      obtain ⟨E1, E2⟩ := hdP
      have E3 := hdQ.1
      have E4 := hq3
      clear hle hmi hle2 hdQ hq2 hq3 hlt hor hP1 hQ1 hxh hxl hyh hyl hph hpl hqh hql hLT HP0
      obtain ⟨K, hK⟩ : ∃ K : Nat, K = ((m : Int) % 64).toNat := ⟨_, rfl⟩
      obtain ⟨i, hi⟩ : ∃ i : Int, i = m := ⟨_, rfl⟩
      have e1 : ((m + 1 : Nat) : Int) - 1 = i := by omega
      rw [e1]
      rw [← hK, ← hi] at hbits
      have i0 : 0 ≤ i := by omega
      have i1 : i ≤ 127 := by omega
      have f3 : IntKind.i64.wrap (i.tmod 64) = (K : Int) := by rw [Int.tmod_eq_emod_of_nonneg i0]; rw [IntWalk.i64_in _ ⟨by omega, by omega⟩]; omega
      have f4 : i % 64 = (K : Int) := by omega
      have f2 : IntKind.u64.wrap (K : Int) = K := IntWalk.u64_in _ ⟨by omega, by omega⟩
      have k1 : (K : Int) ≤ 63 := by omega
      have hm1 : i - 1 = (m : Int) - 1 := by omega
      have HM1 := Lib.hid (And.intro hm1 (And.intro hi hn))
      clear hK hi e1 hm1 hn h0
      have hside : (64 ≤ i ∧ bits .and .u64 (ah / 2 ^ K) 1 = BT) ∨ (i < 64 ∧ bits .and .u64 (al / 2 ^ K) 1 = BT) := by
        by_cases h : 64 ≤ i
        · exact .inl ⟨h, hbits.1 h⟩
        · exact .inr ⟨by omega, hbits.2 (by omega)⟩
      clear hbits
      obtain ⟨a0, a1, az⟩ := HD1.out.A
      obtain ⟨q0, q1, qz⟩ := HD1.out.Q
      obtain ⟨p0, p1, pz⟩ := HD1.out.P
      rcases hside with ⟨hs, EB⟩ | ⟨hs, EB⟩
      all_goals
        go_upto_region 9 with fail
        have HD2 := Lib.hid (HD1.out.setP HN.out.2.2.1 HN.out.2.2.2.2.2.2.2.1 HN.out.2.2.2.2.2.2.2.2.1 HN.out.2.2.2.2.2.2.2.2.2.1 HN.out.2.2.2.2.2.2.2.2.2.2 xh xl)
        obtain ⟨W1, hW1⟩ : ∃ x, x = (wr.setCell ⟨r, 0, none⟩ (.int .u64 xh)).setCell ⟨r, 1, none⟩ (.int .u64 xl) := ⟨_, rfl⟩
        rw [← hW1]
        rw [← hW1] at HD2
        clear hW1 a0 a1 az q0 q1 qz p0 p1 pz EB E1 E2 f2 f3 f4 k1
        obtain ⟨q0, q1, qz⟩ := HD2.out.Q
        go_upto_region 10 with fail
        have HD3 := Lib.hid (HD2.out.setQ HN.out.2.1 HN.out.2.2.2.1 HN.out.2.2.2.2.1 HN.out.2.2.2.2.2.1 HN.out.2.2.2.2.2.2.1 yh yl)
        obtain ⟨W2, hW2⟩ : ∃ x, x = (W1.setCell ⟨q, 0, none⟩ (.int .u64 yh)).setCell ⟨q, 1, none⟩ (.int .u64 yl) := ⟨_, rfl⟩
        rw [← hW2]
        rw [← hW2] at HD3
        clear hW2 q0 q1 qz HD2 E3 E4
        obtain ⟨p0, p1, pz⟩ := HD3.out.P
        obtain ⟨b0, b1, bz⟩ := HD3.out.B
        go_wp2_with fail
        refine (HL.out _).mono ?_
        rintro e w2 ⟨rfl, hb⟩
        have HD4 := Lib.hid (HD3.out.keep hb)
        clear hb p0 p1 pz b0 b1 bz HD3
        cases LT
        · obtain ⟨p0, p1, pz⟩ := HD4.out.P
          obtain ⟨b0, b1, bz⟩ := HD4.out.B
          have hor := HOr.out
          obtain ⟨zl, hzl⟩ : ∃ x, x = loW (Q1 + 1) := ⟨_, rfl⟩
          rw [← hzl] at hor
          have HZ := Lib.hid (And.intro hzl hor.2)
          have E5 := hor.1
          obtain ⟨mh, hmh⟩ : ∃ x, x = hiW (P1 - B) := ⟨_, rfl⟩
          obtain ⟨ml, hml⟩ : ∃ x, x = loW (P1 - B) := ⟨_, rfl⟩
          have hm2 := HM.out
          rw [← hmh, ← hml] at hm2
          have HM2 := Lib.hid hm2
          have HMe := Lib.hid (And.intro hmh hml)
          clear hor hzl hm2 hmh hml
          go_wp2_with fail
          refine (HM2.out _).mono ?_
          rintro e w3 ⟨rfl, hb⟩
          have HD5 := Lib.hid (HD4.out.keep hb)
          clear hb p0 p1 pz b0 b1 bz
          obtain ⟨p0, p1, pz⟩ := HD5.out.P
          go_upto_region 12 with fail
          have HD6 := Lib.hid (HD5.out.setP HN.out.2.2.1 HN.out.2.2.2.2.2.2.2.1 HN.out.2.2.2.2.2.2.2.2.1 HN.out.2.2.2.2.2.2.2.2.2.1 HN.out.2.2.2.2.2.2.2.2.2.2 mh ml)
          obtain ⟨W4, hW4⟩ : ∃ x, x = (w3.setCell ⟨r, 0, none⟩ (.int .u64 mh)).setCell ⟨r, 1, none⟩ (.int .u64 ml) := ⟨_, rfl⟩
          rw [← hW4]
          rw [← hW4] at HD6
          clear hW4 p0 p1 pz
          obtain ⟨q0, q1, qz⟩ := HD6.out.Q
          have HD7 := Lib.hid (HD6.out.setQ1 HN.out.2.1 HN.out.2.2.2.1 HN.out.2.2.2.2.1 HN.out.2.2.2.2.2.1 HN.out.2.2.2.2.2.2.1 zl)
          go_wp2_with fail
          go_roundw
          case rel => exact ⟨m, by have := HM1.out.2.2; omega, by rw [HM1.out.1], Lib.hid (by
            have hn := HSt.out.2 (by have := HLT.out; simpa using this.symm)
            rw [hn.1, hn.2, ← HMe.out.1, ← HMe.out.2, ← HZ.out.1, ← HZ.out.2]
            exact HD7.out)⟩
          case measure => simp [intOf]; omega
        · go_wp2_with fail
          go_roundw
          case rel => exact ⟨m, by have := HM1.out.2.2; omega, by rw [HM1.out.1], Lib.hid (by
            have hn := HSt.out.1 (by have := HLT.out; simpa using this.symm)
            rw [hn.1, hn.2, ← HXe.out.1, ← HXe.out.2.1, ← HXe.out.2.2.1, ← HXe.out.2.2.2.1]
            exact HD4.out)⟩
          case measure => simp [intOf]; omega
end Go.Proofs.YtlahoohgbfjciaaGreatDoor
