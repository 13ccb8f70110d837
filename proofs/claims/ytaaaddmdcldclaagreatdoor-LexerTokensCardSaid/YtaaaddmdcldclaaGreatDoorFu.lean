/- Plain: what a text of a number is read as; the tokens of texts, times, numbers can stand in a line. -/
import Derived.Test.YtaaaddmdcldclaaGreatDoorPa
namespace Go.Proofs.YtaaaddmdcldclaaGreatDoor
open Go.RowKit Go.Shelf
set_option linter.unusedVariables false
set_option linter.unusedSimpArgs false
namespace Fx
theorem bytes_ext {a b : ByteArray} (h : a.data.toList = b.data.toList) : a = b := by obtain ⟨⟨l⟩⟩ := a; obtain ⟨⟨m⟩⟩ := b; exact congrArg (fun l => ByteArray.mk (Array.mk l)) h
def dgt (c : UInt8) : Bool := decide (48 ≤ c.toNat) && decide (c.toNat ≤ 57)
theorem isDg_iff (l : List UInt8) : isDg l = true ↔ l ≠ [] ∧ l.all dgt = true := by
  unfold isDg
  rw [Bool.and_eq_true, Bool.not_eq_true', List.isEmpty_eq_false_iff]
  rfl
theorem rd_top : ∀ (l : List UInt8), rd 1000000000001 l = 1000000000001
  | [] => rfl
  | c :: l => by
    show rd (min (1000000000001 * 10 + ((c.toNat : Int) - 48) % 256) 1000000000001) l = _
    have h : min (1000000000001 * 10 + ((c.toNat : Int) - 48) % 256) 1000000000001 = 1000000000001 := by omega
    rw [h, rd_top l]
theorem rd_append (n : Int) (l m : List UInt8) : rd n (l ++ m) = rd (rd n l) m := by unfold rd; rw [List.foldl_append]

theorem dig_nat (k : Nat) (h : k < 10) : (UInt8.ofNat (48 + k)).toNat = 48 + k := by
  rw [UInt8.toNat_ofNat']; exact Nat.mod_eq_of_lt (by omega)
theorem dgt_nat (k : Nat) (h : k < 10) : dgt (UInt8.ofNat (48 + k)) = true := by
  unfold dgt
  rw [dig_nat k h, Bool.and_eq_true, decide_eq_true_eq, decide_eq_true_eq]
  omega
theorem rd_one (n : Int) (k : Nat) (h : k < 10) (h1 : n * 10 + k ≤ 1000000000001) : rd n [UInt8.ofNat (48 + k)] = n * 10 + k := by
  show min (n * 10 + (((UInt8.ofNat (48 + k)).toNat : Int) - 48) % 256) 1000000000001 = _
  rw [dig_nat k h]
  omega
theorem dec_facts : ∀ (u : Nat), u ≤ 1000000000001 → (Lib.decDigits u).all dgt = true ∧ rd 0 (Lib.decDigits u) = u := by
  intro u
  induction u using Nat.strongRecOn with
  | _ u ih =>
    intro hu
    by_cases h : u < 10
    · rw [Lib.decDigits, dif_pos h]
      refine ⟨by rw [List.all_cons, dgt_nat u h]; rfl, ?_⟩
      rw [rd_one 0 u h (by omega)]; omega
    · obtain ⟨i1, i2⟩ := ih (u / 10) (by omega) (by omega)
      rw [Lib.decDigits, dif_neg h]
      refine ⟨by rw [List.all_append, i1, List.all_cons, dgt_nat _ (Nat.mod_lt _ (by omega))]; rfl, ?_⟩
      rw [rd_append, i2, rd_one _ _ (Nat.mod_lt _ (by omega)) (by omega)]
      omega
theorem dec_ne (u : Nat) : Lib.decDigits u ≠ [] := by
  intro h
  have h1 := congrArg List.length h
  rw [Lib.decDigits_length, List.length_nil] at h1
  have h2 := Lib.nDigits_pos u
  omega
theorem rd_three (n : Int) (x y z : Nat) (hx : x < 10) (hy : y < 10) (hz : z < 10) (h1 : ((n * 10 + x) * 10 + y) * 10 + z ≤ 1000000000001) : rd n [UInt8.ofNat (48 + x), UInt8.ofNat (48 + y), UInt8.ofNat (48 + z)] = ((n * 10 + x) * 10 + y) * 10 + z := by
  have e : [UInt8.ofNat (48 + x), UInt8.ofNat (48 + y), UInt8.ofNat (48 + z)] = ([UInt8.ofNat (48 + x)] ++ [UInt8.ofNat (48 + y)]) ++ [UInt8.ofNat (48 + z)] := rfl
  have a1 := rd_one n x hx (by omega)
  have a2 := rd_one (n * 10 + x) y hy (by omega)
  have a3 := rd_one ((n * 10 + x) * 10 + y) z hz (by omega)
  rw [e, rd_append, rd_append, a1, a2, a3]

theorem dec_frac (r : Nat) (hr : r < 1000) : (Lib.decDigits (1000 + r)).drop 1 = [UInt8.ofNat (48 + r / 100), UInt8.ofNat (48 + r / 10 % 10), UInt8.ofNat (48 + r % 10)] := by
  rw [Lib.decDigits, dif_neg (by omega), Lib.decDigits, dif_neg (by omega), Lib.decDigits_two (by omega) (by omega)]
  have e1 : (1000 + r) / 10 / 10 % 10 = r / 100 := by omega
  have e2 : (1000 + r) / 10 % 10 = r / 10 % 10 := by omega
  have e3 : (1000 + r) % 10 = r % 10 := by omega
  rw [e1, e2, e3]
  rfl

theorem trim3 (a b c : UInt8) : Lib.trimRightB [a, b, c] 48 = if c ≠ 48 then [a, b, c] else if b ≠ 48 then [a, b] else if a ≠ 48 then [a] else [] := by
  unfold Lib.trimRightB
  by_cases h1 : c = 48
  · by_cases h2 : b = 48
    · by_cases h3 : a = 48 <;> simp [h1, h2, h3]
    · simp [h1, h2]
  · simp [h1]

theorem index_here : ∀ (a b : List UInt8), a.all dgt = true → Lib.indexByte (a ++ 46 :: b) 46 = a.length
  | [], b, _ => rfl
  | c :: a, b, h => by
    rw [List.all_cons, Bool.and_eq_true] at h
    have hc : (c == 46) = false := by
      rw [beq_eq_false_iff_ne]; intro e; rw [e] at h; exact absurd h.1 (by decide)
    have ih := index_here a b h.2
    show (if c == 46 then (0 : Int) else if Lib.indexByte (a ++ 46 :: b) 46 == -1 then -1 else Lib.indexByte (a ++ 46 :: b) 46 + 1) = _
    rw [hc, ih]
    have hn : (((a.length : Int)) == -1) = false := by rw [beq_eq_false_iff_ne]; omega
    rw [hn]
    simp
theorem index_not : ∀ (a : List UInt8), a.all dgt = true → Lib.indexByte a 46 = -1
  | [], _ => rfl
  | c :: a, h => by
    rw [List.all_cons, Bool.and_eq_true] at h
    have hc : (c == 46) = false := by
      rw [beq_eq_false_iff_ne]; intro e; rw [e] at h; exact absurd h.1 (by decide)
    show (if c == 46 then (0 : Int) else if Lib.indexByte a 46 == -1 then -1 else Lib.indexByte a 46 + 1) = _
    rw [hc, index_not a h.2]
    rfl
theorem cut_here (a b : List UInt8) (h : a.all dgt = true) : Lib.cut (a ++ 46 :: b) [46] = (a, b, true) := by
  unfold Lib.cut
  rw [Lib.index_one, index_here a b h, if_pos (by omega), Int.toNat_natCast]
  have e1 : (a ++ 46 :: b).take a.length = a := by rw [List.take_append_of_le_length (Nat.le_refl _), List.take_length]
  have e2 : (a ++ 46 :: b).drop (a.length + ([46] : List UInt8).length) = b := by
    rw [show a ++ 46 :: b = (a ++ [46]) ++ b by simp, show a.length + [(46 : UInt8)].length = (a ++ [(46 : UInt8)]).length by simp, List.drop_append_of_le_length (Nat.le_refl _), List.drop_length]; rfl
  rw [e1, e2]
theorem cut_not (a : List UInt8) (h : a.all dgt = true) : Lib.cut a [46] = (a, [], false) := by
  unfold Lib.cut
  rw [Lib.index_one, index_not a h, if_neg (by omega)]
theorem prefix_not (a b : List UInt8) (h : a.all dgt = true) (hne : a ≠ []) : Lib.hasPrefix (a ++ b) [45] = false := by
  cases a with
  | nil => exact absurd rfl hne
  | cons c a =>
    rw [List.all_cons, Bool.and_eq_true] at h
    have hc : ((45 : UInt8) == c) = false := by
      rw [beq_eq_false_iff_ne]; intro e; rw [← e] at h; exact absurd h.1 (by decide)
    unfold Lib.hasPrefix
    show ((45 : UInt8) == c && _) = false
    rw [hc]; rfl

/-- what is read behind a sign -/
theorem parse_body (neg : Bool) (D : List UInt8) (s : List UInt8) (h1 : Lib.hasPrefix s [45] = neg) (h2 : Lib.trimPrefix s [45] = D) (a b : List UInt8) (ptd : Bool) (hc : Lib.cut D [46] = (a, b, ptd)) (ha : isDg a = true) (hb : ptd = true → isDg b = true ∧ b.length ≤ 3) (N : Int) (hN : rd (rd 0 a) ((b ++ [48, 48, 48]).take 3) = N) (hN2 : N ≤ 1000000000000) :
    parseL s = (if neg = true then -N else N, 0) := by
  unfold parseL
  rw [h1, h2, hc]
  simp only [hN]
  unfold parseOf
  rw [ha]
  have hcond : (!true || (ptd && (!isDg b || decide ((3 : Int) < b.length)))) = false := by
    cases ptd
    · rfl
    · obtain ⟨hb1, hb2⟩ := hb rfl
      rw [hb1, decide_eq_false (by omega)]; rfl
  rw [hcond, if_neg (by decide), if_neg (by omega)]

theorem bs_data' (l : List UInt8) : (bs l).data.toList = l := rfl
theorem text_list (n : Int) : (textB n).data.toList = (if clampI n < 0 then [45] else []) ++ Lib.decDigits ((clampI n).natAbs / 1000) ++ (if (clampI n).natAbs % 1000 = 0 then [] else 46 :: Lib.trimRightB ((Lib.decDigits (1000 + (clampI n).natAbs % 1000)).drop 1) 48) := by
  have e1 : ((clampI n).natAbs : Int) / 1000 = (((clampI n).natAbs / 1000 : Nat) : Int) := by omega
  have e2 : 1000 + ((clampI n).natAbs : Int) % 1000 = ((1000 + (clampI n).natAbs % 1000 : Nat) : Int) := by omega
  have e3 : ((((clampI n).natAbs : Int) % 1000 == 0) = true) ↔ (clampI n).natAbs % 1000 = 0 := by rw [beq_iff_eq]; omega
  unfold textB
  rw [e1, e2, Lib.itoa_nonneg, Lib.itoa_nonneg]
  unfold textOf
  have hs : (if decide (clampI n < 0) = true then (⟨#[45]⟩ : ByteArray) else ⟨#[]⟩) = bs (if clampI n < 0 then [45] else []) := by
    by_cases h : clampI n < 0
    · rw [if_pos (decide_eq_true h), if_pos h]; rfl
    · rw [if_neg (by simpa using h), if_neg h]; rfl
  rw [hs]
  by_cases h : (clampI n).natAbs % 1000 = 0
  · rw [if_pos (e3.2 h), if_pos h, bs_append, bs_data, List.append_nil]
  · rw [if_neg (fun h2 => h (e3.1 h2)), if_neg h, bs_append, show (⟨#[46]⟩ : ByteArray) = bs [46] from rfl, bs_append, bs_append, bs_data, List.append_assoc _ [46]]
    rfl

theorem parse_text (n : Int) : parseL (textB n).data.toList = (clampI n, 0) := by
  have rc := clampI_range n
  rw [text_list]
  obtain ⟨m, hm⟩ : ∃ m, m = (clampI n).natAbs := ⟨_, rfl⟩
  rw [← hm]
  obtain ⟨d1, d2⟩ := dec_facts (m / 1000) (by omega)
  have hne := dec_ne (m / 1000)
  have hdg : isDg (Lib.decDigits (m / 1000)) = true := (isDg_iff _).2 ⟨hne, d1⟩
  have hres : clampI n = if (decide (clampI n < 0)) = true then -(m : Int) else (m : Int) := by
    by_cases h : clampI n < 0
    · rw [if_pos (decide_eq_true h)]; omega
    · rw [if_neg (by simpa using h)]; omega
  have hgoal : (clampI n, (0 : Int)) = (if (decide (clampI n < 0)) = true then -(m : Int) else (m : Int), 0) := by rw [← hres]
  rw [hgoal]
  -- the tail
  by_cases hr : m % 1000 = 0
  · rw [if_pos hr, List.append_nil]
    refine parse_body _ (Lib.decDigits (m / 1000)) _ ?_ ?_ (Lib.decDigits (m / 1000)) [] false (cut_not _ d1) hdg (fun h => by cases h) m ?_ (by omega)
    · by_cases h : clampI n < 0
      · rw [if_pos h, decide_eq_true h]; rfl
      · rw [if_neg h, decide_eq_false h]
        have := prefix_not (Lib.decDigits (m / 1000)) [] d1 hne
        rwa [List.append_nil] at this
    · by_cases h : clampI n < 0
      · rw [if_pos h]; rfl
      · rw [if_neg h, List.nil_append]
        have := prefix_not (Lib.decDigits (m / 1000)) [] d1 hne
        rw [List.append_nil] at this
        unfold Lib.trimPrefix; rw [this]; rfl
    · rw [d2]
      show rd _ [UInt8.ofNat (48 + 0), UInt8.ofNat (48 + 0), UInt8.ofNat (48 + 0)] = _
      rw [rd_three _ 0 0 0 (by omega) (by omega) (by omega) (by omega)]
      omega
  · rw [if_neg hr, dec_frac _ (Nat.mod_lt _ (by omega)), trim3]
    obtain ⟨x, hx⟩ : ∃ x, x = m % 1000 / 100 := ⟨_, rfl⟩
    obtain ⟨y, hy⟩ : ∃ y, y = m % 1000 / 10 % 10 := ⟨_, rfl⟩
    obtain ⟨z, hz⟩ : ∃ z, z = m % 1000 % 10 := ⟨_, rfl⟩
    rw [← hx, ← hy, ← hz]
    have x10 : x < 10 := by omega
    have y10 : y < 10 := by omega
    have z10 : z < 10 := by omega
    have eq48 : ∀ k : Nat, k < 10 → (UInt8.ofNat (48 + k) = 48 ↔ k = 0) := by
      intro k hk
      constructor
      · intro h
        have := congrArg UInt8.toNat h
        rw [dig_nat k hk] at this
        change 48 + k = 48 at this
        omega
      · intro h; subst h; rfl
    -- the digits behind the point, padded, are the three digits again
    obtain ⟨T, hT⟩ : ∃ T, T = (if UInt8.ofNat (48 + z) ≠ 48 then [UInt8.ofNat (48 + x), UInt8.ofNat (48 + y), UInt8.ofNat (48 + z)] else if UInt8.ofNat (48 + y) ≠ 48 then [UInt8.ofNat (48 + x), UInt8.ofNat (48 + y)] else if UInt8.ofNat (48 + x) ≠ 48 then [UInt8.ofNat (48 + x)] else []) := ⟨_, rfl⟩
    rw [← hT]
    have hTf : isDg T = true ∧ T.length ≤ 3 ∧ (T ++ [48, 48, 48]).take 3 = [UInt8.ofNat (48 + x), UInt8.ofNat (48 + y), UInt8.ofNat (48 + z)] := by
      by_cases h1 : UInt8.ofNat (48 + z) = 48
      · rw [if_neg (fun h => h h1)] at hT
        by_cases h2 : UInt8.ofNat (48 + y) = 48
        · rw [if_neg (fun h => h h2)] at hT
          have h3 : UInt8.ofNat (48 + x) ≠ 48 := by
            intro h3
            have := (eq48 z z10).1 h1; have := (eq48 y y10).1 h2; have := (eq48 x x10).1 h3
            omega
          rw [if_pos h3] at hT
          rw [hT, h1, h2]
          refine ⟨(isDg_iff _).2 ⟨by simp, by rw [List.all_cons, dgt_nat x x10]; rfl⟩, by simp, rfl⟩
        · rw [if_pos h2] at hT
          rw [hT, h1]
          refine ⟨(isDg_iff _).2 ⟨by simp, by rw [List.all_cons, dgt_nat x x10, List.all_cons, dgt_nat y y10]; rfl⟩, by simp, rfl⟩
      · rw [if_pos h1] at hT
        rw [hT]
        refine ⟨(isDg_iff _).2 ⟨by simp, by rw [List.all_cons, dgt_nat x x10, List.all_cons, dgt_nat y y10, List.all_cons, dgt_nat z z10]; rfl⟩, by simp, rfl⟩
    obtain ⟨hT1, hT2, hT3⟩ := hTf
    refine parse_body _ (Lib.decDigits (m / 1000) ++ 46 :: T) _ ?_ ?_ (Lib.decDigits (m / 1000)) T true (cut_here _ _ d1) hdg (fun _ => ⟨hT1, hT2⟩) m ?_ (by omega)
    · by_cases h : clampI n < 0
      · rw [if_pos h, decide_eq_true h]; rfl
      · rw [if_neg h, decide_eq_false h, List.nil_append]
        exact prefix_not _ _ d1 hne
    · by_cases h : clampI n < 0
      · rw [if_pos h]; rfl
      · rw [if_neg h, List.nil_append]
        unfold Lib.trimPrefix; rw [prefix_not _ _ d1 hne]; rfl
    · rw [d2, hT3, rd_three _ x y z x10 y10 z10 (by omega)]
      omega
end Fx
theorem times_all : ((List.range 1440).all timeChk) = true := by kernel_rfl
theorem time_ok {n : Int} (h0 : 0 ≤ n) (h1 : n < 1440) : tokOk 4 ⟨#[]⟩ n := by
  obtain ⟨m, rfl⟩ := Int.eq_ofNat_of_zero_le h0
  have h := List.all_eq_true.1 times_all m (List.mem_range.2 (by omega))
  have hs : spellB 4 ⟨#[]⟩ (m : Int) = Cv.bs (Cv.clockL (m : Int)) := (if_neg (by decide)).trans ((if_neg (by decide)).trans ((if_neg (by decide)).trans ((if_pos rfl).trans (if_pos ⟨h0, h1⟩))))
  have hz : (Cv.bs (Cv.clockL (m : Int))).size = 5 := rfl
  unfold tokOk
  rw [hs, hz]
  refine ⟨by decide, ?_⟩
  unfold timeChk at h
  simp only [Bool.and_eq_true, decide_eq_true_eq] at h
  obtain ⟨⟨⟨⟨a, b⟩, c⟩, d⟩, e⟩ := h
  generalize readR (Cv.bs (Cv.clockL (m : Int))) = r at *
  obtain ⟨rk, rt, rn, rl, rc⟩ := r
  have hb : rt = ⟨#[]⟩ := Fx.bytes_ext (by simpa using b)
  simp only at a c d e
  subst a c d e hb
  rfl
theorem clk_range {t : ByteArray} (h : clkE t = 0) : 0 ≤ clkN t ∧ clkN t < 1440 := by
  unfold clkE Cv.clockR at h
  unfold clkN Cv.clockR
  split at h
  · rename_i h1
    rw [if_pos h1]
    split at h
    · rename_i h2
      rw [if_pos h2]
      have a : 0 ≤ Cv.hh t.data.toList := Int.natCast_nonneg _
      have b : 0 ≤ Cv.mm t.data.toList := Int.natCast_nonneg _
      exact ⟨by show 0 ≤ _ * 60 + _; omega, by show _ * 60 + _ < (1440 : Int); omega⟩
    · exact absurd h (by decide)
  · exact absurd h (by decide)
theorem size_list (s : ByteArray) : s.size = s.data.toList.length := Lib.size_eq s
theorem byteI_list {s : ByteArray} {k : Nat} (hk : k < s.size) : ∃ c, s.data.toList[k]? = some c ∧ byteI s k = (c.toNat : Int) := by
  have h : k < s.data.toList.length := by rw [← size_list]; exact hk
  exact ⟨s.data.toList[k], List.getElem?_eq_getElem h, (at_get hk _).1 (List.getElem?_eq_getElem h)⟩
theorem dec_lead : ∀ u : Nat, 10 ≤ u → ∃ c l, Lib.decDigits u = c :: l ∧ c ≠ 48 := by
  intro u
  induction u using Nat.strongRecOn with
  | _ u ih =>
    intro hu
    rw [Lib.decDigits, dif_neg (by omega)]
    by_cases h : u / 10 < 10
    · rw [Lib.decDigits, dif_pos h]
      refine ⟨_, _, rfl, ?_⟩
      intro e
      have h2 := congrArg UInt8.toNat e
      first
        | (rw [Fx.dig_nat _ h] at h2; simp at h2; omega)
        | (simp at h2; omega)
    · obtain ⟨c, l, e, hc⟩ := ih (u / 10) (by omega) (by omega)
      exact ⟨c, l ++ _, by rw [e]; rfl, hc⟩
end Go.Proofs.YtaaaddmdcldclaaGreatDoor
