/- Plain: a token can stand in a line just when the specification calls it valid, the second part. -/
import Derived.Test.YtaaaddmdcldclaaGreatDoorPe
namespace Go.Proofs.YtaaaddmdcldclaaGreatDoor
open Go.RowKit Go.Shelf
set_option linter.unusedVariables false

theorem number_sign {s : ByteArray} (h : 0 < s.size) : decide (0 ≤ numberN s) = digsB s := by
  unfold numberN
  rw [if_neg (by omega)]
  cases hd : digsB s
  · rfl
  · have hr := nfold_range s s.size (fun j hj => by
      cases hb : digB (byteI s j)
      · rw [digs_no hj hb] at hd; cases hd
      · rfl)
    exact decide_eq_true hr.1
theorem dpart_field (s : ByteArray) (n : Nat) (hn : 0 < n) : dpartB s n = fieldB s n := by
  unfold dpartB fieldB
  by_cases h : s.size = n
  · rw [number_sign (by omega)]
  · rw [decide_eq_false h]; simp
theorem two_cases : ∀ i j : Fin 10, (leB [48, 49] [UInt8.ofNat (48 + i.val), UInt8.ofNat (48 + j.val)] && leB [UInt8.ofNat (48 + i.val), UInt8.ofNat (48 + j.val)] [49, 50]) = (decide ((1 : Int) ≤ 10 * (i.val : Int) + (j.val : Int)) && decide (10 * (i.val : Int) + (j.val : Int) ≤ 12)) ∧ (leB [48, 49] [UInt8.ofNat (48 + i.val), UInt8.ofNat (48 + j.val)] && leB [UInt8.ofNat (48 + i.val), UInt8.ofNat (48 + j.val)] [51, 49]) = (decide ((1 : Int) ≤ 10 * (i.val : Int) + (j.val : Int)) && decide (10 * (i.val : Int) + (j.val : Int) ≤ 31)) := by decide +kernel
theorem upto_part {s : ByteArray} (h : fieldB s 2 = true) : uptoB s ⟨#[49, 50]⟩ = partD s 12 ∧ uptoB s ⟨#[51, 49]⟩ = partD s 31 := by
  unfold uptoB partD
  cases hst : starB s
  · rw [fieldB, hst] at h
    simp only [Bool.false_or, Bool.and_eq_true, decide_eq_true_eq] at h
    have hz := h.1
    have hd : digsB s = true := by rw [← number_sign (by omega)]; exact decide_eq_true h.2
    have hdig : ∀ j, j < s.size → digB (byteI s j) = true := fun j hj => by
      cases hb : digB (byteI s j)
      · rw [digs_no hj hb] at hd; cases hd
      · rfl
    obtain ⟨x, x1, x2⟩ := byteI_list (s := s) (k := 0) (by omega)
    obtain ⟨y, y1, y2⟩ := byteI_list (s := s) (k := 1) (by omega)
    have hx := hdig 0 (by omega)
    have hy := hdig 1 (by omega)
    rw [x2] at hx
    rw [y2] at hy
    unfold digB at hx hy
    simp only [Bool.and_eq_true, decide_eq_true_eq] at hx hy
    have hl : s.data.toList = [x, y] := by
      have h2 : s.data.toList.length = 2 := by rw [← size_list]; exact hz
      match hm : s.data.toList, h2 with
      | [a, b], _ =>
        rw [hm] at x1 y1
        simp at x1 y1
        rw [x1, y1]
    obtain ⟨i, hi⟩ : ∃ i : Fin 10, x = UInt8.ofNat (48 + i.val) := ⟨⟨x.toNat - 48, by omega⟩, by
      apply UInt8.toNat_inj.1
      rw [Fx.dig_nat _ (by show x.toNat - 48 < 10; omega)]
      show x.toNat = 48 + (x.toNat - 48); omega⟩
    obtain ⟨j, hj⟩ : ∃ i : Fin 10, y = UInt8.ofNat (48 + i.val) := ⟨⟨y.toNat - 48, by omega⟩, by
      apply UInt8.toNat_inj.1
      rw [Fx.dig_nat _ (by show y.toNat - 48 < 10; omega)]
      show y.toNat = 48 + (y.toNat - 48); omega⟩
    have hnum : numberN s = 10 * (i.val : Int) + (j.val : Int) := by
      unfold numberN
      rw [if_neg (by omega), if_pos hd, hz]
      show nstep (nstep 0 (byteI s 0)) (byteI s 1) = _
      rw [x2, y2]
      have hxi : (x.toNat : Int) = 48 + (i.val : Int) := by rw [hi, Fx.dig_nat _ i.isLt]; omega
      have hyj : (y.toNat : Int) = 48 + (j.val : Int) := by rw [hj, Fx.dig_nat _ j.isLt]; omega
      have hil := i.isLt
      have hjl := j.isLt
      have e1 : nstep 0 (48 + (i.val : Int)) = (i.val : Int) := by unfold nstep; rw [if_pos (by decide)]; omega
      have e2 : nstep (i.val : Int) (48 + (j.val : Int)) = 10 * (i.val : Int) + (j.val : Int) := by unfold nstep; rw [if_pos (by omega)]; omega
      rw [hxi, hyj, e1, e2]
    have hc := two_cases i j
    rw [← hi, ← hj] at hc
    rw [hnum, Lib.toList_data, hl]
    exact ⟨by simpa using hc.1, by simpa using hc.2⟩
  · exact ⟨rfl, rfl⟩
theorem date_eq (t : ByteArray) : dateT t = (5, t, 0, 0) ↔ ((dateR t).1 && (dateR t).2) = true := by
  unfold dateT dateR
  generalize Cv.partsB t 45 = ps
  rcases ps with _ | ⟨a, _ | ⟨b, _ | ⟨c, _ | ⟨d, r⟩⟩⟩⟩
  · simp
  · simp
  · simp
  · show dateT3 t a b c = _ ↔ ((if (fieldB a 4 && fieldB b 2 && fieldB c 2) = true then (true, partD b 12 && partD c 31) else (false, false)).1 && (if (fieldB a 4 && fieldB b 2 && fieldB c 2) = true then (true, partD b 12 && partD c 31) else (false, false)).2) = true
    unfold dateT3 dateB
    rw [dpart_field a 4 (by decide), dpart_field b 2 (by decide), dpart_field c 2 (by decide)]
    by_cases h : (fieldB a 4 && fieldB b 2 && fieldB c 2) = true
    · rw [if_pos h, if_pos h]
      simp only [Bool.and_eq_true] at h
      unfold dateC
      rw [(upto_part h.1.2).1, (upto_part h.2).2]
      by_cases h2 : (partD b 12 && partD c 31) = true
      · rw [if_pos h2]; simp [h2]
      · rw [if_neg h2]
        have h3 : (partD b 12 && partD c 31) = false := by simpa using h2
        rw [h3]; simp
    · rw [if_neg h, if_neg h]; simp
  · simp
theorem runT_date {t : ByteArray} (h : runT t = (5, t, 0, 0)) : dateT t = (5, t, 0, 0) := by
  unfold runT at h
  split at h
  · split at h
    · unfold numberT at h
      split at h
      · simp at h
      · split at h
        · simp at h
        · simp at h
    · exact h
  · unfold timeT at h
    split at h
    · simp at h
    · simp at h
theorem sign_cases : ∀ c : Fin 256, 0 ≤ signI (c.val : Int) ↔ (c.val = 40 ∨ c.val = 41 ∨ c.val = 44 ∨ c.val = 61 ∨ c.val = 58 ∨ c.val = 60 ∨ c.val = 62) := by decide +kernel
theorem sig_byte {t : ByteArray} (hz : t.size = 1) : sigB t = decide (0 ≤ signI (byteI t 0)) := by
  obtain ⟨c, h1, h2⟩ := byteI_list (s := t) (k := 0) (by omega)
  have hl : t.data.toList = [c] := by
    have h3 : t.data.toList.length = 1 := by rw [← size_list]; exact hz
    match hm : t.data.toList, h3 with
    | [a], _ => rw [hm] at h1; simp at h1; rw [h1]
  have hs := sign_cases ⟨c.toNat, c.toNat_lt⟩
  rw [h2]
  unfold sigB
  rw [Lib.toList_data, hl]
  have key : ∀ d : UInt8, ([c] == ([d] : List UInt8)) = decide (c.toNat = d.toNat) := fun d => by
    by_cases h : c = d
    · subst h; simp
    · rw [decide_eq_false (fun e => h (UInt8.toNat_inj.1 e))]
      simp [h]
  simp only [key]
  have e40 : (40 : UInt8).toNat = 40 := rfl
  by_cases h : 0 ≤ signI (c.toNat : Int)
  · rw [decide_eq_true h]
    rcases hs.1 h with h5 | h5 | h5 | h5 | h5 | h5 | h5 <;> (replace h5 : c.toNat = _ := h5; rw [h5]; decide)
  · rw [decide_eq_false h]
    cases hv : (decide (c.toNat = (40 : UInt8).toNat) || decide (c.toNat = (41 : UInt8).toNat) || decide (c.toNat = (44 : UInt8).toNat) || decide (c.toNat = (61 : UInt8).toNat) || decide (c.toNat = (58 : UInt8).toNat) || decide (c.toNat = (60 : UInt8).toNat) || decide (c.toNat = (62 : UInt8).toNat))
    · rfl
    · simp only [Bool.or_eq_true, decide_eq_true_eq] at hv
      exact absurd (hs.2 (by
        show c.toNat = 40 ∨ c.toNat = 41 ∨ c.toNat = 44 ∨ c.toNat = 61 ∨ c.toNat = 58 ∨ c.toNat = 60 ∨ c.toNat = 62
        have f : ∀ d : UInt8, c.toNat = d.toNat → c.toNat = d.toNat := fun _ h => h
        rcases hv with (((((h5 | h5) | h5) | h5) | h5) | h5) | h5
        · exact .inl h5
        · exact .inr (.inl h5)
        · exact .inr (.inr (.inl h5))
        · exact .inr (.inr (.inr (.inl h5)))
        · exact .inr (.inr (.inr (.inr (.inl h5))))
        · exact .inr (.inr (.inr (.inr (.inr (.inl h5)))))
        · exact .inr (.inr (.inr (.inr (.inr (.inr h5))))))) h
theorem sig_size {t : ByteArray} (h : sigB t = true) : t.size = 1 := by
  unfold sigB at h
  rw [Lib.toList_data] at h
  rw [size_list]
  simp only [Bool.or_eq_true, beq_iff_eq] at h
  rcases h with (((((h | h) | h) | h) | h) | h) | h <;> (rw [h]; rfl)
end Go.Proofs.YtaaaddmdcldclaaGreatDoor
