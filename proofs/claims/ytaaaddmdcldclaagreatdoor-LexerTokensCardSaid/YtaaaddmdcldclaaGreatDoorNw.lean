/- Contracts of lexer.Spell, Valid. Asked: strconv's table of powers reads as laid. -/
import Derived.Test.YtaaaddmdcldclaaGreatDoorNu
namespace Go.Proofs.YtaaaddmdcldclaaGreatDoor
open Go.RowKit Go.Shelf
set_option linter.unusedVariables false
set_option linter.unusedSimpArgs false

theorem textB_size (n : Int) : (Fx.textB n).size ≤ 60 := by
  have r0 := Fx.clampI_range n
  have hq1 := Lib.itoa_length_le (((Fx.clampI n).natAbs : Int) / 1000) (by omega) (by omega)
  have hq2 := Lib.itoa_length_le (1000 + ((Fx.clampI n).natAbs : Int) % 1000) (by omega) (by omega)
  have hq3 := Fx.trimRightB_le ((Lib.itoa (1000 + ((Fx.clampI n).natAbs : Int) % 1000)).drop 1) 48
  rw [List.length_drop] at hq3
  have s1 := Fx.bs_size (Lib.itoa (((Fx.clampI n).natAbs : Int) / 1000))
  have s3 := Fx.bs_size (Lib.trimRightB ((Lib.itoa (1000 + ((Fx.clampI n).natAbs : Int) % 1000)).drop 1) 48)
  unfold Fx.textB Fx.textOf
  generalize Fx.bs (Lib.itoa (((Fx.clampI n).natAbs : Int) / 1000)) = A at *
  generalize Fx.bs (Lib.trimRightB ((Lib.itoa (1000 + ((Fx.clampI n).natAbs : Int) % 1000)).drop 1) 48) = C at *
  have h0 : (⟨#[]⟩ : ByteArray).size = 0 := rfl
  have h1 : (⟨#[45]⟩ : ByteArray).size = 1 := rfl
  have h2 : (⟨#[46]⟩ : ByteArray).size = 1 := rfl
  split <;> split <;> simp only [ByteArray.size_append, h0, h1, h2] <;> omega
theorem spellB_size (k : Int) (t : ByteArray) (n : Int) : (spellB k t n).size ≤ t.size + 60 := by
  unfold spellB
  have h0 : (⟨#[]⟩ : ByteArray).size = 0 := rfl
  have h1 : (⟨#[34]⟩ : ByteArray).size = 1 := rfl
  have h2 := textB_size n
  have h3 : (Cv.bs (Cv.clockL n)).size = 5 := rfl
  split
  · omega
  · split
    · simp only [ByteArray.size_append, h1]; omega
    · split
      · omega
      · split
        · split
          · omega
          · omega
        · omega
open Classical in
noncomputable def spellS (k : Int) (t : ByteArray) (n : Int) : ByteArray := if tokOk k t n then spellB k t n else ⟨#[]⟩
open Classical in
noncomputable def spellE (k : Int) (t : ByteArray) (n : Int) : Int := if tokOk k t n then 0 else 1
theorem spell_yes {k : Int} {t : ByteArray} {n : Int} (h : tokOk k t n) : spellS k t n = spellB k t n ∧ spellE k t n = 0 := ⟨if_pos h, if_pos h⟩
theorem spell_no {k : Int} {t : ByteArray} {n : Int} (h : ¬ tokOk k t n) : spellS k t n = ⟨#[]⟩ ∧ spellE k t n = 1 := ⟨if_neg h, if_neg h⟩
theorem bytes_eq {a b : ByteArray} (h : (a.toList == b.toList) = true) : a = b := by
  have h2 : a.toList = b.toList := by simpa using h
  rw [Lib.toList_data, Lib.toList_data] at h2
  obtain ⟨⟨x⟩⟩ := a
  obtain ⟨⟨y⟩⟩ := b
  exact congrArg (fun l => ByteArray.mk (Array.mk l)) h2
set_option maxHeartbeats 8000000 in
set_option maxRecDepth 100000 in
theorem spell_any (k : Int) (t : ByteArray) (n a : Int) (ht : t.size ≤ 900) (w : World) (hT : Tab w) : Calls Tryz.prog 16 #[.agg #[.int .i64 k, .string t, .int .i64 n, .int .i64 a]] w fun e w' => e = .returned (.tuple #[.string (spellS k t n), .int .i64 (spellE k t n)]) ∧ Below w.heap.size w w' := by
  obtain ⟨S, hS⟩ : ∃ S, S = spellB k t n := ⟨_, rfl⟩
  have hsz := spellB_size k t n
  have HSG := Lib.hid (fun (x : World) (hb : Below w.heap.size w x) => (by have h := spelling_any k t n a (by omega) x (hT.below hb); rw [← hS] at h; exact h : Calls Tryz.prog 36 #[.agg #[.int .i64 k, .string t, .int .i64 n, .int .i64 a]] x fun e w' => e = .returned (.string S) ∧ Below x.heap.size x w'))
  have hok : tokOk k t n ↔ (0 < S.size ∧ readR S = ⟨k, t, n, S.size, 0⟩) := by unfold tokOk; rw [← hS]
  have hsy := fun (h : tokOk k t n) => spell_yes h
  have hsn := fun (h : ¬ tokOk k t n) => spell_no h
  rw [← hS] at hsy hsz
  have HOK := Lib.hid hok
  have HSY := Lib.hid hsy
  have HSN := Lib.hid hsn
  have HSZ := Lib.hid (show S.size ≤ 1000 by omega)
  obtain ⟨W, g, hW, hg, R1, B, sz⟩ := box1 w #[.int .i64 k, .string t, .int .i64 n, .int .i64 a] 40
  have HB0 := Lib.hid B
  have HG0 := Lib.hid R1
  have HWG := Lib.hid (show w.heap.size ≤ g by omega)
  clear B R1 sz hS hok hsy hsn hsz hT ht
  go_enter Tryz.func16, Tryz.ntmps16
  go_upto_region 1 with fail
  rw [← hW]
  try rw [← hg]
  clear hW hg
  have g_0 := HG0.out.c 0 _ rfl
  have g_1 := HG0.out.c 1 _ rfl
  have g_2 := HG0.out.c 2 _ rfl
  have g_3 := HG0.out.c 3 _ rfl
  have g_z := HG0.out.fz
  go_wp2_with fail
  refine (HSG.out _ HB0.out).mono ?_
  rintro e w1 ⟨rfl, hb⟩
  have HG1 := Lib.hid (HG0.out.keep hb)
  have HB1 := Lib.hid (HB0.out.trans (hb.mono HB0.out.size))
  clear hb g_0 g_1 g_2 g_3 g_z HG0 HB0 HSG
  by_cases h0 : S.size = 0
  · obtain rfl : S = ⟨#[]⟩ := empty_of h0
    go_wp2_with fail
    have HN := HSN.out (by rw [HOK.out]; intro h; exact absurd h.1 (by decide))
    go_ret2
    exact ⟨by rw [HN.1, HN.2]; (first | done | rfl), HB1.out⟩
  · have h0' : 0 < S.size := by omega
    have hne := nil_no h0'
    have hrt := fun w' => readToken_any S h0' HSZ.out w'
    simp only [readV_is] at hrt
    obtain ⟨⟨rk, rt, rn, l, q⟩, hR⟩ : ∃ r, r = readR S := ⟨_, rfl⟩
    rw [← hR] at hrt
    have HRR := Lib.hid hR
    have HRT := Lib.hid (show ∀ w', Calls Tryz.prog 31 #[.string S] w' fun e w2 => e = .returned (.tuple #[.agg #[.int .i64 rk, .string rt, .int .i64 rn, .int .i64 0], .int .i64 l, .int .i64 q]) ∧ Below w'.heap.size w' w2 from hrt)
    have H0 := Lib.hid h0'
    clear hrt hR h0 h0'
    have g_0 := HG1.out.c 0 _ rfl
    have g_1 := HG1.out.c 1 _ rfl
    have g_2 := HG1.out.c 2 _ rfl
    have g_3 := HG1.out.c 3 _ rfl
    have g_z := HG1.out.fz
    go_upto_region 5 with fail
    obtain ⟨W2, hW2⟩ : ∃ x, x = w1.setCell ⟨g, 3, none⟩ (.int .i64 0) := ⟨_, rfl⟩
    have HG2 := Lib.hid (show RowAt W2 g [.int .i64 k, .string t, .int .i64 n, .int .i64 0] by rw [hW2]; exact row_set HG1.out 3 (by simp) _)
    have HB2 := Lib.hid (show Below w.heap.size w W2 by rw [hW2]; exact bel_cell HB1.out HWG.out _ _)
    rw [← hW2]
    clear hW2 HG1 HB1 g_0 g_1 g_2 g_3 g_z hne
    go_wp2_with fail
    refine (HRT.out _).mono ?_
    rintro e w3 ⟨rfl, hb⟩
    have HG3 := Lib.hid (HG2.out.keep hb)
    have HB3 := Lib.hid (HB2.out.trans (hb.mono HB2.out.size))
    clear hb HG2 HB2
    obtain ⟨W4, b, hW4, hb4, RB, B4, sz4⟩ := box1 w3 #[.int .i64 rk, .string rt, .int .i64 rn, .int .i64 0] 40
    have HG4 := Lib.hid (HG3.out.keep B4)
    have HT4 := Lib.hid RB
    have HB4 := Lib.hid (HB3.out.trans (B4.mono HB3.out.size))
    have nbg : b ≠ g := by have := HG3.out.lt; omega
    go_upto_region 6 with fail
    rw [← hW4]
    try rw [← hb4]
    clear hW4 hb4 RB B4 sz4 HG3 HB3 HRT
    have g_0 := HG4.out.c 0 _ rfl
    have g_1 := HG4.out.c 1 _ rfl
    have g_2 := HG4.out.c 2 _ rfl
    have g_3 := HG4.out.c 3 _ rfl
    have t_0 := HT4.out.c 0 _ rfl
    have t_1 := HT4.out.c 1 _ rfl
    have t_2 := HT4.out.c 2 _ rfl
    have t_3 := HT4.out.c 3 _ rfl
    by_cases hq : q = 0
    · subst hq
      by_cases hl : l = S.size
      · subst hl
        by_cases he : rk = k ∧ rt = t ∧ rn = n
        · obtain ⟨rfl, rfl, rfl⟩ := he
          have HY := HSY.out (HOK.out.2 ⟨H0.out, HRR.out.symm⟩)
          go_wp2_with fail
          go_ret2
          exact ⟨by rw [HY.1, HY.2]; (first | done | rfl), HB4.out⟩
        · have HE := Lib.hid he
          clear he
          by_cases hk : rk = k
          · by_cases hn : rn = n
            · have ht : ¬ rt = t := fun h => HE.out ⟨hk, h, hn⟩
              subst hk hn
              have HNN := Lib.hid ht
              have h1 : (rt.toList == t.toList) = false := by
                cases hh : (rt.toList == t.toList)
                · rfl
                · exact absurd (bytes_eq hh) ht
              clear ht
              go_wp2_with fail
              have HN := HSN.out (by rw [HOK.out]; rw [← HRR.out]; intro h; have h2 := congrArg TkR.t h.2; exact HNN.out h2)
              go_ret2
              exact ⟨by rw [HN.1, HN.2]; (first | done | rfl), HB4.out⟩
            · clear HE
              subst hk
              have HNN := Lib.hid hn
              have h1 : (rn == n) = false := by simpa using hn
              go_wp2_with fail
              have HN := HSN.out (by rw [HOK.out]; rw [← HRR.out]; intro h; have h2 := congrArg TkR.n h.2; exact HNN.out h2)
              go_ret2
              exact ⟨by rw [HN.1, HN.2]; (first | done | rfl), HB4.out⟩
          · clear HE
            have HNN := Lib.hid hk
            have h1 : (rk == k) = false := by simpa using hk
            go_wp2_with fail
            have HN := HSN.out (by rw [HOK.out]; rw [← HRR.out]; intro h; have h2 := congrArg TkR.k h.2; exact HNN.out h2)
            go_ret2
            exact ⟨by rw [HN.1, HN.2]; (first | done | rfl), HB4.out⟩
      · have tl : ((l : Int) != (S.size : Int)) = true := by rw [bne_iff_ne]; omega
        have HL := Lib.hid hl
        clear hl
        go_wp2_with fail
        have HN := HSN.out (by rw [HOK.out]; rw [← HRR.out]; intro h; have h2 := congrArg TkR.l h.2; exact HL.out h2)
        go_ret2
        exact ⟨by rw [HN.1, HN.2]; (first | done | rfl), HB4.out⟩
    · have tq : (q != 0) = true := by simpa using hq
      have HQ := Lib.hid hq
      clear hq
      go_wp2_with fail
      have HN := HSN.out (by rw [HOK.out]; rw [← HRR.out]; intro h; have h2 := congrArg TkR.c h.2; exact HQ.out h2)
      go_ret2
      exact ⟨by rw [HN.1, HN.2]; (first | done | rfl), HB4.out⟩

set_option maxHeartbeats 8000000 in
set_option maxRecDepth 100000 in
theorem valid_any (k : Int) (t : ByteArray) (n a : Int) (ht : t.size ≤ 900) (w : World) (hT : Tab w) : Calls Tryz.prog 18 #[.agg #[.int .i64 k, .string t, .int .i64 n, .int .i64 a]] w fun e w' => e = .returned (.bool (spellE k t n == 0)) ∧ Below w.heap.size w w' := by
  have HSP := Lib.hid (fun (x : World) (hb : Below w.heap.size w x) => spell_any k t n a ht x (hT.below hb))
  obtain ⟨S, hS⟩ : ∃ S, S = spellS k t n := ⟨_, rfl⟩
  obtain ⟨E, hE⟩ : ∃ S, S = spellE k t n := ⟨_, rfl⟩
  rw [← hS, ← hE] at HSP
  rw [← hE]
  obtain ⟨W, g, hW, hg, R1, B, sz⟩ := box1 w #[.int .i64 k, .string t, .int .i64 n, .int .i64 a] 40
  have HB0 := Lib.hid B
  have HG0 := Lib.hid R1
  clear B R1 sz hT ht hS hE
  go_enter Tryz.func18, Tryz.ntmps18
  go_upto_region 1 with fail
  rw [← hW]
  try rw [← hg]
  clear hW hg
  have g_0 := HG0.out.c 0 _ rfl
  have g_1 := HG0.out.c 1 _ rfl
  have g_2 := HG0.out.c 2 _ rfl
  have g_3 := HG0.out.c 3 _ rfl
  go_wp2_with fail
  refine (HSP.out _ HB0.out).mono ?_
  rintro e w1 ⟨rfl, hb⟩
  have HB1 := Lib.hid (HB0.out.trans (hb.mono HB0.out.size))
  clear hb g_0 g_1 g_2 g_3 HSP HG0 HB0
  go_wp2_with fail
  go_ret
  exact ⟨(by first | done | rfl), HB1.out⟩
end Go.Proofs.YtaaaddmdcldclaaGreatDoor
