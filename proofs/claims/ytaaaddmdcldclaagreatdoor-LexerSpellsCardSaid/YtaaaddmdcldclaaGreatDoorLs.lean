/- The law LexerSpells. -/
import Derived.Test.YtaaaddmdcldclaaGreatDoorNy
import Derived.BigQuiet
namespace Go.Proofs.YtaaaddmdcldclaaGreatDoor
open Go.RowKit Go.Shelf
set_option linter.unusedVariables false
set_option linter.unusedSimpArgs false

theorem spellE_yes {k : Int} {t : ByteArray} {n : Int} (h : (spellE k t n == 0) = true) : tokOk k t n := by
  by_cases hk : tokOk k t n
  · exact hk
  · rw [(spell_no hk).2] at h; exact absurd h (by decide)

set_option maxHeartbeats 8000000 in
set_option maxRecDepth 100000 in
theorem spells_law (k : Int) (t : ByteArray) (n a : Int) (w : World) (ht : Tab w) : Calls Tryz.prog 7 #[.agg #[.int .i64 k, .string t, .int .i64 n, .int .i64 a]] w fun e w' => e = .returned (.bool true) ∧ Below w.heap.size w w' := by
  have HAW := Lib.hid (fun (x : World) (hb : Below w.heap.size w x) => awake_yes x (ht.below hb))
  have hva := fun (h : t.size ≤ 200) (x : World) (hb : Below w.heap.size w x) => valid_any k t n a (by omega) x (ht.below hb)
  have hsp := fun (h : t.size ≤ 200) (x : World) (hb : Below w.heap.size w x) => spell_any k t n a (by omega) x (ht.below hb)
  obtain ⟨E, hE⟩ : ∃ E, E = spellE k t n := ⟨_, rfl⟩
  obtain ⟨S, hS⟩ : ∃ E, E = spellS k t n := ⟨_, rfl⟩
  rw [← hE] at hva hsp
  rw [← hS] at hsp
  have HVA := Lib.hid hva
  have HSP := Lib.hid hsp
  have HE := Lib.hid hE
  have HS := Lib.hid hS
  obtain ⟨W, g, hW, hg, R1, B, sz⟩ := box1 w #[.int .i64 k, .string t, .int .i64 n, .int .i64 a] 40
  have HB := Lib.hid B
  have HG := Lib.hid R1
  clear hva hsp hE hS B R1 sz ht
  by_cases h2 : 200 < t.size
  · have k2 : (200 : Int) < (t.size : Int) := by omega
    go_enter Tryz.func7, Tryz.ntmps7
    go_upto_region 1 with fail
    rw [← hW]
    try rw [← hg]
    clear hW hg
    go_wp2_with fail
    refine (HAW.out _ HB.out).mono ?_
    rintro e w1 ⟨rfl, hb⟩
    have HG := Lib.hid (HG.out.keep hb)
    have HB := Lib.hid (HB.out.trans (hb.mono HB.out.size))
    clear hb
    have g_0 := HG.out.c 0 _ rfl
    have g_1 := HG.out.c 1 _ rfl
    have g_2 := HG.out.c 2 _ rfl
    have g_3 := HG.out.c 3 _ rfl
    go_wp2_with fail
    go_ret
    exact ⟨rfl, HB.out⟩
  have k2 : ¬ (200 : Int) < (t.size : Int) := by omega
  have HT := Lib.hid (show t.size ≤ 200 by omega)
  clear h2
  go_enter Tryz.func7, Tryz.ntmps7
  go_upto_region 1 with fail
  rw [← hW]
  try rw [← hg]
  clear hW hg
  go_wp2_with fail
  refine (HAW.out _ HB.out).mono ?_
  rintro e w1 ⟨rfl, hb⟩
  have HG := Lib.hid (HG.out.keep hb)
  have HB := Lib.hid (HB.out.trans (hb.mono HB.out.size))
  clear hb
  have g_0 := HG.out.c 0 _ rfl
  have g_1 := HG.out.c 1 _ rfl
  have g_2 := HG.out.c 2 _ rfl
  have g_3 := HG.out.c 3 _ rfl
  go_wp2_with fail
  clear g_0 g_1 g_2 g_3
  refine (HVA.out HT.out _ HB.out).mono ?_
  rintro e w2 ⟨rfl, hb⟩
  have HG := Lib.hid (HG.out.keep hb)
  have HB := Lib.hid (HB.out.trans (hb.mono HB.out.size))
  clear hb
  cases hv : (E == 0)
  · clear hv
    go_wp2_with fail
    go_ret
    exact ⟨rfl, HB.out⟩
  have hok := spellE_yes (by rw [← HE.out]; exact hv)
  have hE0 : E = 0 := by simpa using hv
  have hSB : S = spellB k t n := HS.out.trans (spell_yes hok).1
  have hsz := spellB_size k t n
  have HSZ := Lib.hid (show S.size ≤ 1000 by rw [hSB]; have := HT.out; omega)
  have HPS := Lib.hid (show 0 < S.size by rw [hSB]; exact hok.1)
  have HRD := Lib.hid (show readR S = ⟨k, t, n, S.size, 0⟩ by rw [hSB]; exact hok.2)
  subst hE0
  clear hv hok hSB hsz HS HE
  have g_0 := HG.out.c 0 _ rfl
  have g_1 := HG.out.c 1 _ rfl
  have g_2 := HG.out.c 2 _ rfl
  have g_3 := HG.out.c 3 _ rfl
  by_cases hc : k = 6 ∧ (t.toList == ([58] : List UInt8)) = true
  · obtain ⟨rfl, hc⟩ := hc
    go_wp2_with fail
    go_ret
    exact ⟨rfl, HB.out⟩
  have HSC := Lib.hid (scan_one HPS.out HSZ.out HRD.out (by
    unfold isColon
    cases h1 : (t.toList == ([58] : List UInt8))
    · simp
    · have : ¬ k = 6 := fun h => hc ⟨h, h1⟩
      simp [this]))
  have HCN := Lib.hid (fun (x : World) => scan_any S x)
  have hk6 : (k == 6) = false ∨ ((k == 6) = true ∧ (t.toList == ([58] : List UInt8)) = false) := by
    by_cases h6 : k = 6
    · refine .inr ⟨by simpa using h6, ?_⟩
      cases h1 : (t.toList == ([58] : List UInt8))
      · rfl
      · exact absurd ⟨h6, h1⟩ hc
    · exact .inl (by simpa using h6)
  clear hc HPS HSZ HRD
  rcases hk6 with h6 | ⟨h6, h58⟩
  all_goals
    go_wp2_with fail
    clear g_0 g_1 g_2 g_3
    refine (HSP.out HT.out _ HB.out).mono ?_
    rintro e w3 ⟨rfl, hb⟩
    have HG := Lib.hid (HG.out.keep hb)
    have HB := Lib.hid (HB.out.trans (hb.mono HB.out.size))
    clear hb
    go_wp2_with fail
    refine (HCN.out _).mono ?_
    rintro e w4 ⟨⟨sa, sc, rfl, hin⟩, hb⟩
    have HG := Lib.hid (HG.out.keep hb)
    have HB := Lib.hid (HB.out.trans (hb.mono HB.out.size))
    rw [HSC.out] at hin
    rw [HSC.out]
    obtain ⟨tb, tq, rfl, htl, htc⟩ := (show InS w4 sa ([⟨k, t, n, 1⟩] : List TkF).length 4 (flat tkC [⟨k, t, n, 1⟩]) from hin).at tkC_len (by simp)
    have HTC := Lib.hid (show w4.cell? ⟨tb, tq + 0 * 4 + 0, none⟩ = some (.int .i64 k) ∧ w4.cell? ⟨tb, tq + 0 * 4 + 1, none⟩ = some (.string t) ∧ w4.cell? ⟨tb, tq + 0 * 4 + 2, none⟩ = some (.int .i64 n) ∧ w4.cell? ⟨tb, tq + 0 * 4 + 3, none⟩ = some (.int .i64 1) from ⟨htc 0 _ rfl 0 _ rfl, htc 0 _ rfl 1 _ rfl, htc 0 _ rfl 2 _ rfl, htc 0 _ rfl 3 _ rfl⟩)
    have HTL := Lib.hid htl
    unfold faultV
    clear hb hin htl htc
    obtain ⟨V, s1, f1, hV, hs, hf, RA, RF, BB, sz⟩ := box2 w4 #[.int .i64 0, .slice (some ⟨tb, tq, none⟩) 1 sc, .bool false, .string ⟨#[]⟩] 25 #[.int .i64 0, .int .i64 0, .int .i64 0] 28
    have HS1 := Lib.hid RA
    have HF1 := Lib.hid RF
    have HG := Lib.hid (HG.out.keep BB)
    have HB := Lib.hid (HB.out.trans (BB.mono HB.out.size))
    have x0 : V.cell? ⟨tb, tq, none⟩ = some (.int .i64 k) := by have h := (BB.cell (p := ⟨tb, tq + 0 * 4 + 0, none⟩) HTL.out).trans HTC.out.1; simpa using h
    have x1 : V.cell? ⟨tb, tq + 1, none⟩ = some (.string t) := by have h := (BB.cell (p := ⟨tb, tq + 0 * 4 + 1, none⟩) HTL.out).trans HTC.out.2.1; simpa using h
    have x2 : V.cell? ⟨tb, tq + 2, none⟩ = some (.int .i64 n) := by have h := (BB.cell (p := ⟨tb, tq + 0 * 4 + 2, none⟩) HTL.out).trans HTC.out.2.2.1; simpa using h
    have x3 : V.cell? ⟨tb, tq + 3, none⟩ = some (.int .i64 1) := by have h := (BB.cell (p := ⟨tb, tq + 0 * 4 + 3, none⟩) HTL.out).trans HTC.out.2.2.2; simpa using h
    clear RA RF BB HTC HTL
    have g_0 := HG.out.c 0 _ rfl
    have g_1 := HG.out.c 1 _ rfl
    have g_2 := HG.out.c 2 _ rfl
    have g_3 := HG.out.c 3 _ rfl
    have s_0 := HS1.out.c 0 _ rfl
    have s_1 := HS1.out.c 1 _ rfl
    have s_2 := HS1.out.c 2 _ rfl
    have s_3 := HS1.out.c 3 _ rfl
    have f_0 := HF1.out.c 0 _ rfl
    have f_1 := HF1.out.c 1 _ rfl
    have f_2 := HF1.out.c 2 _ rfl
    go_upto_region 7 with fail
    rw [← hV]
    try rw [← hf]
    try rw [← hs]
    clear hV hs hf
    go_quiet (fail)
    rename_i nq
    go_wp2_with fail
    go_ret
    exact ⟨(by first | done | rfl | simp), bdrewN HB.out _⟩
end Go.Proofs.YtaaaddmdcldclaaGreatDoor
