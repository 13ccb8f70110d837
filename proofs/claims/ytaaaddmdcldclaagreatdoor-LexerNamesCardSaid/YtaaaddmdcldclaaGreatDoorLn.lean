/- The law LexerNames. -/
import Derived.Test.YtaaaddmdcldclaaGreatDoorNy
namespace Go.Proofs.YtaaaddmdcldclaaGreatDoor
open Go.RowKit Go.Shelf
set_option linter.unusedVariables false
set_option linter.unusedSimpArgs false

theorem split_form (s : ByteArray) : ∃ a b e, splitV s = #[.string a, .string b, .int .i64 e] ∧ (e == 0) = pathB s := by
  cases h : pathB s
  · exact ⟨_, _, _, splitV_no h, rfl⟩
  · exact ⟨_, _, _, splitV_yes h, rfl⟩

set_option maxHeartbeats 8000000 in
set_option maxRecDepth 100000 in
theorem names_law (s : ByteArray) (w : World) (ht : Tab w) : Calls Tryz.prog 6 #[.string s] w fun e w' => e = .returned (.bool true) ∧ Below w.heap.size w w' := by
  have HAW := Lib.hid (awake_yes w ht)
  have hsp := fun w => fun h => split_path s h w
  have hrs := fun w => fun h => rsplit_path s h w
  obtain ⟨a, b, e0, he, hp⟩ := split_form s
  rw [he] at hsp hrs
  obtain ⟨P, hP⟩ : ∃ P, P = pathB s := ⟨_, rfl⟩
  rw [← hP] at hp
  obtain ⟨N, hN⟩ : ∃ P, P = nameB s := ⟨_, rfl⟩
  obtain ⟨B, hB⟩ : ∃ P, P = labelB s := ⟨_, rfl⟩
  have hn1 := fun w => name_any s w
  have hn2 := fun w => rname_any s w
  have hp1 := fun w => fun h => path_any s h w
  have hp2 := fun w => fun h => rpath_any s h w
  have hl1 := fun w => fun h => label_any s h w
  have hl2 := fun w => fun h => rlabel_any s h w
  rw [← hN] at hn1 hn2
  rw [← hP] at hp1 hp2
  rw [← hB] at hl1 hl2
  have HSP := Lib.hid hsp
  have HRS := Lib.hid hrs
  have HN1 := Lib.hid hn1
  have HN2 := Lib.hid hn2
  have HP1 := Lib.hid hp1
  have HP2 := Lib.hid hp2
  have HL1 := Lib.hid hl1
  have HL2 := Lib.hid hl2
  have HE := Lib.hid hp
  clear hsp hrs hn1 hn2 hp1 hp2 hl1 hl2 hN hP hB he hp ht
  by_cases h2 : 200 < s.size
  · have k2 : (200 : Int) < (s.size : Int) := by omega
    go_enter Tryz.func6, Tryz.ntmps6
    go_wp2_with fail
    refine HAW.out.mono ?_
    rintro e w1 ⟨rfl, hb⟩
    have HB := Lib.hid hb
    clear hb HAW
    go_wp2_with fail
    go_ret
    exact ⟨rfl, HB.out⟩
  have k2 : ¬ (200 : Int) < (s.size : Int) := by omega
  have HS := Lib.hid (show s.size ≤ 200 by omega)
  clear h2
  go_enter Tryz.func6, Tryz.ntmps6
  go_wp2_with fail
  refine HAW.out.mono ?_
  rintro e w1 ⟨rfl, hb⟩
  have HB := Lib.hid hb
  clear hb HAW
  go_wp2_with fail
  refine (HSP.out _ (by have := HS.out; omega)).mono ?_
  rintro e w2 ⟨rfl, hb⟩
  have HB := Lib.hid (HB.out.trans (hb.mono HB.out.size))
  clear hb
  go_wp2_with fail
  refine (HRS.out _ (by have := HS.out; omega)).mono ?_
  rintro e w2 ⟨rfl, hb⟩
  have HB := Lib.hid (HB.out.trans (hb.mono HB.out.size))
  clear hb
  go_wp2_with fail
  refine (HN1.out _).mono ?_
  rintro e w2 ⟨rfl, hb⟩
  have HB := Lib.hid (HB.out.trans (hb.mono HB.out.size))
  clear hb
  go_wp2_with fail
  refine (HN2.out _).mono ?_
  rintro e w2 ⟨rfl, hb⟩
  have HB := Lib.hid (HB.out.trans (hb.mono HB.out.size))
  clear hb
  go_wp2_with fail
  refine (HP1.out _ (by have := HS.out; omega)).mono ?_
  rintro e w2 ⟨rfl, hb⟩
  have HB := Lib.hid (HB.out.trans (hb.mono HB.out.size))
  clear hb
  go_wp2_with fail
  refine (HP2.out _ (by have := HS.out; omega)).mono ?_
  rintro e w2 ⟨rfl, hb⟩
  have HB := Lib.hid (HB.out.trans (hb.mono HB.out.size))
  clear hb
  go_wp2_with fail
  refine (HL1.out _ (by have := HS.out; omega)).mono ?_
  rintro e w2 ⟨rfl, hb⟩
  have HB := Lib.hid (HB.out.trans (hb.mono HB.out.size))
  clear hb
  go_wp2_with fail
  refine (HL2.out _ (by have := HS.out; omega)).mono ?_
  rintro e w2 ⟨rfl, hb⟩
  have HB := Lib.hid (HB.out.trans (hb.mono HB.out.size))
  clear hb
  have h1 := HE.out
  go_wp2_with fail
  refine (HP1.out _ (by have := HS.out; omega)).mono ?_
  rintro e w2 ⟨rfl, hb⟩
  have HB := Lib.hid (HB.out.trans (hb.mono HB.out.size))
  clear hb
  go_wp2_with fail
  go_ret
  exact ⟨(by first | done | rfl | simp [HE.out]), HB.out⟩
end Go.Proofs.YtaaaddmdcldclaaGreatDoor
