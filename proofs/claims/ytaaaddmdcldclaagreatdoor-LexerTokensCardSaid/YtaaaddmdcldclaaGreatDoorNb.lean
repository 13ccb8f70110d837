/- Contract of lexer.Name. -/
import Derived.Test.YtaaaddmdcldclaaGreatDoorNa
import Derived.Deep.RegionHeld3
namespace Go.Proofs.YtaaaddmdcldclaaGreatDoor
open Go.RowKit Go.Shelf

def nextB (c : Int) : Bool := lowB c || digB c || decide (c = 95)
def byteI (s : ByteArray) (k : Nat) : Int := if h : k < s.size then (s[k].toNat : Int) else 0
theorem byteI_at {s : ByteArray} {k : Nat} (h : k < s.size) : byteI s k = (s[k].toNat : Int) := dif_pos h

set_option maxHeartbeats 4000000 in
set_option maxRecDepth 100000 in
theorem next_any (s : ByteArray) (k b : Nat) (hk : k < s.size) (w : World) (hcb : w.cell? ⟨b, 0, none⟩ = some (.string s)) : Calls Tryz.prog 46 #[.int .i64 k, .pointer (some ⟨b, 0, none⟩)] w fun e w' => e = .returned (.bool (nextB (byteI s k))) ∧ Below w.heap.size w w' := by
  have HCB := Lib.hid hcb
  have HL := Lib.hid (World.block_lt_of_cell? _ _ hcb)
  obtain ⟨c, hc⟩ : ∃ c : Int, c = (s[k].toNat : Int) := ⟨_, rfl⟩
  rw [byteI_at hk, ← hc]
  have hlo := fun w => low_any c w
  have hdi := fun w => dig_any c w
  obtain ⟨F, hF⟩ : ∃ F, F = lowB c := ⟨_, rfl⟩
  obtain ⟨D, hD⟩ : ∃ F, F = digB c := ⟨_, rfl⟩
  rw [← hF] at hlo
  rw [← hD] at hdi
  have HLO := Lib.hid hlo
  have HDI := Lib.hid hdi
  have HF := Lib.hid hF
  have HD := Lib.hid hD
  have HC := Lib.hid hc
  have hc2 : (s[k].toNat : Int) = c := hc.symm
  have k1 : (0 : Int) ≤ (k : Int) := by omega
  clear hlo hdi hF hD hc
  go_enter Tryz.func46, Tryz.ntmps46
  go_wp2_with fail
  refine (HLO.out _).mono ?_
  rintro e w1 ⟨rfl, hb⟩
  have HB1 := Lib.hid hb
  clear hb hcb
  have x1 := (HB1.out.cell (p := ⟨b, 0, none⟩) HL.out).trans HCB.out
  cases F
  · go_wp2_with fail
    refine (HDI.out _).mono ?_
    rintro e w2 ⟨rfl, hb⟩
    have HB2 := Lib.hid (HB1.out.trans (hb.mono HB1.out.size))
    clear hb x1
    have x2 := (HB2.out.cell (p := ⟨b, 0, none⟩) HL.out).trans HCB.out
    cases D
    · by_cases h9 : c = 95
      · have HY := Lib.hid (show nextB c = true by unfold nextB; rw [decide_eq_true h9, Bool.or_true])
        have t9 : (c == 95) = true := by rw [beq_iff_eq]; exact h9
        clear h9
        go_wp2_with fail
        go_ret
        exact ⟨by rw [HY.out]; (first | done | rfl), HB2.out⟩
      · have HY := Lib.hid (show nextB c = false by unfold nextB; rw [← HF.out, ← HD.out, decide_eq_false h9]; rfl)
        have t9 : (c == 95) = false := by rw [beq_eq_false_iff_ne]; exact h9
        clear h9
        go_wp2_with fail
        go_ret
        exact ⟨by rw [HY.out]; (first | done | rfl), HB2.out⟩
    · have HY := Lib.hid (show nextB c = true by unfold nextB; rw [← HF.out, ← HD.out]; rfl)
      go_wp2_with fail
      go_ret
      exact ⟨by rw [HY.out]; (first | done | rfl), HB2.out⟩
  · have HY := Lib.hid (show nextB c = true by unfold nextB; rw [← HF.out]; rfl)
    go_wp2_with fail
    go_ret
    exact ⟨by rw [HY.out]; (first | done | rfl), HB1.out⟩
theorem loop_eq (s : ByteArray) : ∀ (n i : Nat) (r : List UInt8), s.size - i = n → ByteArray.toList.loop s i r = r.reverse ++ s.data.toList.drop i
  | 0, i, r, h => by
    unfold ByteArray.toList.loop
    rw [if_neg (by omega), List.drop_of_length_le (by simpa using (by omega : s.size ≤ i)), List.append_nil]
  | n + 1, i, r, h => by
    unfold ByteArray.toList.loop
    have hi : i < s.data.toList.length := by simpa using (by omega : i < s.size)
    rw [if_pos (by omega), loop_eq s n (i + 1) _ (by omega), List.reverse_cons, List.append_assoc, List.drop_eq_getElem_cons hi]
    have e : s.get! i = s.data.toList[i] := by
      have hs : i < s.size := by omega
      simp [ByteArray.get!, getElem!_pos, hs]
    rw [e]; rfl
theorem toList_eq (s : ByteArray) : s.toList = s.data.toList := by
  unfold ByteArray.toList
  rw [loop_eq s _ 0 [] rfl]; rfl
def nameB (s : ByteArray) : Bool := decide (0 < s.size) && decide (s.size ≤ 24) && lowB (byteI s 0) && decide (runF (fun k => nextB (byteI s k)) (s.size - 1) 1 = s.size)
theorem eg_next : ∀ args w, (callFunc 46 args).run Tryz.prog w = .ok (.enter 46 args) w := enters_of Tryz.func46 (by kernel_rfl) rfl
theorem name_empty (w : World) : Calls Tryz.prog 22 #[.string ⟨#[]⟩] w fun e w' => e = .returned (.bool (nameB ⟨#[]⟩)) ∧ Below w.heap.size w w' := by
  go_enter Tryz.func22, Tryz.ntmps22
  go_wp2_with fail
  go_ret
  exact ⟨by (first | rfl | decide), (Below.refl _ _).alloc (Nat.le_refl _) _⟩

set_option maxHeartbeats 4000000 in
set_option maxRecDepth 100000 in
theorem name_some (s : ByteArray) (hs : 0 < s.size) (w : World) : Calls Tryz.prog 22 #[.string s] w fun e w' => e = .returned (.bool (nameB s)) ∧ Below w.heap.size w w' := by
  obtain ⟨W, g, hW, hg, R1, B, sz⟩ := box1 w #[.string s] 9
  have HB0 := Lib.hid B
  have HG0 := Lib.hid R1
  obtain ⟨N, hN⟩ : ∃ N, N = s.size := ⟨_, rfl⟩
  have HN := Lib.hid hN
  have hN2 : s.size = N := hN.symm
  have h0 : 0 < s.size := by omega
  obtain ⟨c, hc⟩ : ∃ c : Int, c = (s[0].toNat : Int) := ⟨_, rfl⟩
  have hc2 : (s[0].toNat : Int) = c := hc.symm
  have HC := Lib.hid (show byteI s 0 = c from (byteI_at h0).trans hc2)
  have hlo := fun w => low_any c w
  obtain ⟨F, hF⟩ : ∃ F, F = lowB c := ⟨_, rfl⟩
  rw [← hF] at hlo
  have HLO := Lib.hid hlo
  have HF := Lib.hid hF
  have hnl : (s.toList == ([] : List UInt8)) = false := by
    rw [beq_eq_false_iff_ne]; intro h
    rw [toList_eq] at h
    have h2 : s.data.toList.length = 0 := by rw [h]; rfl
    have h3 : s.data.toList.length = s.size := by simp
    omega
  clear R1 B sz hlo hF hc hN
  go_enter Tryz.func22, Tryz.ntmps22
  go_upto_region 1 with fail
  rw [← hW]
  try rw [← hg]
  clear hW hg
  have g0 := HG0.out.c 0 _ rfl
  by_cases h24 : 24 < N
  · have HY := Lib.hid (show nameB s = false by unfold nameB; rw [← HN.out, decide_eq_false (show ¬ N ≤ 24 by omega), Bool.and_false]; rfl)
    go_wp2_with fail
    go_ret
    exact ⟨by rw [HY.out]; (first | done | rfl), HB0.out⟩
  · go_wp2_with fail
    refine (HLO.out _).mono ?_
    rintro e w1 ⟨rfl, hb⟩
    have HG1 := Lib.hid (HG0.out.keep hb)
    have HB1 := Lib.hid (HB0.out.trans (hb.mono HB0.out.size))
    clear hb g0
    cases F
    · have HY := Lib.hid (show nameB s = false by unfold nameB; rw [HC.out, ← HF.out, Bool.and_false]; rfl)
      go_wp2_with fail
      go_ret
      exact ⟨by rw [HY.out]; (first | done | rfl), HB1.out⟩
    · obtain ⟨V, hV⟩ : ∃ V, V = runF (fun k => nextB (byteI s k)) (s.size - 1) 1 := ⟨_, rfl⟩
      have hre := fun (W' : World) (hb : Below w1.heap.size w1 W') => runEnd_any 46 #[.pointer (some ⟨g, 0, none⟩)] (fun k => nextB (byteI s k)) s 1 W' (by omega) (by omega) eg_next (fun W2 k hk hb2 => next_any s k g hk W2 ((HG1.out.keep (hb.trans (hb2.mono hb.size))).c 0 _ rfl))
      rw [← hV] at hre
      have HRE := Lib.hid hre
      have HV := Lib.hid hV
      have HCC := Lib.hid (show w1.cell? ⟨g, 0, none⟩ = some (.string s) ∧ Below w1.heap.size w1 w1 from ⟨HG1.out.c 0 _ rfl, Below.refl _ _⟩)
      have HCD := Lib.hid (show w1.drew.cell? ⟨g, 0, none⟩ = some (.string s) ∧ Below w1.heap.size w1 w1.drew from ⟨HG1.out.drew.c 0 _ rfl, (Below.refl _ _).drew⟩)
      have g0 := HG1.out.c 0 _ rfl
      clear hre hV
      go_upto_region 3 with fail
      go_region_held3 (fun w' => w'.cell? ⟨g, 0, none⟩ = some (.string s) ∧ Below w1.heap.size w1 w')
        (first | (with_reducible exact HCC.out) | (with_reducible exact HCD.out) | (with_reducible exact HS1.out) | go_keep)
        (first | (go_at_call 45; refine (HRE.out _ (by first | exact Below.refl _ _ | exact (Below.refl _ _).drew)).mono ?_; rintro e x1 ⟨rfl, hb2⟩; have KB1 : Hid (Below w1.heap.size w1 x1) := Lib.hid (by first | exact hb2 | exact (Below.refl _ _).drew.trans hb2); have HS1 : Hid (x1.cell? ⟨g, 0, none⟩ = some (.string s) ∧ Below w1.heap.size w1 x1) := Lib.hid ⟨(HG1.out.keep KB1.out).c 0 _ rfl, KB1.out⟩))
      all_goals
        rename_i hHeld
        have hB := HB1.out.trans (hHeld.2.mono HB1.out.size)
        clear hHeld
        by_cases hvn : V = N
        · have HY := Lib.hid (show nameB s = true by unfold nameB; rw [HC.out, ← HF.out, ← HV.out, ← HN.out, decide_eq_true (show 0 < N by omega), decide_eq_true (show N ≤ 24 by omega), decide_eq_true hvn]; rfl)
          go_wp2_with fail
          go_ret
          exact ⟨by rw [HY.out]; (first | done | rfl | (simp [hvn])), hB⟩
        · have HY := Lib.hid (show nameB s = false by unfold nameB; rw [← HV.out, ← HN.out, decide_eq_false hvn, Bool.and_false])
          go_wp2_with fail
          go_ret
          exact ⟨by rw [HY.out]; (first | done | rfl | (simp; omega)), hB⟩
theorem name_any (s : ByteArray) (w : World) : Calls Tryz.prog 22 #[.string s] w fun e w' => e = .returned (.bool (nameB s)) ∧ Below w.heap.size w w' := by
  by_cases h : s.size = 0
  · have e : s = ⟨#[]⟩ := by
      obtain ⟨d⟩ := s
      have : d.size = 0 := h
      congr 1
      exact Array.eq_empty_of_size_eq_zero this
    rw [e]; exact name_empty w
  · exact name_some s (by omega) w
end Go.Proofs.YtaaaddmdcldclaaGreatDoor
