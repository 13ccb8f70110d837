/- Contracts of Split and Path, of both sides. -/
import Derived.Test.YtaaaddmdcldclaaGreatDoorNx
namespace Go.Proofs.YtaaaddmdcldclaaGreatDoor
open Go.RowKit Go.Shelf

def devS (s : ByteArray) : ByteArray := befS s 47
def poiS (s : ByteArray) : ByteArray := aftS s 47
def pathB (s : ByteArray) : Bool := nameB (devS s) && nameB (poiS s)
def splitV (s : ByteArray) : Array Value := if pathB s = true then #[.string (devS s), .string (poiS s), .int .i64 0] else #[.string ⟨#[]⟩, .string ⟨#[]⟩, .int .i64 4]
theorem splitV_yes {s : ByteArray} (h : pathB s = true) : splitV s = #[.string (devS s), .string (poiS s), .int .i64 0] := if_pos h
theorem splitV_no {s : ByteArray} (h : pathB s = false) : splitV s = #[.string ⟨#[]⟩, .string ⟨#[]⟩, .int .i64 4] := if_neg (by rw [h]; simp)
theorem name_none : nameB ⟨#[]⟩ = false := by first | rfl | decide

set_option maxHeartbeats 4000000 in
set_option maxRecDepth 100000 in
theorem split_path (s : ByteArray) (hs : s.size ≤ 1000) (w : World) : Calls Tryz.prog 20 #[.string s] w fun e w' => e = .returned (.tuple (splitV s)) ∧ Below w.heap.size w w' := by
  have hcu := fun w => cut_any s 47 w hs
  have hn1 := fun w => name_any (devS s) w
  have hn2 := fun w => name_any (poiS s) w
  have hV1 := @splitV_yes s
  have hV2 := @splitV_no s
  obtain ⟨D, hD⟩ : ∃ x, x = devS s := ⟨_, rfl⟩
  obtain ⟨P, hP⟩ : ∃ x, x = poiS s := ⟨_, rfl⟩
  obtain ⟨F, hF⟩ : ∃ x, x = nameB (devS s) := ⟨_, rfl⟩
  obtain ⟨G, hG⟩ : ∃ x, x = nameB (poiS s) := ⟨_, rfl⟩
  obtain ⟨X, hX⟩ : ∃ x, x = hasS s 47 := ⟨_, rfl⟩
  have hp : pathB s = (F && G) := by rw [hF, hG]; rfl
  have HCU := Lib.hid (show ∀ w, Calls Tryz.prog 42 #[.string s, .string ⟨#[47]⟩] w fun e w' => e = .returned (.tuple #[.string D, .string P, .bool X]) ∧ Below w.heap.size w w' by rw [hD, hP, hX]; exact hcu)
  rw [← hD, ← hP] at hV1
  rw [← hF, ← hD] at hn1
  rw [← hG, ← hP] at hn2
  have HN1 := Lib.hid hn1
  have HN2 := Lib.hid hn2
  have HV1 := Lib.hid hV1
  have HV2 := Lib.hid hV2
  have HP := Lib.hid hp
  clear hcu hn1 hn2 hV1 hV2 hD hP hF hG hX hp
  go_enter Tryz.func20, Tryz.ntmps20
  go_wp2_with fail
  refine (HCU.out _).mono ?_
  rintro e w1 ⟨rfl, hb⟩
  have HB1 := Lib.hid hb
  clear hb
  go_wp2_with fail
  refine (HN1.out _).mono ?_
  rintro e w2 ⟨rfl, hb⟩
  have HB2 := Lib.hid (HB1.out.trans (hb.mono HB1.out.size))
  clear hb
  cases F
  · have HY := Lib.hid (HV2.out (by rw [HP.out]; rfl))
    go_wp2_with fail
    go_ret3
    exact ⟨by rw [HY.out]; (first | done | rfl), HB2.out⟩
  · go_wp2_with fail
    refine (HN2.out _).mono ?_
    rintro e w3 ⟨rfl, hb⟩
    have HB3 := Lib.hid (HB2.out.trans (hb.mono HB2.out.size))
    clear hb
    cases G
    · have HY := Lib.hid (HV2.out (by rw [HP.out]; rfl))
      go_wp2_with fail
      go_ret3
      exact ⟨by rw [HY.out]; (first | done | rfl), HB3.out⟩
    · have HY := Lib.hid (HV1.out (by rw [HP.out]; rfl))
      go_wp2_with fail
      go_ret3
      exact ⟨by rw [HY.out]; (first | done | rfl), HB3.out⟩

set_option maxHeartbeats 4000000 in
set_option maxRecDepth 100000 in
theorem path_any (s : ByteArray) (hs : s.size ≤ 1000) (w : World) : Calls Tryz.prog 24 #[.string s] w fun e w' => e = .returned (.bool (pathB s)) ∧ Below w.heap.size w w' := by
  have hsp := fun w => split_path s hs w
  have HS := Lib.hid hsp
  by_cases hp : pathB s = true
  · have HY := Lib.hid hp
    have h2 := splitV_yes hp
    rw [h2] at hsp
    have HS := Lib.hid hsp
    clear hsp hp h2
    go_enter Tryz.func24, Tryz.ntmps24
    go_wp2_with fail
    refine (HS.out _).mono ?_
    rintro e w1 ⟨rfl, hb⟩
    have HB1 := Lib.hid hb
    clear hb
    go_wp2_with fail
    go_ret
    exact ⟨by rw [HY.out]; (first | done | rfl), HB1.out⟩
  · have hp2 : pathB s = false := by simpa using hp
    have HY := Lib.hid hp2
    have h2 := splitV_no hp2
    rw [h2] at hsp
    have HS := Lib.hid hsp
    clear hsp hp hp2 h2
    go_enter Tryz.func24, Tryz.ntmps24
    go_wp2_with fail
    refine (HS.out _).mono ?_
    rintro e w1 ⟨rfl, hb⟩
    have HB1 := Lib.hid hb
    clear hb
    go_wp2_with fail
    go_ret
    exact ⟨by rw [HY.out]; (first | done | rfl), HB1.out⟩

set_option maxHeartbeats 4000000 in
set_option maxRecDepth 100000 in
theorem slash_any (s : ByteArray) (hsz : s.size ≤ 4611686018427387904) (w : World) : Calls Tryz.prog 43 #[.string s] w fun e w' => e = .returned (.int .i64 (ixB s 47)) ∧ Below w.heap.size w w' := by
  go_enter Tryz.func43, Tryz.ntmps43
  go_wp2_with fail
  have HSZ := Lib.hid hsz
  clear hsz
  go_loopw [3] (fun i wr => ∃ j : Nat, j ≤ s.size ∧ i = .int .i64 j ∧ Hid ((∀ k, k < j → byteI s k ≠ ((47 : UInt8).toNat : Int)) ∧ Below w.heap.size w wr)) (fun i _ => s.size - (intOf i).toNat)
  case atStart => exact ⟨0, Nat.zero_le _, rfl, Lib.hid ⟨fun k h => absurd h (Nat.not_lt_zero k), Below.refl _ _⟩⟩
  case round =>
    obtain ⟨j, hj2, rfl, hH⟩ := hrel
    have HK := Lib.hid hH.out.1
    have HBR := Lib.hid hH.out.2
    clear hH
    by_cases hlt : j < s.size
    · obtain ⟨c, hc⟩ : ∃ c : Int, c = (s[j].toNat : Int) := ⟨_, rfl⟩
      have hbj : byteI s j = c := (byteI_at hlt).trans hc.symm
      have hc' : (s[j].toNat : Int) = c := hc.symm
      have k1 : (0 : Int) ≤ (j : Int) := by omega
      have k2 : (j : Int) < (s.size : Int) := by omega
      have k3 : IntKind.i64.wrap ((j : Int) + 1) = ((j + 1 : Nat) : Int) := by have := HSZ.out; rw [IntWalk.i64_in _ ⟨by omega, by omega⟩]; rfl
      by_cases h1 : c = 47
      · have HY := Lib.hid (ix_hit hlt (by rw [hbj, h1]; rfl) HK.out)
        have t1 : (c == 47) = true := by rw [beq_iff_eq]; exact h1
        clear hc hbj h1
        go_wp2_with fail
        go_ret
        exact ⟨by rw [HY.out]; (first | done | rfl), HBR.out⟩
      · have HK2 := Lib.hid (show ∀ k, k < j + 1 → byteI s k ≠ ((47 : UInt8).toNat : Int) from fun k h2 => by
          by_cases h : k = j
          · rw [h, hbj]; exact h1
          · exact HK.out k (by omega))
        have t1 : (c == 47) = false := by rw [beq_eq_false_iff_ne]; exact h1
        clear hc hbj h1
        go_wp2_with fail
        go_roundw
        case rel => exact ⟨j + 1, by omega, by go_num, Lib.hid ⟨HK2.out, HBR.out⟩⟩
        case measure => (simp [intOf]) <;> omega
    · obtain rfl : j = s.size := by omega
      have HY := Lib.hid (ix_miss HK.out)
      go_wp2_with fail
      go_ret
      exact ⟨by rw [HY.out]; (first | done | rfl), HBR.out⟩

set_option maxHeartbeats 4000000 in
set_option maxRecDepth 100000 in
theorem rpath_any (s : ByteArray) (hsz : s.size ≤ 1000000) (w : World) : Calls Tryz.prog 25 #[.string s] w fun e w' => e = .returned (.bool (pathB s)) ∧ Below w.heap.size w w' := by
  rcases ix_cases s 47 with hix | ⟨i, hix, hroom⟩
  · have hsl := fun w => slash_any s (by omega) w
    rw [hix] at hsl
    have HSL := Lib.hid hsl
    have HY := Lib.hid (show pathB s = false by unfold pathB poiS; rw [(cut_miss hix).2.1, name_none, Bool.and_false])
    clear hsl hix hsz
    go_enter Tryz.func25, Tryz.ntmps25
    go_wp2_with fail
    refine (HSL.out _).mono ?_
    rintro e w1 ⟨rfl, hb⟩
    have HB1 := Lib.hid hb
    clear hb
    go_wp2_with fail
    go_ret
    exact ⟨by rw [HY.out]; (first | done | rfl), HB1.out⟩
  · have hsl := fun w => slash_any s (by omega) w
    rw [hix] at hsl
    have HSL := Lib.hid hsl
    have c1 : (0 : Int) ≤ ↑i := by omega
    have c2 : (↑i : Int) ≤ ↑s.size := by omega
    have c3 : (0 : Int) ≤ ↑i + 1 := by omega
    have c4 : (↑i + 1 : Int) ≤ ↑s.size := by omega
    have c5 : IntKind.i64.wrap ((i : Int) + 1) = ↑i + 1 := IntWalk.i64_in _ ⟨by omega, by omega⟩
    have c6 : ((i : Int) + 1).toNat = i + 1 := by omega
    have hn1 := fun w => rname_any (s.extract 0 i) w
    have hn2 := fun w => rname_any (s.extract (i + 1) s.size) w
    obtain ⟨F, hF⟩ : ∃ x, x = nameB (s.extract 0 i) := ⟨_, rfl⟩
    obtain ⟨G, hG⟩ : ∃ x, x = nameB (s.extract (i + 1) s.size) := ⟨_, rfl⟩
    have HP := Lib.hid (show pathB s = (F && G) by unfold pathB devS poiS; rw [(cut_hit hix).1, (cut_hit hix).2.1, hF, hG])
    rw [← hF] at hn1
    rw [← hG] at hn2
    have HN1 := Lib.hid hn1
    have HN2 := Lib.hid hn2
    clear hsl hix hsz hn1 hn2 hF hG
    go_enter Tryz.func25, Tryz.ntmps25
    go_wp2_with fail
    refine (HSL.out _).mono ?_
    rintro e w1 ⟨rfl, hb⟩
    have HB1 := Lib.hid hb
    clear hb
    go_wp2_with fail
    refine (HN1.out _).mono ?_
    rintro e w2 ⟨rfl, hb⟩
    have HB2 := Lib.hid (HB1.out.trans (hb.mono HB1.out.size))
    clear hb
    cases F
    · have HY := Lib.hid (show pathB s = false by rw [HP.out]; rfl)
      go_wp2_with fail
      go_ret
      exact ⟨by rw [HY.out]; (first | done | rfl), HB2.out⟩
    · have HY := Lib.hid (show pathB s = G by rw [HP.out]; exact Bool.true_and _)
      go_wp2_with fail
      refine (HN2.out _).mono ?_
      rintro e w3 ⟨rfl, hb⟩
      have HB3 := Lib.hid (HB2.out.trans (hb.mono HB2.out.size))
      clear hb
      go_wp2_with fail
      go_ret
      exact ⟨by rw [HY.out]; (first | done | rfl), HB3.out⟩

set_option maxHeartbeats 4000000 in
set_option maxRecDepth 100000 in
theorem rsplit_path (s : ByteArray) (hsz : s.size ≤ 1000000) (w : World) : Calls Tryz.prog 21 #[.string s] w fun e w' => e = .returned (.tuple (splitV s)) ∧ Below w.heap.size w w' := by
  have hpa := fun w => rpath_any s hsz w
  by_cases hp : pathB s = true
  · rw [hp] at hpa
    have HPA := Lib.hid hpa
    rcases ix_cases s 47 with hix | ⟨i, hix, hroom⟩
    · exfalso
      have : pathB s = false := by unfold pathB poiS; rw [(cut_miss hix).2.1, name_none, Bool.and_false]
      rw [this] at hp; cases hp
    have hsl := fun w => slash_any s (by omega) w
    rw [hix] at hsl
    have HSL := Lib.hid hsl
    have HY := Lib.hid (show splitV s = #[.string (s.extract 0 i), .string (s.extract (i + 1) s.size), .int .i64 0] by rw [splitV_yes hp]; unfold devS poiS; rw [(cut_hit hix).1, (cut_hit hix).2.1])
    have c1 : (0 : Int) ≤ ↑i := by omega
    have c2 : (↑i : Int) ≤ ↑s.size := by omega
    have c3 : (0 : Int) ≤ ↑i + 1 := by omega
    have c4 : (↑i + 1 : Int) ≤ ↑s.size := by omega
    have c5 : IntKind.i64.wrap ((i : Int) + 1) = ↑i + 1 := IntWalk.i64_in _ ⟨by omega, by omega⟩
    have c6 : ((i : Int) + 1).toNat = i + 1 := by omega
    clear hpa hp hsl hix
    go_enter Tryz.func21, Tryz.ntmps21
    go_wp2_with fail
    refine (HPA.out _).mono ?_
    rintro e w1 ⟨rfl, hb⟩
    have HB1 := Lib.hid hb
    clear hb
    go_wp2_with fail
    refine (HSL.out _).mono ?_
    rintro e w2 ⟨rfl, hb⟩
    have HB2 := Lib.hid (HB1.out.trans (hb.mono HB1.out.size))
    clear hb
    go_wp2_with fail
    go_region
    go_wp2_with fail
    go_ret3
    exact ⟨by rw [HY.out]; (first | done | rfl), HB2.out.trans ((lex_drewN _ _ _).mono HB2.out.size)⟩
  · have hp2 : pathB s = false := by simpa using hp
    rw [hp2] at hpa
    have HPA := Lib.hid hpa
    have HY := Lib.hid (splitV_no hp2)
    clear hpa hp hp2
    go_enter Tryz.func21, Tryz.ntmps21
    go_wp2_with fail
    refine (HPA.out _).mono ?_
    rintro e w1 ⟨rfl, hb⟩
    have HB1 := Lib.hid hb
    clear hb
    go_wp2_with fail
    go_ret3
    exact ⟨by rw [HY.out]; (first | done | rfl), HB1.out⟩
end Go.Proofs.YtaaaddmdcldclaaGreatDoor
