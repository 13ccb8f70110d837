/- The contract of the specification's Parse. -/
import Derived.Test.YtckbfkkohkmcaaaDoorB
namespace Go.Proofs.YtckbfkkohkmcaaaDoor
open Go.RowKit

/-- what the specification's Parse answers -/
def parseR (neg : Bool) (o : Option (List UInt8)) : Int × Int :=
  match o with
  | none => (0, 2)
  | some L => if 1000000000000 < rd 0 L then (0, 6) else (if neg = true then -rd 0 L else rd 0 L, 0)
theorem parseL_ref (l : List UInt8) : parseL l = parseR (Lib.hasPrefix l [45]) (refBody (Lib.trimPrefix l [45])) := by
  rw [body_eq]
  unfold parseL parseOf
  split
  · rfl
  · rw [← rd_append]; rfl

theorem bs_eta (s : ByteArray) : bs s.data.toList = s := rfl

theorem extract_take (s : ByteArray) (k : Nat) : (s.extract 0 k).data.toList = s.data.toList.take k := by rw [Lib.extract_data]; simp

theorem rd_hits (A : ByteArray) (k : Nat) (h : rd 0 (A.data.toList.take (k + 1)) = 1000000000001) : rd 0 A.data.toList = 1000000000001 := by
  rw [← List.take_append_drop (k + 1) A.data.toList, rd_append, h, rd_top]
theorem parseR_over (neg : Bool) (L : List UInt8) (h : rd 0 L = 1000000000001) : parseR neg (some L) = (0, 6) := by
  show (if 1000000000000 < rd 0 L then ((0, 6) : Int × Int) else _) = _
  rw [h, if_pos (by omega)]
theorem parseR_fine (neg : Bool) (L : List UInt8) (h : rd 0 L ≤ 1000000000000) : parseR neg (some L) = (if neg = true then -rd 0 L else rd 0 L, 0) := by
  show (if 1000000000000 < rd 0 L then ((0, 6) : Int × Int) else _) = _
  rw [if_neg (by omega)]

set_option maxHeartbeats 2000000 in
theorem rparse_pos (s : ByteArray) (w : World) (hs : s.size ≤ 100) (hp : 0 < s.size) (hne : ¬ s[0].toNat = 45) :
    Calls Tryd.prog 13 #[.string s] w fun e w' => e = .returned (.tuple #[.int .i64 (parseR false (refBody s.data.toList)).1, .int .i64 (parseR false (refBody s.data.toList)).2]) ∧ w = w' := by
  have h45 : ((s[0].toNat : Int) == 45) = false := by rw [beq_eq_false_iff_ne]; omega
  obtain ⟨z1, hz1⟩ : ∃ z, z = (parseR false (refBody s.data.toList)).1 := ⟨_, rfl⟩
  obtain ⟨z2, hz2⟩ : ∃ z, z = (parseR false (refBody s.data.toList)).2 := ⟨_, rfl⟩
  rw [← hz1, ← hz2]
  have HD := Lib.hid (fun w => rdigits_any s w (by omega))
  have hKle := ndig_le s.data.toList
  rw [← Lib.size_eq] at hKle
  rw [show refBody s.data.toList = if ndig s.data.toList = 0 then none
  else if ndig s.data.toList < s.data.toList.length then
    (if s.data.toList.getD (ndig s.data.toList) 0 ≠ 46 ∨ ndig (s.data.toList.drop (ndig s.data.toList + 1)) < 1 ∨ 3 < ndig (s.data.toList.drop (ndig s.data.toList + 1)) ∨ ndig s.data.toList + 1 + ndig (s.data.toList.drop (ndig s.data.toList + 1)) ≠ s.data.toList.length then none
    else some (s.data.toList.take (ndig s.data.toList) ++ (s.data.toList.drop (ndig s.data.toList + 1) ++ [48, 48]).take 3))
  else some (s.data.toList ++ [48, 48, 48]) from rfl, ← Lib.size_eq] at hz1 hz2
  obtain ⟨K, hK⟩ : ∃ K, K = ndig s.data.toList := ⟨_, rfl⟩
  rw [← hK] at HD hKle hz1 hz2
  clear hne hK
  have HZ1 := Lib.hid hz1
  have HZ2 := Lib.hid hz2
  clear hz1 hz2
  go_enter Tryd.func13, Tryd.ntmps13
  go_wp2_with fail
  refine (HD.out _).mono ?_
  rintro e w1 ⟨rfl, rfl⟩
  by_cases hK0 : K = 0
  · have HH1 := HZ1.out
    have HH2 := HZ2.out
    rw [if_pos hK0] at HH1 HH2
    subst hK0 HH1 HH2
    clear HZ1 HZ2
    go_wp2_with fail
    go_ret2
    exact ⟨rfl, rfl⟩
  · have k0 : ((K : Int) == 0) = false := by rw [beq_eq_false_iff_ne]; omega
    by_cases hKl : K < s.size
    · have k1 : decide ((K : Int) < ↑s.size) = true := by rw [decide_eq_true_eq]; omega
      have HH1 := HZ1.out
      have HH2 := HZ2.out
      rw [if_neg hK0, if_pos hKl] at HH1 HH2
      clear HZ1 HZ2
      obtain ⟨E, hE⟩ : ∃ E, E = s.extract (K + 1) s.size := ⟨_, rfl⟩
      have hEl : E.data.toList = s.data.toList.drop (K + 1) := by rw [hE]; exact Lib.extract_to_end s (K + 1)
      have hEs : E.size = s.size - (K + 1) := by rw [Lib.size_eq, hEl, List.length_drop, ← Lib.size_eq]
      have hMle := ndig_le E.data.toList
      rw [← Lib.size_eq] at hMle
      have HE := Lib.hid (fun w => rdigits_any E w (by omega))
      rw [← hEl] at HH1 HH2
      obtain ⟨M, hM⟩ : ∃ M, M = ndig E.data.toList := ⟨_, rfl⟩
      rw [← hM] at HE hMle HH1 HH2
      have hg : s.data.toList.getD K 0 = s[K] := by rw [List.getD_eq_getElem?_getD, List.getElem?_eq_getElem (by rw [← Lib.size_eq]; exact hKl)]; rfl
      rw [hg] at HH1 HH2
      have HEl := Lib.hid hEl
      have HZ1 := Lib.hid HH1
      have HZ2 := Lib.hid HH2
      clear hEl hM hg HH1 HH2
      go_wp2_with fail
      rw [← hE]
      refine (HE.out _).mono ?_
      rintro e w2 ⟨rfl, rfl⟩
      by_cases c1 : s[K] = 46
      · have c1' : s[K].toNat = 46 := by rw [c1]; rfl
        have d1 : ((s[K].toNat : Int) != 46) = false := by rw [bne_eq_false_iff_eq]; omega
        by_cases c2 : M < 1
        · have d2 : decide ((M : Int) < 1) = true := by rw [decide_eq_true_eq]; omega
          have HH1 := HZ1.out
          have HH2 := HZ2.out
          rw [if_pos (.inr (.inl c2))] at HH1 HH2
          subst HH1 HH2
          clear HZ1 HZ2
          go_wp2_with fail
          go_ret2
          exact ⟨rfl, rfl⟩
        · have d2 : decide ((M : Int) < 1) = false := by rw [decide_eq_false_iff_not]; omega
          by_cases c3 : 3 < M
          · have d3 : decide ((3 : Int) < M) = true := by rw [decide_eq_true_eq]; omega
            have HH1 := HZ1.out
            have HH2 := HZ2.out
            rw [if_pos (.inr (.inr (.inl c3)))] at HH1 HH2
            subst HH1 HH2
            clear HZ1 HZ2
            go_wp2_with fail
            go_ret2
            exact ⟨rfl, rfl⟩
          · have d3 : decide ((3 : Int) < M) = false := by rw [decide_eq_false_iff_not]; omega
            by_cases c4 : K + 1 + M = s.size
            · have d4 : ((K : Int) + 1 + M != ↑s.size) = false := by rw [bne_eq_false_iff_eq]; omega
              obtain ⟨A, hA⟩ : ∃ A, A = s.extract 0 K ++ (E ++ ⟨#[48, 48]⟩).extract 0 3 := ⟨_, rfl⟩
              have hEb : (E ++ ⟨#[48, 48]⟩).data.toList = E.data.toList ++ [48, 48] := by rw [ByteArray.data_append]; simp
              have hAl : A.data.toList = s.data.toList.take K ++ (E.data.toList ++ [48, 48]).take 3 := by
                rw [hA, ByteArray.data_append, Array.toList_append, extract_take, extract_take, hEb]
              have hAs : A.size ≤ 200 := by
                rw [Lib.size_eq, hAl, List.length_append, List.length_take, List.length_take, ← Lib.size_eq]; omega
              have g2 : (E ++ ⟨#[48, 48]⟩).size = E.size + 2 := ByteArray.size_append
              have g3 : 3 ≤ E.size + 2 := by omega
              have HH1 := HZ1.out
              have HH2 := HZ2.out
              rw [if_neg (by rw [not_or, not_or, not_or]; exact ⟨fun h => h c1, c2, c3, fun h => h c4⟩), ← hAl] at HH1 HH2
              clear HZ1 HZ2
              have HZ1 := Lib.hid HH1
              have HZ2 := Lib.hid HH2
              have HA := Lib.hid hA
              clear HH1 HH2 hAl hEb hA
              go_wp2_with fail
              rw [← hE, ← HA.out]
              clear HA
              go_loop [8, 10] (fun v i => ∃ k : Nat, k ≤ A.size ∧ i = .int .i64 k ∧ v = .int .i64 (rd 0 (A.data.toList.take k)) ∧ rd 0 (A.data.toList.take k) ≤ 1000000000000) (fun _ i => A.size - (intOf i).toNat)
              case atStart => exact ⟨0, Nat.zero_le _, rfl, rfl, (by show (0 : Int) ≤ 1000000000000; omega)⟩
              case round =>
                obtain ⟨k, hk, rfl, rfl, r2⟩ := hrel
                obtain ⟨r1, _⟩ := rd_range (A.data.toList.take k) 0 (by omega) (by omega)
                by_cases hlt : k < A.size
                · have hb : A[k].toNat < 256 := A[k].toNat_lt
                  have hsn := rd_snoc 0 (A.data.toList.take k) A[k]
                  rw [← take_snoc A k hlt] at hsn
                  obtain ⟨R, hR⟩ : ∃ R, R = rd 0 (A.data.toList.take k) := ⟨_, rfl⟩
                  rw [← hR] at r1 r2 hsn ⊢
                  clear hR
                  by_cases hv : 1000000000000 < 10 * R + ((A[k].toNat : Int) - 48) % 256
                  · have t1 : decide (1000000000000 < 10 * R + ((A[k].toNat : Int) - 48) % 256) = true := decide_eq_true hv
                    have ho := parseR_over false _ (rd_hits A k (by rw [hsn]; omega))
                    have HH1 := HZ1.out
                    have HH2 := HZ2.out
                    rw [ho] at HH1 HH2
                    subst HH1 HH2
                    clear HZ1 HZ2 ho hsn hv
                    go_wp2_with fail
                    go_ret2
                    exact ⟨rfl, rfl⟩
                  · have t1 : decide (1000000000000 < 10 * R + ((A[k].toNat : Int) - 48) % 256) = false := decide_eq_false hv
                    have ho : rd 0 (A.data.toList.take (k + 1)) = 10 * R + ((A[k].toNat : Int) - 48) % 256 := by rw [hsn]; omega
                    have HS := Lib.hid ho
                    clear hsn hv ho
                    go_wp2_with fail
                    go_round
                    case rel => exact ⟨k + 1, by omega, by go_num, by rw [HS.out], by rw [HS.out]; exact Int.not_lt.1 (of_decide_eq_false t1)⟩
                    case measure => simp [intOf]; omega
                · obtain rfl : k = A.size := by omega
                  rw [List.take_of_length_le (by rw [← Lib.size_eq]; exact Nat.le_refl _)] at r1 r2 ⊢
                  have ho := parseR_fine false _ r2
                  have HH1 := HZ1.out
                  have HH2 := HZ2.out
                  rw [ho] at HH1 HH2
                  subst HH1 HH2
                  clear HZ1 HZ2 ho
                  obtain ⟨R, hR⟩ : ∃ R, R = rd 0 A.data.toList := ⟨_, rfl⟩
                  rw [← hR] at r1 r2 ⊢
                  have HR := Lib.hid hR
                  clear hR
                  have e3 : wrap64 (-R) = -R := by unfold wrap64; omega
                  go_wp2_with fail
                  go_ret2
                  exact ⟨by rw [← HR.out]; rfl, rfl⟩
            · have d4 : ((K : Int) + 1 + M != ↑s.size) = true := by rw [bne_iff_ne]; omega
              have HH1 := HZ1.out
              have HH2 := HZ2.out
              rw [if_pos (.inr (.inr (.inr c4)))] at HH1 HH2
              subst HH1 HH2
              clear HZ1 HZ2
              go_wp2_with fail
              go_ret2
              exact ⟨rfl, rfl⟩
      · have d1 : ((s[K].toNat : Int) != 46) = true := by
          rw [bne_iff_ne]; intro h; exact c1 (UInt8.toNat_inj.1 (by show s[K].toNat = 46; omega))
        have HH1 := HZ1.out
        have HH2 := HZ2.out
        rw [if_pos (.inl c1)] at HH1 HH2
        subst HH1 HH2
        clear HZ1 HZ2
        go_wp2_with fail
        go_ret2
        exact ⟨rfl, rfl⟩
    · obtain rfl : K = s.size := by omega
      have HH1 := HZ1.out
      have HH2 := HZ2.out
      rw [if_neg hK0, if_neg hKl] at HH1 HH2
      clear HZ1 HZ2
      obtain ⟨A, hA⟩ : ∃ A, A = s ++ ⟨#[48, 48, 48]⟩ := ⟨_, rfl⟩
      have hAl : A.data.toList = s.data.toList ++ [48, 48, 48] := by rw [hA, ByteArray.data_append]; simp
      have hAs : A.size ≤ 200 := by rw [Lib.size_eq, hAl, List.length_append, ← Lib.size_eq]; simp only [List.length_cons, List.length_nil]; omega
      rw [← hAl] at HH1 HH2
      have HZ1 := Lib.hid HH1
      have HZ2 := Lib.hid HH2
      clear HH1 HH2 hAl hKl
      go_wp2_with fail
      rw [← hA]
      clear hA
      go_loop [8, 10] (fun v i => ∃ k : Nat, k ≤ A.size ∧ i = .int .i64 k ∧ v = .int .i64 (rd 0 (A.data.toList.take k)) ∧ rd 0 (A.data.toList.take k) ≤ 1000000000000) (fun _ i => A.size - (intOf i).toNat)
      case atStart => exact ⟨0, Nat.zero_le _, rfl, rfl, (by show (0 : Int) ≤ 1000000000000; omega)⟩
      case round =>
        obtain ⟨k, hk, rfl, rfl, r2⟩ := hrel
        obtain ⟨r1, _⟩ := rd_range (A.data.toList.take k) 0 (by omega) (by omega)
        by_cases hlt : k < A.size
        · have hb : A[k].toNat < 256 := A[k].toNat_lt
          have hsn := rd_snoc 0 (A.data.toList.take k) A[k]
          rw [← take_snoc A k hlt] at hsn
          obtain ⟨R, hR⟩ : ∃ R, R = rd 0 (A.data.toList.take k) := ⟨_, rfl⟩
          rw [← hR] at r1 r2 hsn ⊢
          clear hR
          by_cases hv : 1000000000000 < 10 * R + ((A[k].toNat : Int) - 48) % 256
          · have t1 : decide (1000000000000 < 10 * R + ((A[k].toNat : Int) - 48) % 256) = true := decide_eq_true hv
            have ho := parseR_over false _ (rd_hits A k (by rw [hsn]; omega))
            have HH1 := HZ1.out
            have HH2 := HZ2.out
            rw [ho] at HH1 HH2
            subst HH1 HH2
            clear HZ1 HZ2 ho hsn hv
            go_wp2_with fail
            go_ret2
            exact ⟨rfl, rfl⟩
          · have t1 : decide (1000000000000 < 10 * R + ((A[k].toNat : Int) - 48) % 256) = false := decide_eq_false hv
            have ho : rd 0 (A.data.toList.take (k + 1)) = 10 * R + ((A[k].toNat : Int) - 48) % 256 := by rw [hsn]; omega
            have HS := Lib.hid ho
            clear hsn hv ho
            go_wp2_with fail
            go_round
            case rel => exact ⟨k + 1, by omega, by go_num, by rw [HS.out], by rw [HS.out]; exact Int.not_lt.1 (of_decide_eq_false t1)⟩
            case measure => simp [intOf]; omega
        · obtain rfl : k = A.size := by omega
          rw [List.take_of_length_le (by rw [← Lib.size_eq]; exact Nat.le_refl _)] at r1 r2 ⊢
          have ho := parseR_fine false _ r2
          have HH1 := HZ1.out
          have HH2 := HZ2.out
          rw [ho] at HH1 HH2
          subst HH1 HH2
          clear HZ1 HZ2 ho
          obtain ⟨R, hR⟩ : ∃ R, R = rd 0 A.data.toList := ⟨_, rfl⟩
          rw [← hR] at r1 r2 ⊢
          have HR := Lib.hid hR
          clear hR
          have e3 : wrap64 (-R) = -R := by unfold wrap64; omega
          go_wp2_with fail
          go_ret2
          exact ⟨by rw [← HR.out]; rfl, rfl⟩

set_option maxHeartbeats 2000000 in
theorem rparse_neg (s : ByteArray) (w : World) (hs : s.size ≤ 100) (hp : 0 < s.size) (hne :  s[0].toNat = 45) :
    Calls Tryd.prog 13 #[.string s] w fun e w' => e = .returned (.tuple #[.int .i64 (parseR true (refBody (s.data.toList.drop 1))).1, .int .i64 (parseR true (refBody (s.data.toList.drop 1))).2]) ∧ w = w' := by
  obtain ⟨D, hD⟩ : ∃ D, D = s.extract 1 s.size := ⟨_, rfl⟩
  have hDl : D.data.toList = s.data.toList.drop 1 := by rw [hD]; exact Lib.extract_to_end s 1
  have hDs : D.size ≤ 100 := by rw [Lib.size_eq, hDl, List.length_drop, ← Lib.size_eq]; omega
  rw [← hDl]
  clear hDl
  have h45 : ((s[0].toNat : Int) == 45) = true := by rw [beq_iff_eq]; omega
  obtain ⟨z1, hz1⟩ : ∃ z, z = (parseR true (refBody D.data.toList)).1 := ⟨_, rfl⟩
  obtain ⟨z2, hz2⟩ : ∃ z, z = (parseR true (refBody D.data.toList)).2 := ⟨_, rfl⟩
  rw [← hz1, ← hz2]
  have HD := Lib.hid (fun w => rdigits_any D w (by omega))
  have hKle := ndig_le D.data.toList
  rw [← Lib.size_eq] at hKle
  rw [show refBody D.data.toList = if ndig D.data.toList = 0 then none
  else if ndig D.data.toList < D.data.toList.length then
    (if D.data.toList.getD (ndig D.data.toList) 0 ≠ 46 ∨ ndig (D.data.toList.drop (ndig D.data.toList + 1)) < 1 ∨ 3 < ndig (D.data.toList.drop (ndig D.data.toList + 1)) ∨ ndig D.data.toList + 1 + ndig (D.data.toList.drop (ndig D.data.toList + 1)) ≠ D.data.toList.length then none
    else some (D.data.toList.take (ndig D.data.toList) ++ (D.data.toList.drop (ndig D.data.toList + 1) ++ [48, 48]).take 3))
  else some (D.data.toList ++ [48, 48, 48]) from rfl, ← Lib.size_eq] at hz1 hz2
  obtain ⟨K, hK⟩ : ∃ K, K = ndig D.data.toList := ⟨_, rfl⟩
  rw [← hK] at HD hKle hz1 hz2
  clear hne hK
  have HZ1 := Lib.hid hz1
  have HZ2 := Lib.hid hz2
  clear hz1 hz2
  go_enter Tryd.func13, Tryd.ntmps13
  go_wp2_with fail
  rw [← hD]
  clear hD
  refine (HD.out _).mono ?_
  rintro e w1 ⟨rfl, rfl⟩
  by_cases hK0 : K = 0
  · have HH1 := HZ1.out
    have HH2 := HZ2.out
    rw [if_pos hK0] at HH1 HH2
    subst hK0 HH1 HH2
    clear HZ1 HZ2
    go_wp2_with fail
    go_ret2
    exact ⟨rfl, rfl⟩
  · have k0 : ((K : Int) == 0) = false := by rw [beq_eq_false_iff_ne]; omega
    by_cases hKl : K < D.size
    · have k1 : decide ((K : Int) < ↑D.size) = true := by rw [decide_eq_true_eq]; omega
      have HH1 := HZ1.out
      have HH2 := HZ2.out
      rw [if_neg hK0, if_pos hKl] at HH1 HH2
      clear HZ1 HZ2
      obtain ⟨E, hE⟩ : ∃ E, E = D.extract (K + 1) D.size := ⟨_, rfl⟩
      have hEl : E.data.toList = D.data.toList.drop (K + 1) := by rw [hE]; exact Lib.extract_to_end D (K + 1)
      have hEs : E.size = D.size - (K + 1) := by rw [Lib.size_eq, hEl, List.length_drop, ← Lib.size_eq]
      have hMle := ndig_le E.data.toList
      rw [← Lib.size_eq] at hMle
      have HE := Lib.hid (fun w => rdigits_any E w (by omega))
      rw [← hEl] at HH1 HH2
      obtain ⟨M, hM⟩ : ∃ M, M = ndig E.data.toList := ⟨_, rfl⟩
      rw [← hM] at HE hMle HH1 HH2
      have hg : D.data.toList.getD K 0 = D[K] := by rw [List.getD_eq_getElem?_getD, List.getElem?_eq_getElem (by rw [← Lib.size_eq]; exact hKl)]; rfl
      rw [hg] at HH1 HH2
      have HEl := Lib.hid hEl
      have HZ1 := Lib.hid HH1
      have HZ2 := Lib.hid HH2
      clear hEl hM hg HH1 HH2
      go_wp2_with fail
      rw [← hE]
      refine (HE.out _).mono ?_
      rintro e w2 ⟨rfl, rfl⟩
      by_cases c1 : D[K] = 46
      · have c1' : D[K].toNat = 46 := by rw [c1]; rfl
        have d1 : ((D[K].toNat : Int) != 46) = false := by rw [bne_eq_false_iff_eq]; omega
        by_cases c2 : M < 1
        · have d2 : decide ((M : Int) < 1) = true := by rw [decide_eq_true_eq]; omega
          have HH1 := HZ1.out
          have HH2 := HZ2.out
          rw [if_pos (.inr (.inl c2))] at HH1 HH2
          subst HH1 HH2
          clear HZ1 HZ2
          go_wp2_with fail
          go_ret2
          exact ⟨rfl, rfl⟩
        · have d2 : decide ((M : Int) < 1) = false := by rw [decide_eq_false_iff_not]; omega
          by_cases c3 : 3 < M
          · have d3 : decide ((3 : Int) < M) = true := by rw [decide_eq_true_eq]; omega
            have HH1 := HZ1.out
            have HH2 := HZ2.out
            rw [if_pos (.inr (.inr (.inl c3)))] at HH1 HH2
            subst HH1 HH2
            clear HZ1 HZ2
            go_wp2_with fail
            go_ret2
            exact ⟨rfl, rfl⟩
          · have d3 : decide ((3 : Int) < M) = false := by rw [decide_eq_false_iff_not]; omega
            by_cases c4 : K + 1 + M = D.size
            · have d4 : ((K : Int) + 1 + M != ↑D.size) = false := by rw [bne_eq_false_iff_eq]; omega
              obtain ⟨A, hA⟩ : ∃ A, A = D.extract 0 K ++ (E ++ ⟨#[48, 48]⟩).extract 0 3 := ⟨_, rfl⟩
              have hEb : (E ++ ⟨#[48, 48]⟩).data.toList = E.data.toList ++ [48, 48] := by rw [ByteArray.data_append]; simp
              have hAl : A.data.toList = D.data.toList.take K ++ (E.data.toList ++ [48, 48]).take 3 := by
                rw [hA, ByteArray.data_append, Array.toList_append, extract_take, extract_take, hEb]
              have hAs : A.size ≤ 200 := by
                rw [Lib.size_eq, hAl, List.length_append, List.length_take, List.length_take, ← Lib.size_eq]; omega
              have g2 : (E ++ ⟨#[48, 48]⟩).size = E.size + 2 := ByteArray.size_append
              have g3 : 3 ≤ E.size + 2 := by omega
              have HH1 := HZ1.out
              have HH2 := HZ2.out
              rw [if_neg (by rw [not_or, not_or, not_or]; exact ⟨fun h => h c1, c2, c3, fun h => h c4⟩), ← hAl] at HH1 HH2
              clear HZ1 HZ2
              have HZ1 := Lib.hid HH1
              have HZ2 := Lib.hid HH2
              have HA := Lib.hid hA
              clear HH1 HH2 hAl hEb hA
              go_wp2_with fail
              rw [← hE, ← HA.out]
              clear HA
              go_loop [8, 10] (fun v i => ∃ k : Nat, k ≤ A.size ∧ i = .int .i64 k ∧ v = .int .i64 (rd 0 (A.data.toList.take k)) ∧ rd 0 (A.data.toList.take k) ≤ 1000000000000) (fun _ i => A.size - (intOf i).toNat)
              case atStart => exact ⟨0, Nat.zero_le _, rfl, rfl, (by show (0 : Int) ≤ 1000000000000; omega)⟩
              case round =>
                obtain ⟨k, hk, rfl, rfl, r2⟩ := hrel
                obtain ⟨r1, _⟩ := rd_range (A.data.toList.take k) 0 (by omega) (by omega)
                by_cases hlt : k < A.size
                · have hb : A[k].toNat < 256 := A[k].toNat_lt
                  have hsn := rd_snoc 0 (A.data.toList.take k) A[k]
                  rw [← take_snoc A k hlt] at hsn
                  obtain ⟨R, hR⟩ : ∃ R, R = rd 0 (A.data.toList.take k) := ⟨_, rfl⟩
                  rw [← hR] at r1 r2 hsn ⊢
                  clear hR
                  by_cases hv : 1000000000000 < 10 * R + ((A[k].toNat : Int) - 48) % 256
                  · have t1 : decide (1000000000000 < 10 * R + ((A[k].toNat : Int) - 48) % 256) = true := decide_eq_true hv
                    have ho := parseR_over true _ (rd_hits A k (by rw [hsn]; omega))
                    have HH1 := HZ1.out
                    have HH2 := HZ2.out
                    rw [ho] at HH1 HH2
                    subst HH1 HH2
                    clear HZ1 HZ2 ho hsn hv
                    go_wp2_with fail
                    go_ret2
                    exact ⟨rfl, rfl⟩
                  · have t1 : decide (1000000000000 < 10 * R + ((A[k].toNat : Int) - 48) % 256) = false := decide_eq_false hv
                    have ho : rd 0 (A.data.toList.take (k + 1)) = 10 * R + ((A[k].toNat : Int) - 48) % 256 := by rw [hsn]; omega
                    have HS := Lib.hid ho
                    clear hsn hv ho
                    go_wp2_with fail
                    go_round
                    case rel => exact ⟨k + 1, by omega, by go_num, by rw [HS.out], by rw [HS.out]; exact Int.not_lt.1 (of_decide_eq_false t1)⟩
                    case measure => simp [intOf]; omega
                · obtain rfl : k = A.size := by omega
                  rw [List.take_of_length_le (by rw [← Lib.size_eq]; exact Nat.le_refl _)] at r1 r2 ⊢
                  have ho := parseR_fine true _ r2
                  have HH1 := HZ1.out
                  have HH2 := HZ2.out
                  rw [ho] at HH1 HH2
                  subst HH1 HH2
                  clear HZ1 HZ2 ho
                  obtain ⟨R, hR⟩ : ∃ R, R = rd 0 A.data.toList := ⟨_, rfl⟩
                  rw [← hR] at r1 r2 ⊢
                  have HR := Lib.hid hR
                  clear hR
                  have e3 : wrap64 (-R) = -R := by unfold wrap64; omega
                  go_wp2_with fail
                  go_ret2
                  exact ⟨by rw [← HR.out]; rfl, rfl⟩
            · have d4 : ((K : Int) + 1 + M != ↑D.size) = true := by rw [bne_iff_ne]; omega
              have HH1 := HZ1.out
              have HH2 := HZ2.out
              rw [if_pos (.inr (.inr (.inr c4)))] at HH1 HH2
              subst HH1 HH2
              clear HZ1 HZ2
              go_wp2_with fail
              go_ret2
              exact ⟨rfl, rfl⟩
      · have d1 : ((D[K].toNat : Int) != 46) = true := by
          rw [bne_iff_ne]; intro h; exact c1 (UInt8.toNat_inj.1 (by show D[K].toNat = 46; omega))
        have HH1 := HZ1.out
        have HH2 := HZ2.out
        rw [if_pos (.inl c1)] at HH1 HH2
        subst HH1 HH2
        clear HZ1 HZ2
        go_wp2_with fail
        go_ret2
        exact ⟨rfl, rfl⟩
    · obtain rfl : K = D.size := by omega
      have HH1 := HZ1.out
      have HH2 := HZ2.out
      rw [if_neg hK0, if_neg hKl] at HH1 HH2
      clear HZ1 HZ2
      obtain ⟨A, hA⟩ : ∃ A, A = D ++ ⟨#[48, 48, 48]⟩ := ⟨_, rfl⟩
      have hAl : A.data.toList = D.data.toList ++ [48, 48, 48] := by rw [hA, ByteArray.data_append]; simp
      have hAs : A.size ≤ 200 := by rw [Lib.size_eq, hAl, List.length_append, ← Lib.size_eq]; simp only [List.length_cons, List.length_nil]; omega
      rw [← hAl] at HH1 HH2
      have HZ1 := Lib.hid HH1
      have HZ2 := Lib.hid HH2
      clear HH1 HH2 hAl hKl
      go_wp2_with fail
      rw [← hA]
      clear hA
      go_loop [8, 10] (fun v i => ∃ k : Nat, k ≤ A.size ∧ i = .int .i64 k ∧ v = .int .i64 (rd 0 (A.data.toList.take k)) ∧ rd 0 (A.data.toList.take k) ≤ 1000000000000) (fun _ i => A.size - (intOf i).toNat)
      case atStart => exact ⟨0, Nat.zero_le _, rfl, rfl, (by show (0 : Int) ≤ 1000000000000; omega)⟩
      case round =>
        obtain ⟨k, hk, rfl, rfl, r2⟩ := hrel
        obtain ⟨r1, _⟩ := rd_range (A.data.toList.take k) 0 (by omega) (by omega)
        by_cases hlt : k < A.size
        · have hb : A[k].toNat < 256 := A[k].toNat_lt
          have hsn := rd_snoc 0 (A.data.toList.take k) A[k]
          rw [← take_snoc A k hlt] at hsn
          obtain ⟨R, hR⟩ : ∃ R, R = rd 0 (A.data.toList.take k) := ⟨_, rfl⟩
          rw [← hR] at r1 r2 hsn ⊢
          clear hR
          by_cases hv : 1000000000000 < 10 * R + ((A[k].toNat : Int) - 48) % 256
          · have t1 : decide (1000000000000 < 10 * R + ((A[k].toNat : Int) - 48) % 256) = true := decide_eq_true hv
            have ho := parseR_over true _ (rd_hits A k (by rw [hsn]; omega))
            have HH1 := HZ1.out
            have HH2 := HZ2.out
            rw [ho] at HH1 HH2
            subst HH1 HH2
            clear HZ1 HZ2 ho hsn hv
            go_wp2_with fail
            go_ret2
            exact ⟨rfl, rfl⟩
          · have t1 : decide (1000000000000 < 10 * R + ((A[k].toNat : Int) - 48) % 256) = false := decide_eq_false hv
            have ho : rd 0 (A.data.toList.take (k + 1)) = 10 * R + ((A[k].toNat : Int) - 48) % 256 := by rw [hsn]; omega
            have HS := Lib.hid ho
            clear hsn hv ho
            go_wp2_with fail
            go_round
            case rel => exact ⟨k + 1, by omega, by go_num, by rw [HS.out], by rw [HS.out]; exact Int.not_lt.1 (of_decide_eq_false t1)⟩
            case measure => simp [intOf]; omega
        · obtain rfl : k = A.size := by omega
          rw [List.take_of_length_le (by rw [← Lib.size_eq]; exact Nat.le_refl _)] at r1 r2 ⊢
          have ho := parseR_fine true _ r2
          have HH1 := HZ1.out
          have HH2 := HZ2.out
          rw [ho] at HH1 HH2
          subst HH1 HH2
          clear HZ1 HZ2 ho
          obtain ⟨R, hR⟩ : ∃ R, R = rd 0 A.data.toList := ⟨_, rfl⟩
          rw [← hR] at r1 r2 ⊢
          have HR := Lib.hid hR
          clear hR
          have e3 : wrap64 (-R) = -R := by unfold wrap64; omega
          go_wp2_with fail
          go_ret2
          exact ⟨by rw [← HR.out]; rfl, rfl⟩

theorem rparse_empty (s : ByteArray) (w : World) (hs : s.size = 0) :
    Calls Tryd.prog 13 #[.string s] w fun e w' => e = .returned (.tuple #[.int .i64 0, .int .i64 2]) ∧ w = w' := by
  have hl : s.data.toList = [] := by rw [← List.length_eq_zero_iff, ← Lib.size_eq]; exact hs
  have HD := rdigits_any s w (by omega)
  rw [hl] at HD
  go_enter Tryd.func13, Tryd.ntmps13
  go_wp2_with fail
  refine HD.mono ?_
  rintro e w1 ⟨rfl, rfl⟩
  rw [show ndig [] = 0 from rfl]
  go_wp2_with fail
  go_ret2
  exact ⟨rfl, rfl⟩

theorem rparse_any (s : ByteArray) (w : World) (hs : s.size ≤ 100) :
    Calls Tryd.prog 13 #[.string s] w fun e w' => e = .returned (.tuple #[.int .i64 (parseL s.data.toList).1, .int .i64 (parseL s.data.toList).2]) ∧ w = w' := by
  rw [parseL_ref]
  by_cases hp : 0 < s.size
  · have h0 : s.data.toList[0]? = some s[0] := by rw [List.getElem?_eq_getElem (by rw [← Lib.size_eq]; exact hp)]; rfl
    have hpre : Lib.hasPrefix s.data.toList [45] = ((45 : UInt8) == s[0]) := by
      obtain ⟨x, hx⟩ : ∃ x, x = s[0] := ⟨_, rfl⟩
      rw [← hx] at h0 ⊢
      cases hsl : s.data.toList with
      | nil => rw [hsl] at h0; cases h0
      | cons c l =>
        rw [hsl] at h0
        obtain rfl : c = x := Option.some.inj h0
        unfold Lib.hasPrefix
        show ((45 : UInt8) == c && true) = _
        rw [Bool.and_true]
    unfold Lib.trimPrefix
    rw [hpre]
    by_cases h45 : s[0].toNat = 45
    · have hb : ((45 : UInt8) == s[0]) = true := by rw [beq_iff_eq]; exact (UInt8.toNat_inj.1 h45).symm
      rw [hb, if_pos rfl]
      exact rparse_neg s w hs hp h45
    · have hb : ((45 : UInt8) == s[0]) = false := by rw [beq_eq_false_iff_ne]; intro h; exact h45 (by rw [← h]; rfl)
      rw [hb, if_neg (by decide)]
      exact rparse_pos s w hs hp h45
  · have hl : s.data.toList = [] := by rw [← List.length_eq_zero_iff, ← Lib.size_eq]; omega
    rw [hl]
    exact rparse_empty s w (by omega)
end Go.Proofs.YtckbfkkohkmcaaaDoor
