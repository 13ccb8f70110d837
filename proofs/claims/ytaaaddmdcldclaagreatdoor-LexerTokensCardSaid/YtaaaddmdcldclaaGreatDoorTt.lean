/- Contracts of the specification's Sign, field, parts. -/
import Derived.Test.YtaaaddmdcldclaaGreatDoorTs
namespace Go.Proofs.YtaaaddmdcldclaaGreatDoor
open Go.RowKit Go.Shelf
set_option linter.unusedVariables false
set_option linter.unusedSimpArgs false

def sigB (s : ByteArray) : Bool := (s.toList == ([40] : List UInt8)) || (s.toList == ([41] : List UInt8)) || (s.toList == ([44] : List UInt8)) || (s.toList == ([61] : List UInt8)) || (s.toList == ([58] : List UInt8)) || (s.toList == ([60] : List UInt8)) || (s.toList == ([62] : List UInt8))
set_option maxHeartbeats 8000000 in
set_option maxRecDepth 100000 in
theorem sign_any (s : ByteArray) (w : World) : Calls Tryz.prog 41 #[.string s] w fun e w' => e = .returned (.bool (sigB s)) ∧ Below w.heap.size w w' := by
  cases t0 : (s.toList == ([40] : List UInt8))
  rotate_left
  · have HY := Lib.hid (show sigB s = true by unfold sigB; rw [t0]; simp)
    go_enter Tryz.func41, Tryz.ntmps41
    go_wp2_with fail
    go_ret
    exact ⟨by rw [HY.out]; (first | done | rfl), Below.refl _ _⟩
  cases t1 : (s.toList == ([41] : List UInt8))
  rotate_left
  · have HY := Lib.hid (show sigB s = true by unfold sigB; rw [t0, t1]; simp)
    go_enter Tryz.func41, Tryz.ntmps41
    go_wp2_with fail
    go_ret
    exact ⟨by rw [HY.out]; (first | done | rfl), Below.refl _ _⟩
  cases t2 : (s.toList == ([44] : List UInt8))
  rotate_left
  · have HY := Lib.hid (show sigB s = true by unfold sigB; rw [t0, t1, t2]; simp)
    go_enter Tryz.func41, Tryz.ntmps41
    go_wp2_with fail
    go_ret
    exact ⟨by rw [HY.out]; (first | done | rfl), Below.refl _ _⟩
  cases t3 : (s.toList == ([61] : List UInt8))
  rotate_left
  · have HY := Lib.hid (show sigB s = true by unfold sigB; rw [t0, t1, t2, t3]; simp)
    go_enter Tryz.func41, Tryz.ntmps41
    go_wp2_with fail
    go_ret
    exact ⟨by rw [HY.out]; (first | done | rfl), Below.refl _ _⟩
  cases t4 : (s.toList == ([58] : List UInt8))
  rotate_left
  · have HY := Lib.hid (show sigB s = true by unfold sigB; rw [t0, t1, t2, t3, t4]; simp)
    go_enter Tryz.func41, Tryz.ntmps41
    go_wp2_with fail
    go_ret
    exact ⟨by rw [HY.out]; (first | done | rfl), Below.refl _ _⟩
  cases t5 : (s.toList == ([60] : List UInt8))
  rotate_left
  · have HY := Lib.hid (show sigB s = true by unfold sigB; rw [t0, t1, t2, t3, t4, t5]; simp)
    go_enter Tryz.func41, Tryz.ntmps41
    go_wp2_with fail
    go_ret
    exact ⟨by rw [HY.out]; (first | done | rfl), Below.refl _ _⟩
  cases t6 : (s.toList == ([62] : List UInt8))
  rotate_left
  · have HY := Lib.hid (show sigB s = true by unfold sigB; rw [t0, t1, t2, t3, t4, t5, t6]; simp)
    go_enter Tryz.func41, Tryz.ntmps41
    go_wp2_with fail
    go_ret
    exact ⟨by rw [HY.out]; (first | done | rfl), Below.refl _ _⟩
  have HY := Lib.hid (show sigB s = false by unfold sigB; rw [t0, t1, t2, t3, t4, t5, t6]; rfl)
  go_enter Tryz.func41, Tryz.ntmps41
  go_wp2_with fail
  go_ret
  exact ⟨by rw [HY.out]; (first | done | rfl), Below.refl _ _⟩
def fieldB (s : ByteArray) (n : Nat) : Bool := starB s || (decide (s.size = n) && decide (0 ≤ numberN s))
set_option maxHeartbeats 8000000 in
set_option maxRecDepth 100000 in
theorem field_any (s : ByteArray) (n : Nat) (hs : s.size ≤ 1000000) (w : World) : Calls Tryz.prog 66 #[.string s, .int .i64 n] w fun e w' => e = .returned (.bool (fieldB s n)) ∧ Below w.heap.size w w' := by
  cases ts : (s.toList == ([42] : List UInt8))
  rotate_left
  · have HY := Lib.hid (show fieldB s n = true by unfold fieldB starB; rw [ts]; rfl)
    go_enter Tryz.func66, Tryz.ntmps66
    go_wp2_with fail
    go_ret
    exact ⟨by rw [HY.out]; (first | done | rfl), Below.refl _ _⟩
  by_cases hn : s.size = n
  · have tn : ((s.size : Int) == (n : Int)) = true := by rw [beq_iff_eq]; omega
    have hnu := fun w => number_any s hs w
    obtain ⟨V, hV⟩ : ∃ V, V = numberN s := ⟨_, rfl⟩
    rw [← hV] at hnu
    have HNU := Lib.hid hnu
    have HY := Lib.hid (show fieldB s n = decide (0 ≤ V) by unfold fieldB starB; rw [ts, decide_eq_true hn, hV]; rfl)
    clear hnu hV hn
    go_enter Tryz.func66, Tryz.ntmps66
    go_wp2_with fail
    refine (HNU.out _).mono ?_
    rintro e w1 ⟨rfl, hb⟩
    have HB := Lib.hid hb
    clear hb
    go_wp2_with fail
    go_ret
    exact ⟨by rw [HY.out]; (first | done | rfl), HB.out⟩
  · have tn : ((s.size : Int) == (n : Int)) = false := by rw [beq_eq_false_iff_ne]; omega
    have HY := Lib.hid (show fieldB s n = false by unfold fieldB starB; rw [ts, decide_eq_false hn]; rfl)
    clear hn
    go_enter Tryz.func66, Tryz.ntmps66
    go_wp2_with fail
    go_ret
    exact ⟨by rw [HY.out]; (first | done | rfl), Below.refl _ _⟩
def PartsOut (L : List ByteArray) (e : Ending) (w : World) : Prop := ∃ a c, e = .returned (.slice a L.length c) ∧ InS w a L.length 1 (flat strL L)
theorem parts_none {s : ByteArray} {c : UInt8} (h : ∀ k, k < s.size → byteI s k ≠ (c.toNat : Int)) : Cv.partsB s c = [s] := by
  have h1 : Lib.indexB s ⟨#[c]⟩ = -1 := (ix_is s c).trans (ix_miss h)
  unfold Cv.partsB
  exact Lib.splitB_miss _ _ _ _ h1
theorem parts_hit {s : ByteArray} {c : UInt8} {i : Nat} (hi : i < s.size) (h1 : byteI s i = (c.toNat : Int)) (h2 : ∀ k, k < i → byteI s k ≠ (c.toNat : Int)) : Cv.partsB s c = s.extract 0 i :: Cv.partsB (s.extract (i + 1) s.size) c := by
  have h3 : Lib.indexB s ⟨#[c]⟩ = i := (ix_is s c).trans (ix_hit hi h1 h2)
  have h4 := Lib.countB_hit s ⟨#[c]⟩ i (Nat.le_refl 1) h3
  have e1 : (⟨#[c]⟩ : ByteArray).size = 1 := rfl
  unfold Cv.partsB
  rw [h4, Nat.add_comm, Lib.splitB_hit _ _ _ _ i h3, e1, Nat.add_zero]
set_option maxHeartbeats 8000000 in
set_option maxRecDepth 100000 in
theorem parts_any (s : ByteArray) (d : UInt8) (hs : s.size ≤ 1000000) (w : World) : Calls Tryz.prog 65 #[.string s, .int .u8 d.toNat] w fun e w' => PartsOut (Cv.partsB s d) e w' ∧ Below w.heap.size w w' := by
  obtain ⟨ia, hifa, hza0, hza1, hza2⟩ := info_parts infoStr
  have HIF := Lib.hid hifa
  have HZ0 := Lib.hid hza0
  have HZ1 := Lib.hid hza1
  have HZ2 := Lib.hid hza2
  have HS := Lib.hid hs
  have HO1 := Lib.hid (own_empty w 9 1)
  have HB1 := Lib.hid ((Below.refl w.heap.size w).alloc (Nat.le_refl _) (Obj.cells #[] 9))
  clear hifa hza0 hza1 hza2 hs
  go_enter Tryz.func65, Tryz.ntmps65
  go_wp2_with fail
  go_loopw [5, 6, 7] (fun vv pv iv wr => ∃ (k p n : Nat) (L : List ByteArray) (v : Value), v = vv ∧ pv = .int .i64 p ∧ iv = .int .i64 k ∧ p ≤ k ∧ k ≤ s.size + 1 ∧ Hid (L.length = n ∧ n ≤ k ∧ ((k ≤ s.size ∧ p ≤ k ∧ Cv.partsB s d = L ++ Cv.partsB (s.extract p s.size) d ∧ ∀ j, p ≤ j → j < k → byteI s j ≠ (d.toNat : Int)) ∨ (k = s.size + 1 ∧ Cv.partsB s d = L)) ∧ wr.ownsRow w.heap.size 9 1 v n (flat strL L) ∧ Below w.heap.size w wr)) (fun _ _ iv _ => s.size + 1 - (intOf iv).toNat)
  case atStart => exact ⟨0, 0, 0, [], _, rfl, rfl, rfl, Nat.le_refl _, Nat.zero_le _, Lib.hid ⟨rfl, Nat.le_refl _, .inl ⟨Nat.zero_le _, Nat.le_refl _, by simp, fun j h1 h2 => by omega⟩, HO1.out, HB1.out⟩⟩
  case round =>
    obtain ⟨k, p, n, L, v, rfl, rfl, rfl, hpk, hkN, hH⟩ := hrel
    obtain ⟨hln, hnk, hst, how, hbe⟩ := hH.out
    have HLN := Lib.hid hln
    have HNB := Lib.hid (show n ≤ 1000001 by have := HS.out; omega)
    have HST := Lib.hid hst
    have HO := Lib.hid how
    have HB := Lib.hid hbe
    have HNK := Lib.hid hnk
    clear hln hnk hst how hbe hH
    by_cases hle : k ≤ s.size
    · have a0 : (k : Int) ≤ (s.size : Int) := by omega
      have hpp : p ≤ k ∧ Cv.partsB s d = L ++ Cv.partsB (s.extract p s.size) d ∧ ∀ j, p ≤ j → j < k → byteI s j ≠ (d.toNat : Int) := by
        rcases HST.out with h | h
        · exact h.2
        · omega
      have HPP := Lib.hid hpp.2
      have hpk2 := hpp.1
      clear hpp
      have a1 : (0 : Int) ≤ (p : Int) := by omega
      have a2 : (p : Int) ≤ (k : Int) := by omega
      have w1 : IntKind.i64.wrap ((k : Int) + 1) = (k : Int) + 1 := IntWalk.i64_in _ (by have := HS.out; omega)
      obtain ⟨a, c, hv, _⟩ := ins_own HO.out
      subst hv
      by_cases hend : k = s.size
      · subst hend
        have tE : ((s.size : Int) == (s.size : Int)) = true := beq_self_eq_true _
        have HALL := Lib.hid (show Cv.partsB s d = L ++ [s.extract p s.size] by
          have h1 := parts_none (s := s.extract p s.size) (c := d) (fun j hj => by rw [ByteArray.size_extract] at hj; rw [byteI_ext s p j (by omega)]; exact HPP.out.2 (p + j) (by omega) (by omega))
          rw [HPP.out.1, h1])
        go_wp2_with (at_builtin; refine wpList_append_own _ rfl _ _ 36 rfl w.heap.size 9 ia (.string ⟨#[]⟩) 1 16 Tryz.underlying36 HIF.out HZ0.out HZ1.out HZ2.out rfl (by decide) _ _ _ rfl (own_at HO.out _) ⟨wr.heap.size, 0, none⟩ 1 1 [.string (s.extract p s.size)] rfl rfl ?c1x1 ?c2x1 ?c3x1 ?c4x1 ?c5x1 ?_)
        try (case c1x1 => exact fun j u hu => by rw [add_plain, Nat.zero_add]; exact (row_fresh wr #[.string (s.extract p s.size)] 9).c j u hu)
        case c2x1 => first | rfl | exact ⟨rfl, trivial⟩ | (intro u hu; simp at hu; rcases hu with rfl; rfl)
        case c3x1 => have := HNB.out; unfold maxLen; omega
        case c4x1 => have := HNB.out; omega
        case c5x1 => have := HB.out.size; simp; omega
        intro v8 w8 hown8 hgrow8 _
        have NO7 := own_at HO.out (Obj.cells #[.string (s.extract p s.size)] 9)
        have HB8 := Lib.hid ((HB.out.alloc HB.out.size (Obj.cells #[.string (s.extract p s.size)] 9)).grown hgrow8 (by have := HB.out.size; simp; omega) (fun k hk => (NO7.lt k hk).1))
        have HO8 := Lib.hid (show w8.ownsRow w.heap.size 9 1 v8 (n + 1) (flat strL (L ++ [s.extract p s.size])) by rw [flat_append]; exact hown8)
        clear hown8 hgrow8 NO7
        go_wp2_with fail
        go_roundw
        case rel => exact ⟨s.size + 1, s.size + 1, n + 1, L ++ [s.extract p s.size], v8, rfl, by go_num, by go_num, by omega, Nat.le_refl _, Lib.hid ⟨by simp [HLN.out], by have := HNK.out; omega, .inr ⟨rfl, HALL.out⟩, HO8.out, HB8.out⟩⟩
        case measure => (simp [intOf]) <;> omega
      · have hlt : k < s.size := by omega
        have tE : ((k : Int) == (s.size : Int)) = false := by rw [beq_eq_false_iff_ne]; omega
        obtain ⟨x, hx⟩ : ∃ x : Int, x = (s[k].toNat : Int) := ⟨_, rfl⟩
        have HXB := Lib.hid (show byteI s k = x from (byteI_at hlt).trans hx.symm)
        have hx2 : (s[k].toNat : Int) = x := hx.symm
        have k1 : (0 : Int) ≤ (k : Int) := by omega
        have k2 : (k : Int) < (s.size : Int) := by omega
        clear hx
        by_cases h10 : x = (d.toNat : Int)
        · have t10 : (x == (d.toNat : Int)) = true := by simpa using h10
          have HHIT := Lib.hid (show Cv.partsB s d = (L ++ [s.extract p k]) ++ Cv.partsB (s.extract (k + 1) s.size) d by
            have hsz : (s.extract p s.size).size = s.size - p := by rw [ByteArray.size_extract]; omega
            have h1 := parts_hit (s := s.extract p s.size) (c := d) (i := k - p) (by omega) (by rw [byteI_ext s p (k - p) (by omega), show p + (k - p) = k by omega, HXB.out]; exact h10) (fun j hj => by rw [byteI_ext s p j (by omega)]; exact HPP.out.2 (p + j) (by omega) (by omega))
            rw [HPP.out.1, h1, hsz, ext_ext s p 0 (k - p) (by omega), ext_ext s p (k - p + 1) (s.size - p) (by omega), Nat.add_zero, show p + (k - p) = k by omega, show p + (k - p + 1) = k + 1 by omega, show p + (s.size - p) = s.size by omega]
            simp)
          clear h10
          go_wp2_with (at_builtin; refine wpList_append_own _ rfl _ _ 36 rfl w.heap.size 9 ia (.string ⟨#[]⟩) 1 16 Tryz.underlying36 HIF.out HZ0.out HZ1.out HZ2.out rfl (by decide) _ _ _ rfl (own_at HO.out _) ⟨wr.heap.size, 0, none⟩ 1 1 [.string (s.extract p k)] rfl rfl ?c1x2 ?c2x2 ?c3x2 ?c4x2 ?c5x2 ?_)
          try (case c1x2 => exact fun j u hu => by rw [add_plain, Nat.zero_add]; exact (row_fresh wr #[.string (s.extract p k)] 9).c j u hu)
          case c2x2 => first | rfl | exact ⟨rfl, trivial⟩ | (intro u hu; simp at hu; rcases hu with rfl; rfl)
          case c3x2 => have := HNB.out; unfold maxLen; omega
          case c4x2 => have := HNB.out; omega
          case c5x2 => have := HB.out.size; simp; omega
          intro v8 w8 hown8 hgrow8 _
          have NO7 := own_at HO.out (Obj.cells #[.string (s.extract p k)] 9)
          have HB8 := Lib.hid ((HB.out.alloc HB.out.size (Obj.cells #[.string (s.extract p k)] 9)).grown hgrow8 (by have := HB.out.size; simp; omega) (fun k hk => (NO7.lt k hk).1))
          have HO8 := Lib.hid (show w8.ownsRow w.heap.size 9 1 v8 (n + 1) (flat strL (L ++ [s.extract p k])) by rw [flat_append]; exact hown8)
          clear hown8 hgrow8 NO7
          go_wp2_with fail
          go_roundw
          case rel => exact ⟨k + 1, k + 1, n + 1, L ++ [s.extract p k], v8, rfl, by go_num, by go_num, by omega, by omega, Lib.hid ⟨by simp [HLN.out], by have := HNK.out; omega, .inl ⟨by omega, Nat.le_refl _, HHIT.out, fun j h1 h2 => by omega⟩, HO8.out, HB8.out⟩⟩
          case measure => (simp [intOf]) <;> omega
        · have t10 : (x == (d.toNat : Int)) = false := by rw [beq_eq_false_iff_ne]; exact h10
          have HX10 := Lib.hid (show byteI s k ≠ (d.toNat : Int) by rw [HXB.out]; exact h10)
          clear h10
          go_wp2_with fail
          go_roundw
          case rel => exact ⟨k + 1, p, n, L, .slice a n c, rfl, rfl, by go_num, by omega, by omega, Lib.hid ⟨HLN.out, by have := HNK.out; omega, .inl ⟨by omega, by omega, HPP.out.1, fun j h1 h2 => by (by_cases hj : j = k; rw [hj]; exact HX10.out; exact HPP.out.2 j h1 (by omega))⟩, HO.out, HB.out⟩⟩
          case measure => (simp [intOf]) <;> omega
    · have a0 : ¬ (k : Int) ≤ (s.size : Int) := by omega
      have HALL := Lib.hid (show Cv.partsB s d = L by
        rcases HST.out with h | h
        · omega
        · exact h.2)
      obtain ⟨a, c, hv, hi⟩ := ins_own HO.out
      subst hv
      have HI := Lib.hid hi
      clear hi
      go_wp2_with fail
      go_ret
      have hlen : (Cv.partsB s d).length = n := by rw [HALL.out]; exact HLN.out
      exact ⟨⟨a, c, by rw [hlen]; (first | done | rfl), by rw [hlen, HALL.out]; exact HI.out⟩, HB.out⟩
end Go.Proofs.YtaaaddmdcldclaaGreatDoor
