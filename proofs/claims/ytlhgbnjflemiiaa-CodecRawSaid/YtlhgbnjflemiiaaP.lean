/- Contract of the specification's encoder of signed numbers, and of the small ones. -/
import Derived.Test.YtlhgbnjflemiiaaO
namespace Go.Proofs.Ytlhgbnjflemiiaa
open Go.RowKit

theorem word_lt (n : Int) : word n < 18446744073709551616 := by unfold word; omega
theorem word_byte (n : Int) (m : Nat) (hm : m < 8) : ((word n / 256 ^ m : Nat) : Int) % 256 = (n / 256 ^ m) % 256 := by
  unfold word
  have : m = 0 ∨ m = 1 ∨ m = 2 ∨ m = 3 ∨ m = 4 ∨ m = 5 ∨ m = 6 ∨ m = 7 := by omega
  rcases this with rfl | rfl | rfl | rfl | rfl | rfl | rfl | rfl <;> simp <;> omega

/-- the last bytes of a signed number, as the encoder collects them -/
def SR (n : Int) (T : List UInt8) (g : Int) : Prop :=
  1 ≤ T.length ∧ T.length ≤ 8 ∧ T = (bytes8 (word n)).drop (8 - T.length) ∧ g = n / 256 ^ (T.length - 1) ∧ (T.length = 1 ∨ T.length ≤ ssz n)
theorem SR.start (n : Int) : SR n [UInt8.ofNat (word n)] n := ⟨by simp, by simp, rfl, by simp, .inl rfl⟩
theorem div_range (n : Int) (m : Nat) : (-128 ≤ n / 256 ^ m ∧ n / 256 ^ m ≤ 127) ↔ (-(128 * 256 ^ m : Int) ≤ n ∧ n < 128 * 256 ^ m) := by
  have hp : (0 : Int) < 256 ^ m := by
    have : 0 < 256 ^ m := Nat.pow_pos (n := m) (show 0 < 256 by omega)
    have hc : ((256 ^ m : Nat) : Int) = (256 : Int) ^ m := by simp
    rw [← hc]; omega
  generalize (256 : Int) ^ m = P at *
  have h1 : -128 ≤ n / P ↔ -128 * P ≤ n := Int.le_ediv_iff_mul_le hp
  have h2 : n / P < 128 ↔ n < 128 * P := Int.ediv_lt_iff_lt_mul hp
  omega
theorem SR.step {n g : Int} {T : List UInt8} (h : SR n T g) (h1 : -9223372036854775808 ≤ n) (h2 : n ≤ 9223372036854775807) (hg : ¬ (-128 ≤ g ∧ g ≤ 127)) :
    SR n (UInt8.ofNat (word n / 256 ^ T.length) :: T) (g / 256) ∧ (g / 256) % 256 = ((word n / 256 ^ T.length : Nat) : Int) % 256 := by
  obtain ⟨q1, q8, hT, hgg, _⟩ := h
  obtain ⟨m, hm⟩ : ∃ m, T.length = m + 1 := ⟨T.length - 1, by omega⟩
  rw [hm, Nat.add_sub_cancel] at hgg
  rw [hgg, div_range, ← ssz_le n m h1 h2] at hg
  have h8 := ssz_8 n h1 h2
  have hdiv : g / 256 = n / 256 ^ (m + 1) := by
    have hc : ((256 ^ m : Nat) : Int) = (256 : Int) ^ m := by simp
    rw [hgg, Int.ediv_ediv, if_neg (fun h => absurd h.1 (Int.not_lt.2 (hc ▸ Int.natCast_nonneg _))), Int.sub_zero, Int.pow_succ]
  refine ⟨⟨by simp, by rw [List.length_cons]; omega, ?_, by rw [List.length_cons, hm, Nat.add_sub_cancel, hdiv], .inr (by rw [List.length_cons]; omega)⟩, ?_⟩
  · rw [List.length_cons, hm, drop_bytes8 (word n) (m + 1) (by omega) (by omega), ← hm, ← hT]
  · rw [hdiv, hm, word_byte n (m + 1) (by omega)]
theorem SR.stop {n g : Int} {T : List UInt8} (h : SR n T g) (h1 : -9223372036854775808 ≤ n) (h2 : n ≤ 9223372036854775807) (hg : -128 ≤ g ∧ g ≤ 127) : T.length = ssz n ∧ T = (bytes8 (word n)).drop (8 - ssz n) := by
  obtain ⟨q1, q8, hT, hgg, hor⟩ := h
  obtain ⟨m, hm⟩ : ∃ m, T.length = m + 1 := ⟨T.length - 1, by omega⟩
  rw [hm, Nat.add_sub_cancel] at hgg
  rw [hgg, div_range, ← ssz_le n m h1 h2] at hg
  have := ssz_pos n
  have e : T.length = ssz n := by omega
  exact ⟨e, by rw [← e]; exact hT⟩
theorem SR.range {n g : Int} {T : List UInt8} (h : SR n T g) (h1 : -9223372036854775808 ≤ n) (h2 : n ≤ 9223372036854775807) : -9223372036854775808 ≤ g ∧ g ≤ 9223372036854775807 := by
  obtain ⟨q1, q8, hT, hgg, hor⟩ := h
  rw [hgg]
  have : T.length - 1 = 0 ∨ T.length - 1 = 1 ∨ T.length - 1 = 2 ∨ T.length - 1 = 3 ∨ T.length - 1 = 4 ∨ T.length - 1 = 5 ∨ T.length - 1 = 6 ∨ T.length - 1 = 7 := by omega
  rcases this with e | e | e | e | e | e | e | e <;> rw [e] <;> simp <;> omega
theorem cells_u8w {w : World} {n : Nat} {v : Int} (hv : v % 256 = (n : Int) % 256) : ∀ j u, (u8s [UInt8.ofNat n])[j]? = some u → (w.alloc (.cells #[.int .u8 (IntKind.u8.wrap v)] 5)).cell? ((⟨w.heap.size, 0, none⟩ : Addr).add j) = some u := by
  rw [u8s_one, ← hv, ← IntKind.wrap_u8']; exact cells_one rfl

set_option maxHeartbeats 1000000 in
theorem refSigned_any (n : Int) (w : World) (h1 : -9223372036854775808 ≤ n) (h2 : n ≤ 9223372036854775807) :
    Calls Try.prog 41 #[.int .i64 n] w fun e w' => e = .returned (.string ⟨(num 32 (word n) (ssz n)).toArray⟩) ∧ Below w.heap.size w w' := by
  obtain ⟨i0, hi, hz0, hz1, hz2⟩ := info_parts Try.info5
  go_enter Try.func41, Try.ntmps41
  go_wp2
  go_loopw [0, 3] (fun a b wr => ∃ (T : List UInt8) (g : Int) (q cap : Nat), a = .int .i64 g ∧ b = .slice (some ⟨q, 0, none⟩) T.length cap ∧ SR n T g ∧ Rd wr q T ∧ Below w.heap.size w wr) (fun a _ _ => (intOf a).natAbs)
  case atStart =>
    refine ⟨[UInt8.ofNat (word n)], n, w.heap.size, 1, rfl, rfl, SR.start n, ⟨by simp, fun j hj => ?_⟩, (Below.refl _ _).alloc (Nat.le_refl _) _⟩
    obtain rfl : j = 0 := by simpa using hj
    rw [u8s_one, World.cell?_alloc_new]
    have e := word_byte n 0 (by omega)
    simp only [Nat.pow_zero, Nat.div_one, Int.pow_zero, Int.ediv_one] at e
    rw [e, ← IntKind.wrap_u8']
    rfl
  case round =>
    obtain ⟨T, g, q, cap, rfl, rfl, hUR, hRd, hb⟩ := hrel
    have hgN := hUR.range h1 h2
    obtain ⟨hg1, hg2⟩ := hgN
    have hT8 : T.length ≤ 8 := hUR.2.1
    have hT1 : 0 < T.length := hUR.1
    have HU := Lib.hid hUR; have HR := Lib.hid hRd; have HB := Lib.hid hb
    clear hUR hRd hb
    by_cases hgt : ¬ (-128 ≤ g ∧ g ≤ 127)
    · obtain ⟨hU1, hby⟩ := HU.out.step h1 h2 hgt
      have HU1 := Lib.hid hU1; have HBY := Lib.hid hby
      clear hU1 hby
      have hcs : g < -128 ∨ 127 < g := by omega
      have Hgt := Lib.hid hgt
      clear hgt
      obtain ⟨bb, hbb⟩ : ∃ bb, bb = word n / 256 ^ T.length := ⟨_, rfl⟩
      rw [← hbb] at HU1 HBY
      clear hbb
      rcases hcs with hcs | hcs
      · go_wp2_with (at_builtin; refine wpList_cat _ rfl (.tmp 17) (.tmp 18) 26 26 rfl 5 i0 Try.underlying26 hi hz0 hz1 hz2 ⟨wr.heap.size, 0, none⟩ [UInt8.ofNat bb] T rfl ?c1 _ rfl (HR.out.src _) hT1 ?c4 ?c5)
        case c1 => exact cells_u8w HBY.out
        case c4 => simp; omega
        case c5 =>
          intro c w1 hc1 hb1 hs1
          have HR1 : Hid (Rd w1 (wr.heap.size + 1) (UInt8.ofNat bb :: T)) := ⟨by simpa using hs1, fun j hj => by simpa using hc1 j (by simpa using hj)⟩
          have HB1 : Hid (Below w.heap.size w w1) := (HB.out.alloc HB.out.size _).trans (hb1.mono (by have := HB.out.size; omega))
          clear hc1 hb1 hs1
          go_wp2
          go_roundw
          case rel => exact ⟨UInt8.ofNat bb :: T, g / 256, wr.heap.size + 1, c, by go_num, by rw [List.length_cons, Nat.add_comm 1 T.length], HU1.out, HR1.out, HB1.out⟩
          case measure => simp [intOf]; omega
      · go_wp2_with (at_builtin; refine wpList_cat _ rfl (.tmp 17) (.tmp 18) 26 26 rfl 5 i0 Try.underlying26 hi hz0 hz1 hz2 ⟨wr.heap.size, 0, none⟩ [UInt8.ofNat bb] T rfl ?c1 _ rfl (HR.out.src _) hT1 ?c4 ?c5)
        case c1 => exact cells_u8w HBY.out
        case c4 => simp; omega
        case c5 =>
          intro c w1 hc1 hb1 hs1
          have HR1 : Hid (Rd w1 (wr.heap.size + 1) (UInt8.ofNat bb :: T)) := ⟨by simpa using hs1, fun j hj => by simpa using hc1 j (by simpa using hj)⟩
          have HB1 : Hid (Below w.heap.size w w1) := (HB.out.alloc HB.out.size _).trans (hb1.mono (by have := HB.out.size; omega))
          clear hc1 hb1 hs1
          go_wp2
          go_roundw
          case rel => exact ⟨UInt8.ofNat bb :: T, g / 256, wr.heap.size + 1, c, by go_num, by rw [List.length_cons, Nat.add_comm 1 T.length], HU1.out, HR1.out, HB1.out⟩
          case measure => simp [intOf]; omega
    · obtain ⟨hga, hgb⟩ : -128 ≤ g ∧ g ≤ 127 := by omega
      have hga' : decide (g < -128) = false := by simp; omega
      have Hgt := Lib.hid hgt; clear hgt
      go_wp2_with (at_builtin; refine wpList_cat _ rfl (.tmp 24) (.tmp 25) 26 26 rfl 5 i0 Try.underlying26 hi hz0 hz1 hz2 ⟨wr.heap.size, 0, none⟩ [UInt8.ofNat (32 + T.length)] T rfl ?d1 _ rfl (HR.out.src _) hT1 ?d4 ?d5)
      case d1 => exact cells_u8 (by omega)
      case d4 => simp; omega
      case d5 =>
        intro c w1 hc1 hb1 hs1
        have hR1 : Rd w1 (wr.heap.size + 1) (UInt8.ofNat (32 + T.length) :: T) := ⟨by simpa using hs1, fun j hj => by simpa using hc1 j (by simpa using hj)⟩
        have HB1 : Hid (Below w.heap.size w w1) := (HB.out.alloc HB.out.size _).trans (hb1.mono (by have := HB.out.size; omega))
        have hst := HU.out.stop h1 h2 ⟨hga, hgb⟩
        have hstr := hR1.str (cap := c)
        rw [List.length_cons, Nat.add_comm T.length 1] at hstr
        have hfin : UInt8.ofNat (32 + T.length) :: T = num 32 (word n) (ssz n) := by
          unfold num; rw [← hst.2, ← hst.1]
        rw [hfin] at hstr
        clear hc1 hb1 hs1 hR1 hst hfin
        go_wp2
        go_ret
        exact ⟨rfl, HB1.out⟩

theorem ba_cons (c : UInt8) (l : List UInt8) : (⟨#[c]⟩ : ByteArray) ++ ⟨l.toArray⟩ = ⟨(c :: l).toArray⟩ := mk_append [c] l
theorem ba_app (l : List UInt8) (s : ByteArray) : (⟨l.toArray⟩ : ByteArray) ++ s = ⟨(l ++ sb s).toArray⟩ := by
  have : s = ⟨(sb s).toArray⟩ := by cases s; simp [sb]
  rw [this, mk_append]
  simp [sb]
theorem ba_size (l : List UInt8) : (⟨l.toArray⟩ : ByteArray).size = l.length := by
  show l.toArray.size = _; simp

set_option maxHeartbeats 400000 in
theorem refBool_any (b : Bool) (w : World) : Calls Try.prog 37 #[.bool b] w fun e w' => e = .returned (.string ⟨#[if b then 2 else 1]⟩) ∧ w = w' := by
  cases b
  · go_enter Try.func37, Try.ntmps37
    go_wp2
    go_ret
    exact ⟨rfl, rfl⟩
  · go_enter Try.func37, Try.ntmps37
    go_wp2
    go_ret
    exact ⟨rfl, rfl⟩

set_option maxHeartbeats 400000 in
theorem refHead_any (n : Nat) (w : World) (hn : n ≤ 65535) : Calls Try.prog 43 #[.int .i64 n] w fun e w' => e = .returned (.string ⟨(64 :: num 16 n (usz n)).toArray⟩) ∧ Below w.heap.size w w' := by
  have hu := refUnsigned_any n w (by omega)
  have hl : (⟨(num 16 n (usz n)).toArray⟩ : ByteArray).size ≤ 9 := by rw [ba_size, num_length _ _ _ (usz_8 n (by omega))]; have := usz_8 n (by omega); omega
  have hc := ba_cons 64 (num 16 n (usz n))
  rw [← hc]
  generalize (⟨(num 16 n (usz n)).toArray⟩ : ByteArray) = X at hu hl ⊢
  have H := Lib.hid hu; clear hu hc
  have h1 : (⟨#[64]⟩ : ByteArray).size ≤ 1 := Nat.le_refl _
  go_enter Try.func43, Try.ntmps43
  go_wp2_with fail
  refine H.out.mono ?_
  rintro e w1 ⟨rfl, hb⟩
  go_wp2
  go_ret
  exact ⟨rfl, hb⟩

set_option maxHeartbeats 400000 in
theorem refText_any (s : ByteArray) (w : World) (hs : s.size ≤ 70000) : Calls Try.prog 42 #[.string s] w fun e w' => e = .returned (.string ⟨(48 :: num 16 s.size (usz s.size) ++ sb s).toArray⟩) ∧ Below w.heap.size w w' := by
  have hu := refUnsigned_any s.size w (by omega)
  have hl : (⟨(num 16 s.size (usz s.size)).toArray⟩ : ByteArray).size ≤ 9 := by rw [ba_size, num_length _ _ _ (usz_8 _ (by omega))]; have := usz_8 s.size (by omega); omega
  have hc : (⟨(48 :: num 16 s.size (usz s.size) ++ sb s).toArray⟩ : ByteArray) = (⟨#[48]⟩ : ByteArray) ++ ⟨(num 16 s.size (usz s.size)).toArray⟩ ++ s := by rw [ba_cons, ba_app]
  rw [hc]
  generalize (⟨(num 16 s.size (usz s.size)).toArray⟩ : ByteArray) = X at hu hl ⊢
  have H := Lib.hid hu; clear hu hc
  have h1 : (⟨#[48]⟩ : ByteArray).size ≤ 1 := Nat.le_refl _
  have h2 : ((⟨#[48]⟩ : ByteArray) ++ X).size ≤ 10 := by rw [ByteArray.size_append]; omega
  go_enter Try.func42, Try.ntmps42
  go_wp2_with fail
  refine H.out.mono ?_
  rintro e w1 ⟨rfl, hb⟩
  go_wp2
  go_ret
  exact ⟨rfl, hb⟩
end Go.Proofs.Ytlhgbnjflemiiaa
