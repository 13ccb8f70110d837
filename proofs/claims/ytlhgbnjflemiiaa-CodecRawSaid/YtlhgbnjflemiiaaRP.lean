/- The law CodecRaw returns true. -/
import Derived.Test.YtlhgbnjflemiiaaRO
import Derived.Test.YtlhgbnjflemiiaaJ
namespace Go.Proofs.Ytlhgbnjflemiiaa
open Go.RowKit

theorem RS.fresh (w : World) (s : ByteArray) (hs : s.size ≤ 9223372036854775807) : RS (w.alloc (.cells #[.string s, .int .i64 0, .int .i64 0] 68)) w.heap.size s 0 0 :=
  ⟨by simp, World.cell?_alloc_new w _ _ 0, World.cell?_alloc_new w _ _ 1, World.cell?_alloc_new w _ _ 2, World.frozen?_alloc_new w _ _ 1, World.frozen?_alloc_new w _ _ 2, Nat.zero_le _, hs⟩
theorem below_drewN {B : Nat} {a w : World} (h : Below B a w) (n : Nat) : Below B a (w.drewN n) := ⟨h.os, h.tape, h.output, h.size, h.block⟩
set_option maxHeartbeats 400000 in
theorem fresh_any (s : ByteArray) (w : World) : Calls Try.prog 13 #[.string s] w fun e w' => e = .returned (.pointer (some ⟨w.heap.size, 0, none⟩)) ∧ w.alloc (.cells #[.string s, .int .i64 0, .int .i64 0] 68) = w' := by
  go_enter Try.func13, Try.ntmps13
  go_wp2
  go_ret
  exact ⟨rfl, rfl⟩

set_option maxRecDepth 100000 in
set_option maxHeartbeats 4000000 in
theorem raw_law (s : ByteArray) (oa : Option Addr) (len cap : Nat) (w : World) (hs : s.size ≤ 9223372036854775807) (hlm : len ≤ 9223372036854775807)
    (HC : Hid (∀ i, i < len → ∃ (b o : Nat) (z : Int), oa = some ⟨b, o, none⟩ ∧ b < w.heap.size ∧ w.cell? ⟨b, o + i, none⟩ = some (.int .i64 z))) :
    Calls Try.prog 5 #[.string s, .slice oa len cap] w fun e w' => e = .returned (.bool true) ∧ Below w.heap.size w w' := by
  by_cases h300 : 300 < s.size
  · go_enter Try.func5, Try.ntmps5
    go_wp2_with fail
    refine (awake_any _).mono ?_
    rintro e w1 ⟨rfl, hb1⟩
    go_wp2
    go_ret
    exact ⟨rfl, hb1⟩
  have hd : decide (300 < (s.size : Int)) = false := by simp; omega
  by_cases h40 : 40 < len
  · have hd4 : decide (40 < (len : Int)) = true := by simp; omega
    go_enter Try.func5, Try.ntmps5
    go_wp2_with fail
    refine (awake_any _).mono ?_
    rintro e w1 ⟨rfl, hb1⟩
    go_wp2
    go_ret
    exact ⟨rfl, hb1⟩
  have hd4 : decide (40 < (len : Int)) = false := by simp; omega
  go_enter Try.func5, Try.ntmps5
  go_wp2_with fail
  refine (awake_any _).mono ?_
  rintro e w1 ⟨rfl, hb1⟩
  have B1 := Lib.hid hb1; clear hb1
  go_wp2_with fail
  refine (fresh_any _ w1).mono ?_
  rintro e w2 ⟨rfl, rfl⟩
  have R2 := Lib.hid (RS.fresh w1 s hs)
  have B2 : Hid (Below w.heap.size w (w1.alloc (.cells #[.string s, .int .i64 0, .int .i64 0] 68))) := B1.out.alloc B1.out.size _
  have hA := B1.out.size
  generalize w1.alloc (.cells #[.string s, .int .i64 0, .int .i64 0] 68) = w2 at R2 B2 ⊢
  generalize w1.heap.size = A at R2 hA ⊢
  clear B1
  go_wp2
  go_loopw [6, 7, 8] (fun p q i wr => ∃ (k off : Nat) (er : Int), k ≤ len ∧ off ≤ s.size ∧ i = .int .i64 k ∧ p = .int .i64 off ∧ q = .int .i64 er ∧ (er = 0 ∨ er = 2) ∧ RS wr A s off er ∧ Below w.heap.size w wr) (fun _ _ i _ => len + 1 - (intOf i).toNat)
  case atStart => exact ⟨0, 0, 0, by omega, by omega, rfl, rfl, rfl, .inl rfl, R2.out, B2.out⟩
  case round =>
    obtain ⟨k, off, er, hk, hoff, rfl, rfl, rfl, her, hrs, hbl⟩ := hrel
    have HB := Lib.hid hbl; have HS := Lib.hid hrs
    clear hbl hrs R2 B2
    have hkl : decide ((k : Int) ≤ (len : Int)) = true := by simp; omega
    rcases her with rfl | rfl
    · -- no error yet
      have HK := Lib.hid (kindR_any s off wr hs)
      have HKo := Lib.hid (kind_ok wr A s off HS.out)
      have HOf := Lib.hid (fun n => offset_any (wr.drewN n) A s off 0 (HS.out.drewN n))
      have HEr := Lib.hid (fun n => err_any (wr.drewN n) A s off 0 (HS.out.drewN n))
      have HEn0 := fun n => end_ok (wr.drewN n) A s off (HS.out.drewN n)
      have HSt := Lib.hid (fun n z => step_any (wr.drewN n) A s off z (HS.out.drewN n))
      generalize kindL (restL s off) = kk at HK HKo
      rcases Nat.lt_or_ge off s.size with hl | hl
      all_goals first | simp only [if_pos hl] at HEn0 | simp only [if_neg (Nat.not_lt.2 hl)] at HEn0
      all_goals
        have HEn := Lib.hid HEn0
        clear HEn0
        first | (have hdl : decide ((off : Int) < (s.size : Int)) = true := by simp; omega) | (have hdl : decide ((off : Int) < (s.size : Int)) = false := by simp; omega)
        first | (have hdl' : decide (off < s.size) = true := by simp; omega) | (have hdl' : decide (off < s.size) = false := by simp; omega)
        clear hl
        go_wp2_with fail
        refine HK.out.mono ?_
        rintro e w3 ⟨rfl, rfl⟩
        go_wp2_with fail
        refine HKo.out.mono ?_
        rintro e w3 ⟨rfl, n1, rfl⟩
        go_wp2_with fail
        refine (HOf.out _).mono ?_
        rintro e w3 ⟨rfl, rfl⟩
        go_wp2_with fail
        refine (HEr.out _).mono ?_
        rintro e w3 ⟨rfl, rfl⟩
        go_wp2_with fail
        refine (HEn.out _).mono ?_
        rintro e w3 ⟨rfl, n2, rfl⟩
        rw [World.drewN_drewN]
        by_cases hlt : k < len
        · obtain ⟨b, o, z, rfl, hb, hcell⟩ := HC.out k hlt
          have hc2 : (wr.drewN (n1 + n2)).cell? ⟨b, o + k, none⟩ = some (.int .i64 z) := (HB.out.cell (p := ⟨b, o + k, none⟩) hb).trans hcell
          clear hcell
          have hkk : ((k : Int) == (len : Int)) = false := by simp; omega
          go_wp2_with fail
          refine (HSt.out _ _).mono ?_
          rintro e w5 ⟨o2, is, rfl, hs5, hk5⟩
          have ho2 := hs5.le
          have S5 := Lib.hid hs5
          have B5 : Hid (Below w.heap.size w w5) := (below_drewN HB.out _).trans (hk5.below hA (HS.out.drewN _).hi)
          clear hs5 hk5 hc2
          cases is
          · go_wp2
            go_roundw
            case rel => exact ⟨k + 1, o2, 2, by omega, ho2, by go_num, rfl, rfl, .inr rfl, S5.out, B5.out⟩
            case measure => simp [intOf]; omega
          · go_wp2
            go_roundw
            case rel => exact ⟨k + 1, o2, 0, by omega, ho2, by go_num, rfl, rfl, .inl rfl, S5.out, B5.out⟩
            case measure => simp [intOf]; omega
        · obtain rfl : k = len := by omega
          go_wp2
          go_ret
          exact ⟨rfl, below_drewN HB.out _⟩
    · -- behind an error
      have HK := Lib.hid (kindR_any s off wr hs)
      have HKo := Lib.hid (kind_err wr A s off 2 HS.out rfl)
      have HOf := Lib.hid (offset_any wr A s off 2 HS.out)
      have HEr := Lib.hid (err_any wr A s off 2 HS.out)
      have HEn := Lib.hid (end_err wr A s off 2 HS.out rfl)
      have HUn := Lib.hid (fun n => runsigned_err (wr.drewN n) A s off 2 (HS.out.drewN n) rfl)
      have HSi := Lib.hid (fun n => rsigned_err (wr.drewN n) A s off 2 (HS.out.drewN n) rfl)
      have HTe := Lib.hid (fun n => rtext_err (wr.drewN n) A s off 2 (HS.out.drewN n) rfl)
      have HLi := Lib.hid (fun n => rlist_err (wr.drewN n) A s off 2 (HS.out.drewN n) rfl)
      have HBo := Lib.hid (fun n => rbool_err (wr.drewN n) A s off 2 (HS.out.drewN n) rfl)
      generalize kindL (restL s off) = kk at HK
      go_wp2_with fail
      refine HK.out.mono ?_
      rintro e w3 ⟨rfl, rfl⟩
      go_wp2_with fail
      refine HKo.out.mono ?_
      rintro e w3 ⟨rfl, rfl⟩
      go_wp2_with fail
      refine HOf.out.mono ?_
      rintro e w3 ⟨rfl, rfl⟩
      go_wp2_with fail
      refine HEr.out.mono ?_
      rintro e w3 ⟨rfl, rfl⟩
      go_wp2_with fail
      refine HEn.out.mono ?_
      rintro e w3 ⟨rfl, n0, rfl⟩
      by_cases hlt : k < len
      · have hkk : ((k : Int) == (len : Int)) = false := by simp; omega
        go_wp2_with fail
        refine (HUn.out _).mono ?_
        rintro e w3 ⟨rfl, n1, rfl⟩
        rw [World.drewN_drewN]
        go_wp2_with fail
        refine (HSi.out _).mono ?_
        rintro e w3 ⟨rfl, n2, rfl⟩
        rw [World.drewN_drewN]
        go_wp2_with fail
        refine (HTe.out _).mono ?_
        rintro e w3 ⟨rfl, n3, rfl⟩
        rw [World.drewN_drewN]
        go_wp2_with fail
        refine (HLi.out _).mono ?_
        rintro e w3 ⟨rfl, n4, rfl⟩
        rw [World.drewN_drewN]
        go_wp2_with fail
        refine (HBo.out _).mono ?_
        rintro e w3 ⟨rfl, rfl⟩
        go_wp2
        go_roundw
        case rel => exact ⟨k + 1, off, 2, by omega, hoff, by go_num, rfl, rfl, .inr rfl, HS.out.drewN _, below_drewN HB.out _⟩
        case measure => simp [intOf]; omega
      · obtain rfl : k = len := by omega
        go_wp2
        go_ret
        exact ⟨rfl, below_drewN HB.out _⟩
end Go.Proofs.Ytlhgbnjflemiiaa
