/- Contracts of the specification's Day, Of and Week. -/
import Derived.Test.YtnlkalnpmnnadaaDoorC
namespace Go.Proofs.YtnlkalnpmnnadaaDoor
open Go.RowKit

/-- for every date of the calendar, and for the first months of the next year -/
structure Near (y m d : Int) : Prop where
  y1 : 2000 ≤ y
  y2 : y ≤ 2200
  m1 : 1 ≤ m
  m2 : m ≤ 12
  d1 : -100000 ≤ d
  d2 : d ≤ 100000
theorem IsD.near {y m d : Int} (h : IsD y m d) : Near y m d := by
  have := dim_range y m h.m1 h.m2
  have := h.d1; have := h.d2; have := h.y2
  exact ⟨h.y1, by omega, h.m1, h.m2, by omega, by omega⟩

set_option maxHeartbeats 1000000 in
theorem rday_any (y m d : Int) (w : World) (h : Near y m d) :
    Calls Tryd.prog 20 #[dateV y m d] w fun e w' => e = .returned (.int .i64 (numD y m d)) ∧ Below w.heap.size w w' := by
  obtain ⟨y1, y2, m1, m2, d1, d2⟩ := h
  have HL := Lib.hid fun y w => rleap_any y w
  have HI := Lib.hid fun m w => rdaysIn_any y m w
  have hn : numD y m d = nY y + bef y m + d - 1 := rfl
  have HN := Lib.hid hn
  clear hn
  go_enter Tryd.func20, Tryd.ntmps20
  go_wp2_with fail
  go_loop [3, 4] (fun n i => ∃ k : Int, 2000 ≤ k ∧ k ≤ y ∧ i = .int .i64 k ∧ n = .int .i64 (d - 1 + nY k)) (fun _ i => (2300 - intOf i).toNat)
  case atStart => exact ⟨2000, by omega, by omega, rfl, by rw [nY_2000]; go_num⟩
  case round =>
    obtain ⟨k, k1, k2, rfl, rfl⟩ := hrel
    have hs := nY_succ k
    have hr := nY_range k (by omega) (by omega)
    obtain ⟨a, ha⟩ : ∃ a, a = nY k := ⟨_, rfl⟩
    rw [← ha] at hs hr ⊢
    have HA := Lib.hid ha
    clear ha
    by_cases hlt : k < y
    · have HLk := Lib.hid fun w => HL.out k w
      cases hl : leapB k
      · rw [hl] at HLk
        rw [lp_false hl] at hs
        have HS := Lib.hid hs
        clear hl hs
        go_wp2_with fail
        refine (HLk.out _).mono ?_
        rintro e w' ⟨rfl, rfl⟩
        go_wp2_with fail
        go_round
        case rel => exact ⟨k + 1, by omega, by omega, rfl, by rw [HS.out]; go_num⟩
        case measure => simp [intOf]; omega
      · rw [hl] at HLk
        rw [lp_true hl] at hs
        have HS := Lib.hid hs
        clear hl hs
        go_wp2_with fail
        refine (HLk.out _).mono ?_
        rintro e w' ⟨rfl, rfl⟩
        go_wp2_with fail
        go_round
        case rel => exact ⟨k + 1, by omega, by omega, rfl, by rw [HS.out]; go_num⟩
        case measure => simp [intOf]; omega
    · obtain rfl : k = y := by omega
      clear hs
      go_wp2_with fail
      go_loop [3, 5] (fun n i => ∃ j : Int, 1 ≤ j ∧ j ≤ m ∧ i = .int .i64 j ∧ n = .int .i64 (d - 1 + a + bef k j)) (fun _ i => (13 - intOf i).toNat)
      case atStart => exact ⟨1, by omega, by omega, rfl, by rw [bef_one]; go_num⟩
      case round =>
        obtain ⟨j, j1, j2, rfl, rfl⟩ := hrel
        have hs := bef_succ k j j1 (by omega)
        have hr2 := bef_range k j j1 (by omega)
        have hd := dim_range k j j1 (by omega)
        have HIj := Lib.hid fun w => HI.out j w
        obtain ⟨b, hb⟩ : ∃ b, b = bef k j := ⟨_, rfl⟩
        obtain ⟨c, hc⟩ : ∃ c, c = dim k j := ⟨_, rfl⟩
        rw [← hb, ← hc] at hs
        rw [← hb] at hr2 ⊢
        rw [← hc] at HIj hd
        have HB := Lib.hid hb
        have HS := Lib.hid hs
        clear hb hc hs
        by_cases hlt2 : j < m
        · go_wp2_with fail
          refine (HIj.out _).mono ?_
          rintro e w' ⟨rfl, rfl⟩
          go_wp2_with fail
          go_round
          case rel => exact ⟨j + 1, by omega, by omega, rfl, by rw [HS.out]; go_num⟩
          case measure => simp [intOf]; omega
        · obtain rfl : j = m := by omega
          go_wp2_with fail
          go_ret
          exact ⟨ret_int (by rw [HN.out, ← HA.out, ← HB.out]; omega), (Below.refl _ _).alloc (Nat.le_refl _) _⟩
end Go.Proofs.YtnlkalnpmnnadaaDoor
