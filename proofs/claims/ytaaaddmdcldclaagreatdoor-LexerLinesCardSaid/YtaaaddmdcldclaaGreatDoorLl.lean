/- The law LexerLines. -/
import Derived.Test.YtaaaddmdcldclaaGreatDoorNy
import Derived.Test.YtaaaddmdcldclaaGreatDoorNz
import Derived.BigQuiet
namespace Go.Proofs.YtaaaddmdcldclaaGreatDoor
open Go.RowKit Go.Shelf
set_option linter.unusedVariables false
set_option linter.unusedSimpArgs false

theorem ins_str_at {w : World} {a : Option Addr} {N : Nat} {L : List ByteArray} (hN : N = L.length) (h : InS w a N 1 (flat strL L)) (k : Nat) (x : ByteArray) (hx : L[k]? = some x) : ∃ b o, a = some ⟨b, o, none⟩ ∧ b < w.heap.size ∧ w.cell? ⟨b, o + k, none⟩ = some (.string x) := by
  subst hN
  have hk := (List.getElem?_eq_some_iff.1 hx).1
  obtain ⟨b, o, rfl, hb, hc⟩ := h.at strL_len (by omega)
  have h2 := hc k x hx 0 _ rfl
  rw [Nat.mul_one, Nat.add_zero] at h2
  exact ⟨b, o, rfl, hb, h2⟩

set_option maxHeartbeats 8000000 in
set_option maxRecDepth 100000 in
theorem lines_core (s : ByteArray) (L : List ByteArray) (c : Int) (w : World) (ht : Tab w) (hg : ¬ (3000 : Int) < (s.size : Int) ∨ ¬ (s.size : Int) ≤ 65536) (hlm : L.length ≤ 1000000) (h1 : ∀ w, Calls Tryz.prog 14 #[.string s] w fun e w' => StrsOut L c e w' ∧ Below w.heap.size w w') (h2 : ∀ w, Calls Tryz.prog 15 #[.string s] w fun e w' => StrsOut L c e w' ∧ Below w.heap.size w w') : Calls Tryz.prog 4 #[.string s] w fun e w' => e = .returned (.bool true) ∧ Below w.heap.size w w' := by
  have hg2 : (¬ (3000 : Int) < (s.size : Int)) ∨ ((3000 : Int) < (s.size : Int) ∧ ¬ (s.size : Int) ≤ 65536) := by omega
  clear hg
  rcases hg2 with k9 | ⟨k8, k9⟩
  · have HAW := Lib.hid (awake_yes w ht)
    have HL1 := Lib.hid h1
    have HL2 := Lib.hid h2
    obtain ⟨N, hN⟩ : ∃ N, N = L.length := ⟨_, rfl⟩
    have HN := Lib.hid hN
    have HLM := Lib.hid hlm
    clear h1 h2 ht hN hlm
    go_enter Tryz.func4, Tryz.ntmps4
    go_wp2_with fail
    refine HAW.out.mono ?_
    rintro e w1 ⟨rfl, hb⟩
    have HB1 := Lib.hid hb
    clear hb HAW
    go_wp2_with fail
    refine (HL1.out _).mono ?_
    rintro e w2 ⟨⟨a1, c1, rfl, hi⟩, hb⟩
    rw [← HN.out] at hi ⊢
    have HI1 := Lib.hid hi
    have HB2 := Lib.hid (HB1.out.trans (hb.mono HB1.out.size))
    clear hb hi HB1
    go_wp2_with fail
    refine (HL2.out _).mono ?_
    rintro e w3 ⟨⟨a2, c2, rfl, hi⟩, hb⟩
    rw [← HN.out] at hi ⊢
    have HI2 := Lib.hid hi
    have HI1 := Lib.hid (HI1.out.keep hb)
    have HB3 := Lib.hid (HB2.out.trans (hb.mono HB2.out.size))
    clear hb hi HB2
    go_wp2_with fail
    go_loopw [7] (fun iv wr => ∃ k : Nat, k ≤ N ∧ iv = .int .i64 k ∧ Hid (Below w3.heap.size w3 wr)) (fun iv _ => N - (intOf iv).toNat)
    case atStart => exact ⟨0, Nat.zero_le _, rfl, Lib.hid (Below.refl _ _)⟩
    case round =>
      obtain ⟨k, hk, rfl, hH⟩ := hrel
      by_cases hlt : k < N
      · obtain ⟨x, hx⟩ : ∃ x, L[k]? = some x := ⟨_, List.getElem?_eq_getElem (by rw [← HN.out]; exact hlt)⟩
        obtain ⟨b1, o1, rfl, hl1, x1⟩ := ins_str_at HN.out HI1.out k x hx
        obtain ⟨b2, o2, rfl, hl2, x2⟩ := ins_str_at HN.out HI2.out k x hx
        have y1 : wr.cell? ⟨b1, o1 + k, none⟩ = some (.string x) := (hH.out.cell (p := ⟨b1, o1 + k, none⟩) hl1).trans x1
        have y2 : wr.cell? ⟨b2, o2 + k, none⟩ = some (.string x) := (hH.out.cell (p := ⟨b2, o2 + k, none⟩) hl2).trans x2
        have k1 : (0 : Int) ≤ (k : Int) := by omega
        have k2 : (k : Int) < (N : Int) := by omega
        have w1' : IntKind.i64.wrap ((k : Int) + 1) = (k : Int) + 1 := IntWalk.i64_in _ (by have := HLM.out; have := HN.out; omega)
        clear x1 x2 hx hl1 hl2
        go_wp2_with fail
        go_quiet (fail)
        rename_i nq
        go_wp2_with fail
        go_roundw
        case rel => exact ⟨k + 1, by omega, by go_num, Lib.hid (bdrewN hH.out _)⟩
        case measure => (simp [intOf]) <;> omega
      · obtain rfl : k = N := by omega
        have HB4 := Lib.hid (HB3.out.trans (hH.out.mono HB3.out.size))
        clear hH
        go_wp2_with fail
        go_ret
        exact ⟨rfl, HB4.out⟩
  · have HAW := Lib.hid (awake_yes w ht)
    have HL1 := Lib.hid h1
    have HL2 := Lib.hid h2
    obtain ⟨N, hN⟩ : ∃ N, N = L.length := ⟨_, rfl⟩
    have HN := Lib.hid hN
    have HLM := Lib.hid hlm
    clear h1 h2 ht hN hlm
    go_enter Tryz.func4, Tryz.ntmps4
    go_wp2_with fail
    refine HAW.out.mono ?_
    rintro e w1 ⟨rfl, hb⟩
    have HB1 := Lib.hid hb
    clear hb HAW
    go_wp2_with fail
    refine (HL1.out _).mono ?_
    rintro e w2 ⟨⟨a1, c1, rfl, hi⟩, hb⟩
    rw [← HN.out] at hi ⊢
    have HI1 := Lib.hid hi
    have HB2 := Lib.hid (HB1.out.trans (hb.mono HB1.out.size))
    clear hb hi HB1
    go_wp2_with fail
    refine (HL2.out _).mono ?_
    rintro e w3 ⟨⟨a2, c2, rfl, hi⟩, hb⟩
    rw [← HN.out] at hi ⊢
    have HI2 := Lib.hid hi
    have HI1 := Lib.hid (HI1.out.keep hb)
    have HB3 := Lib.hid (HB2.out.trans (hb.mono HB2.out.size))
    clear hb hi HB2
    go_wp2_with fail
    go_loopw [7] (fun iv wr => ∃ k : Nat, k ≤ N ∧ iv = .int .i64 k ∧ Hid (Below w3.heap.size w3 wr)) (fun iv _ => N - (intOf iv).toNat)
    case atStart => exact ⟨0, Nat.zero_le _, rfl, Lib.hid (Below.refl _ _)⟩
    case round =>
      obtain ⟨k, hk, rfl, hH⟩ := hrel
      by_cases hlt : k < N
      · obtain ⟨x, hx⟩ : ∃ x, L[k]? = some x := ⟨_, List.getElem?_eq_getElem (by rw [← HN.out]; exact hlt)⟩
        obtain ⟨b1, o1, rfl, hl1, x1⟩ := ins_str_at HN.out HI1.out k x hx
        obtain ⟨b2, o2, rfl, hl2, x2⟩ := ins_str_at HN.out HI2.out k x hx
        have y1 : wr.cell? ⟨b1, o1 + k, none⟩ = some (.string x) := (hH.out.cell (p := ⟨b1, o1 + k, none⟩) hl1).trans x1
        have y2 : wr.cell? ⟨b2, o2 + k, none⟩ = some (.string x) := (hH.out.cell (p := ⟨b2, o2 + k, none⟩) hl2).trans x2
        have k1 : (0 : Int) ≤ (k : Int) := by omega
        have k2 : (k : Int) < (N : Int) := by omega
        have w1' : IntKind.i64.wrap ((k : Int) + 1) = (k : Int) + 1 := IntWalk.i64_in _ (by have := HLM.out; have := HN.out; omega)
        clear x1 x2 hx hl1 hl2
        go_wp2_with fail
        go_quiet (fail)
        rename_i nq
        go_wp2_with fail
        go_roundw
        case rel => exact ⟨k + 1, by omega, by go_num, Lib.hid (bdrewN hH.out _)⟩
        case measure => (simp [intOf]) <;> omega
      · obtain rfl : k = N := by omega
        have HB4 := Lib.hid (HB3.out.trans (hH.out.mono HB3.out.size))
        clear hH
        go_wp2_with fail
        go_ret
        exact ⟨rfl, HB4.out⟩

theorem lines_law (s : ByteArray) (w : World) (ht : Tab w) : Calls Tryz.prog 4 #[.string s] w fun e w' => e = .returned (.bool true) ∧ Below w.heap.size w w' := by
  by_cases h1 : 65536 < s.size
  · exact lines_core s [] 7 w ht (.inr (by omega)) (by simp) (fun w => lines_big s h1 w) (fun w => rlines_big s h1 w)
  by_cases h2 : 3000 < s.size
  · have HAW := Lib.hid (awake_yes w ht)
    have k8 : (3000 : Int) < (s.size : Int) := by omega
    have k9 : (s.size : Int) ≤ 65536 := by omega
    clear h1 h2 ht
    go_enter Tryz.func4, Tryz.ntmps4
    go_wp2_with fail
    refine HAW.out.mono ?_
    rintro e w1 ⟨rfl, hb⟩
    have HB1 := Lib.hid hb
    clear hb HAW
    go_wp2_with fail
    go_ret
    exact ⟨rfl, HB1.out⟩
  · refine lines_core s (linesL s) 0 w ht (.inl (by omega)) ?_ (fun w => lines_any s (by omega) w) (fun w => rlines_any s (by omega) w)
    have hcl := Lib.countB_le ⟨#[10]⟩ (Nat.le_refl 1) s.size s (Nat.le_refl _)
    have hl := splN_len s
    unfold linesL
    split
    · rw [List.length_take]; omega
    · omega
end Go.Proofs.YtaaaddmdcldclaaGreatDoor
