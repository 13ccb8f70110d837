/- Contracts of the Reader's Null and Bool. -/
import Derived.Test.YtlhgbnjflemiiaaY
namespace Go.Proofs.Ytlhgbnjflemiiaa
open Go.RowKit

theorem kind_pos {s : ByteArray} {off : Nat} (h : kindL (restL s off) ≠ 0) : off < s.size := by
  rcases Nat.lt_or_ge off s.size with hl | hl
  · exact hl
  · exfalso; apply h
    have : restL s off = [] := List.eq_nil_of_length_eq_zero (by rw [restL_length]; omega)
    rw [this]; rfl

set_option maxHeartbeats 800000 in
theorem tb_err (w : World) (A : Nat) (s : ByteArray) (off : Nat) (er k : Int) (h : RS w A s off er) (he : (er == 0) = false) (hk : (0 == k) = false) :
    Calls Try.prog 52 #[.pointer (some ⟨A, 0, none⟩), .int .i64 k] w fun e w' => e = .returned (.int .u8 0) ∧ w = w' := by
  have HK := Lib.hid (kind_err w A s off er h he)
  have HA := Lib.hid (fun z => advance_err w A s off er z h he)
  clear h
  go_enter Try.func52, Try.ntmps52
  go_wp2_with fail
  refine HK.out.mono ?_
  rintro e w1 ⟨rfl, rfl⟩
  go_wp2_with fail
  refine (HA.out _).mono ?_
  rintro e w1 ⟨rfl, rfl⟩
  go_wp2
  go_ret
  exact ⟨rfl, rfl⟩
set_option maxHeartbeats 800000 in
theorem tb_no (w : World) (A : Nat) (s : ByteArray) (off : Nat) (k : Int) (h : RS w A s off 0) (hk : (kindL (restL s off) == k) = false) :
    Calls Try.prog 52 #[.pointer (some ⟨A, 0, none⟩), .int .i64 k] w fun e w' => e = .returned (.int .u8 0) ∧ RS w' A s off 2 ∧ RK A w w' := by
  have HK := Lib.hid (kind_ok w A s off h)
  have HA := Lib.hid (fun n => advance_no (w.drewN n) A s off (h.drewN n))
  clear h
  generalize kindL (restL s off) = kk at hk HK
  go_enter Try.func52, Try.ntmps52
  go_wp2_with fail
  refine HK.out.mono ?_
  rintro e w1 ⟨rfl, n, rfl⟩
  go_wp2_with fail
  refine (HA.out _).mono ?_
  rintro e w1 ⟨rfl, hs, hr⟩
  go_wp2
  go_ret
  exact ⟨rfl, hs, (RK.drewN A w n).trans hr⟩
set_option maxHeartbeats 800000 in
theorem tb_yes (w : World) (A : Nat) (s : ByteArray) (off : Nat) (k : Int) (h : RS w A s off 0) (hk : (kindL (restL s off) == k) = true) (hl : off < s.size) :
    Calls Try.prog 52 #[.pointer (some ⟨A, 0, none⟩), .int .i64 k] w fun e w' => e = .returned (.int .u8 s[off].toNat) ∧ RS w' A s (off + 1) 0 ∧ RK A w w' := by
  have HK := Lib.hid (kind_ok w A s off h)
  have HA : Hid (∀ n, Calls Try.prog 48 #[.pointer (some ⟨A, 0, none⟩), .int .i64 1] (w.drewN n) fun e w' => e = .returned (.bool true) ∧ RS w' A s (off + 1) 0 ∧ RK A (w.drewN n) w') := fun n => advance_yes (w.drewN n) A s off 1 (h.drewN n) (by omega) (by omega)
  have hbig := h.big
  clear h
  generalize kindL (restL s off) = kk at hk HK
  go_enter Try.func52, Try.ntmps52
  go_wp2_with fail
  refine HK.out.mono ?_
  rintro e w1 ⟨rfl, n, rfl⟩
  go_wp2_with fail
  refine (HA.out _).mono ?_
  rintro e w1 ⟨rfl, hs, hr⟩
  obtain ⟨hhi, c0, c1, c2, f1, f2, hle, _⟩ := hs
  have HS : Hid (RS w1 A s (off + 1) 0) := ⟨hhi, c0, c1, c2, f1, f2, hle, hbig⟩
  have HR := Lib.hid hr; clear hr
  have hx1 : IntKind.i64.wrap ((off : Int) + 1 - 1) = (off : Int) := by rw [IntWalk.i64_in _ (by omega)]; omega
  have hx2 : (0 : Int) ≤ (off : Int) := by omega
  have hx3 : (off : Int) < (s.size : Int) := by omega
  go_wp2
  go_quiet (fail)
  go_wp2
  go_ret
  exact ⟨rfl, HS.out.drewN _, ((RK.drewN A w n).trans HR.out).trans (RK.drewN A w1 _)⟩

set_option maxHeartbeats 400000 in
theorem rnull_err (w : World) (A : Nat) (s : ByteArray) (off : Nat) (er : Int) (h : RS w A s off er) (he : (er == 0) = false) :
    Calls Try.prog 44 #[.pointer (some ⟨A, 0, none⟩)] w fun e w' => e = .returned (.tuple #[]) ∧ w = w' := by
  have H := Lib.hid (tb_err w A s off er 1 h he rfl)
  clear h
  go_enter Try.func44, Try.ntmps44
  go_wp2_with fail
  refine H.out.mono ?_
  rintro e w1 ⟨rfl, rfl⟩
  go_wp2
  go_end0
  exact ⟨rfl, rfl⟩
set_option maxHeartbeats 400000 in
theorem rnull_no (w : World) (A : Nat) (s : ByteArray) (off : Nat) (h : RS w A s off 0) (hk : (kindL (restL s off) == 1) = false) :
    Calls Try.prog 44 #[.pointer (some ⟨A, 0, none⟩)] w fun e w' => e = .returned (.tuple #[]) ∧ RS w' A s off 2 ∧ RK A w w' := by
  have H := Lib.hid (tb_no w A s off 1 h hk)
  clear h
  go_enter Try.func44, Try.ntmps44
  go_wp2_with fail
  refine H.out.mono ?_
  rintro e w1 ⟨rfl, hs, hr⟩
  go_wp2
  go_end0
  exact ⟨rfl, hs, hr⟩
set_option maxHeartbeats 400000 in
theorem rnull_yes (w : World) (A : Nat) (s : ByteArray) (off : Nat) (h : RS w A s off 0) (hk : (kindL (restL s off) == 1) = true) (hl : off < s.size) :
    Calls Try.prog 44 #[.pointer (some ⟨A, 0, none⟩)] w fun e w' => e = .returned (.tuple #[]) ∧ RS w' A s (off + 1) 0 ∧ RK A w w' := by
  have H := Lib.hid (tb_yes w A s off 1 h hk hl)
  clear h
  generalize s[off].toNat = c at H
  go_enter Try.func44, Try.ntmps44
  go_wp2_with fail
  refine H.out.mono ?_
  rintro e w1 ⟨rfl, hs, hr⟩
  go_wp2
  go_end0
  exact ⟨rfl, hs, hr⟩
set_option maxHeartbeats 400000 in
theorem rbool_err (w : World) (A : Nat) (s : ByteArray) (off : Nat) (er : Int) (h : RS w A s off er) (he : (er == 0) = false) :
    Calls Try.prog 24 #[.pointer (some ⟨A, 0, none⟩)] w fun e w' => e = .returned (.bool false) ∧ w = w' := by
  have H := Lib.hid (tb_err w A s off er 2 h he rfl)
  clear h
  go_enter Try.func24, Try.ntmps24
  go_wp2_with fail
  refine H.out.mono ?_
  rintro e w1 ⟨rfl, rfl⟩
  go_wp2
  go_ret
  exact ⟨rfl, rfl⟩
set_option maxHeartbeats 400000 in
theorem rbool_no (w : World) (A : Nat) (s : ByteArray) (off : Nat) (h : RS w A s off 0) (hk : (kindL (restL s off) == 2) = false) :
    Calls Try.prog 24 #[.pointer (some ⟨A, 0, none⟩)] w fun e w' => e = .returned (.bool false) ∧ RS w' A s off 2 ∧ RK A w w' := by
  have H := Lib.hid (tb_no w A s off 2 h hk)
  clear h
  go_enter Try.func24, Try.ntmps24
  go_wp2_with fail
  refine H.out.mono ?_
  rintro e w1 ⟨rfl, hs, hr⟩
  go_wp2
  go_ret
  exact ⟨rfl, hs, hr⟩
set_option maxHeartbeats 400000 in
theorem rbool_yes (w : World) (A : Nat) (s : ByteArray) (off : Nat) (h : RS w A s off 0) (hk : (kindL (restL s off) == 2) = true) (hl : off < s.size) :
    Calls Try.prog 24 #[.pointer (some ⟨A, 0, none⟩)] w fun e w' => e = .returned (.bool (decide (s[off].toNat = 2))) ∧ RS w' A s (off + 1) 0 ∧ RK A w w' := by
  have H := Lib.hid (tb_yes w A s off 2 h hk hl)
  clear h
  generalize s[off].toNat = c at H ⊢
  have hc : decide (c = 2) = ((c : Int) == 2) := by
    by_cases h : c = 2
    · subst h; rfl
    · rw [decide_eq_false h, beq_eq_false_iff_ne.2 (by omega)]
  rw [hc]
  go_enter Try.func24, Try.ntmps24
  go_wp2_with fail
  refine H.out.mono ?_
  rintro e w1 ⟨rfl, hs, hr⟩
  go_wp2
  go_ret
  exact ⟨rfl, hs, hr⟩
end Go.Proofs.Ytlhgbnjflemiiaa
