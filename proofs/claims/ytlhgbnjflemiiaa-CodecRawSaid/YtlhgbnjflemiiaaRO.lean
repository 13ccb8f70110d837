/- Contract of the law's step, at Null, Bool and what is no kind. -/
import Derived.Test.YtlhgbnjflemiiaaRN
namespace Go.Proofs.Ytlhgbnjflemiiaa
open Go.RowKit

set_option maxHeartbeats 1000000 in
theorem step_null_yes (w : World) (A : Nat) (s : ByteArray) (off : Nat) (h : RS w A s off 0) (hl : off < s.size) (hc : s[off].toNat = 0) :
    Calls Try.prog 25 #[.pointer (some ⟨A, 0, none⟩), .string s, .int .i64 off, .int .i64 1] w (StepPost A s w) := by
  have hk : (kindL (restL s off) == 1) = true := by rw [kindL_rest s off hl]; exact beq_iff_eq.2 ((kindC1 _).2 hc)
  have HR := Lib.hid (rnull_yes w A s off h hk hl)
  have hbig := h.big
  have hd : decide ((off : Int) < (s.size : Int)) = true := by simp; omega
  have hx : ((s[off].toNat : Int) == 0) = true := by simp; omega
  clear h hk hc
  go_enter Try.func25, Try.ntmps25
  go_wp2_with fail
  refine HR.out.mono ?_
  rintro e w2 ⟨rfl, hs, hk⟩
  have S2 := Lib.hid hs; have K2 := Lib.hid hk; clear hs hk
  go_wp2
  go_quiet (fail)
  go_wp2
  go_ret3
  exact ⟨off + 1, true, by simp, S2.out.drewN _, K2.out.trans (RK.drewN A _ _)⟩
set_option maxHeartbeats 1000000 in
theorem step_null_end (w : World) (A : Nat) (s : ByteArray) (off : Nat) (h : RS w A s off 0) (hl : s.size ≤ off) :
    Calls Try.prog 25 #[.pointer (some ⟨A, 0, none⟩), .string s, .int .i64 off, .int .i64 1] w (StepPost A s w) := by
  have hk : (kindL (restL s off) == 1) = false := by rw [restL_nil s off hl]; rfl
  have HR := Lib.hid (rnull_no w A s off h hk)
  have hbig := h.big
  have hle := h.le
  have hd : decide ((off : Int) < (s.size : Int)) = false := by simp; omega
  have hd' : decide (off < s.size) = false := by simp; omega
  clear h hk hl hle
  go_enter Try.func25, Try.ntmps25
  go_wp2_with fail
  refine HR.out.mono ?_
  rintro e w2 ⟨rfl, hs, hk⟩
  have S2 := Lib.hid hs; have K2 := Lib.hid hk; clear hs hk
  go_wp2
  go_quiet (fail)
  go_wp2
  go_ret3
  exact ⟨off, false, by simp, S2.out.drewN _, K2.out.trans (RK.drewN A _ _)⟩
set_option maxHeartbeats 1000000 in
theorem step_null_no (w : World) (A : Nat) (s : ByteArray) (off : Nat) (h : RS w A s off 0) (hl : off < s.size) (hc : s[off].toNat ≠ 0) :
    Calls Try.prog 25 #[.pointer (some ⟨A, 0, none⟩), .string s, .int .i64 off, .int .i64 1] w (StepPost A s w) := by
  have hk : (kindL (restL s off) == 1) = false := by rw [kindL_rest s off hl]; exact beq_eq_false_iff_ne.2 (fun h => hc ((kindC1 _).1 h))
  have HR := Lib.hid (rnull_no w A s off h hk)
  have hbig := h.big
  have hd : decide ((off : Int) < (s.size : Int)) = true := by simp; omega
  have hx : ((s[off].toNat : Int) == 0) = false := by simp; omega
  clear h hk hc
  go_enter Try.func25, Try.ntmps25
  go_wp2_with fail
  refine HR.out.mono ?_
  rintro e w2 ⟨rfl, hs, hk⟩
  have S2 := Lib.hid hs; have K2 := Lib.hid hk; clear hs hk
  go_wp2
  go_quiet (fail)
  go_wp2
  go_ret3
  exact ⟨off, false, by simp, S2.out.drewN _, K2.out.trans (RK.drewN A _ _)⟩

set_option maxHeartbeats 1000000 in
theorem step_bool_1 (w : World) (A : Nat) (s : ByteArray) (off : Nat) (h : RS w A s off 0) (hl : off < s.size) (hc : s[off].toNat = 1) :
    Calls Try.prog 25 #[.pointer (some ⟨A, 0, none⟩), .string s, .int .i64 off, .int .i64 2] w (StepPost A s w) := by
  have hk : (kindL (restL s off) == 2) = true := by rw [kindL_rest s off hl]; exact beq_iff_eq.2 ((kindC2 _).2 (.inl hc))
  have HR0 := rbool_yes w A s off h hk hl
  rw [decide_eq_false (show ¬ s[off].toNat = 2 by omega)] at HR0
  have HR := Lib.hid HR0
  have hbig := h.big
  have hd : decide ((off : Int) < (s.size : Int)) = true := by simp; omega
  have hx : ((s[off].toNat : Int) == 1) = true := by simp; omega
  have hy : ((s[off].toNat : Int) == 2) = false := by simp; omega
  clear h hk hc HR0
  go_enter Try.func25, Try.ntmps25
  go_wp2_with fail
  refine HR.out.mono ?_
  rintro e w2 ⟨rfl, hs, hk⟩
  have S2 := Lib.hid hs; have K2 := Lib.hid hk; clear hs hk
  go_wp2
  go_quiet (fail)
  go_wp2
  go_ret3
  exact ⟨off + 1, true, by simp, S2.out.drewN _, K2.out.trans (RK.drewN A _ _)⟩
set_option maxHeartbeats 1000000 in
theorem step_bool_2 (w : World) (A : Nat) (s : ByteArray) (off : Nat) (h : RS w A s off 0) (hl : off < s.size) (hc : s[off].toNat = 2) :
    Calls Try.prog 25 #[.pointer (some ⟨A, 0, none⟩), .string s, .int .i64 off, .int .i64 2] w (StepPost A s w) := by
  have hk : (kindL (restL s off) == 2) = true := by rw [kindL_rest s off hl]; exact beq_iff_eq.2 ((kindC2 _).2 (.inr hc))
  have HR0 := rbool_yes w A s off h hk hl
  rw [decide_eq_true (show s[off].toNat = 2 by omega)] at HR0
  have HR := Lib.hid HR0
  have hbig := h.big
  have hd : decide ((off : Int) < (s.size : Int)) = true := by simp; omega
  have hx : ((s[off].toNat : Int) == 1) = false := by simp; omega
  have hy : ((s[off].toNat : Int) == 2) = true := by simp; omega
  clear h hk hc HR0
  go_enter Try.func25, Try.ntmps25
  go_wp2_with fail
  refine HR.out.mono ?_
  rintro e w2 ⟨rfl, hs, hk⟩
  have S2 := Lib.hid hs; have K2 := Lib.hid hk; clear hs hk
  go_wp2
  go_quiet (fail)
  go_wp2
  go_ret3
  exact ⟨off + 1, true, by simp, S2.out.drewN _, K2.out.trans (RK.drewN A _ _)⟩
set_option maxHeartbeats 1000000 in
theorem step_bool_end (w : World) (A : Nat) (s : ByteArray) (off : Nat) (h : RS w A s off 0) (hl : s.size ≤ off) :
    Calls Try.prog 25 #[.pointer (some ⟨A, 0, none⟩), .string s, .int .i64 off, .int .i64 2] w (StepPost A s w) := by
  have hk : (kindL (restL s off) == 2) = false := by rw [restL_nil s off hl]; rfl
  have HR := Lib.hid (rbool_no w A s off h hk)
  have hbig := h.big
  have hle := h.le
  have hd : decide ((off : Int) < (s.size : Int)) = false := by simp; omega
  have hd' : decide (off < s.size) = false := by simp; omega
  clear h hk hl hle
  go_enter Try.func25, Try.ntmps25
  go_wp2_with fail
  refine HR.out.mono ?_
  rintro e w2 ⟨rfl, hs, hk⟩
  have S2 := Lib.hid hs; have K2 := Lib.hid hk; clear hs hk
  go_wp2
  go_quiet (fail)
  go_wp2
  go_ret3
  exact ⟨off, false, by simp, S2.out.drewN _, K2.out.trans (RK.drewN A _ _)⟩
set_option maxHeartbeats 1000000 in
theorem step_bool_no (w : World) (A : Nat) (s : ByteArray) (off : Nat) (h : RS w A s off 0) (hl : off < s.size) (hc : s[off].toNat ≠ 1) (hc2 : s[off].toNat ≠ 2) :
    Calls Try.prog 25 #[.pointer (some ⟨A, 0, none⟩), .string s, .int .i64 off, .int .i64 2] w (StepPost A s w) := by
  have hk : (kindL (restL s off) == 2) = false := by rw [kindL_rest s off hl]; exact beq_eq_false_iff_ne.2 (fun h => by rcases (kindC2 _).1 h with h | h <;> omega)
  have HR := Lib.hid (rbool_no w A s off h hk)
  have hbig := h.big
  have hd : decide ((off : Int) < (s.size : Int)) = true := by simp; omega
  have hx : ((s[off].toNat : Int) == 1) = false := by simp; omega
  have hy : ((s[off].toNat : Int) == 2) = false := by simp; omega
  clear h hk hc hc2
  go_enter Try.func25, Try.ntmps25
  go_wp2_with fail
  refine HR.out.mono ?_
  rintro e w2 ⟨rfl, hs, hk⟩
  have S2 := Lib.hid hs; have K2 := Lib.hid hk; clear hs hk
  go_wp2
  go_quiet (fail)
  go_wp2
  go_ret3
  exact ⟨off, false, by simp, S2.out.drewN _, K2.out.trans (RK.drewN A _ _)⟩

set_option maxHeartbeats 1000000 in
theorem step_other (w : World) (A : Nat) (s : ByteArray) (off : Nat) (k : Int) (h : RS w A s off 0) (h1 : (k == 1) = false) (h2 : (k == 2) = false) (h3 : (k == 3) = false) (h4 : (k == 4) = false) (h5 : (k == 5) = false) (h6 : (k == 6) = false) :
    Calls Try.prog 25 #[.pointer (some ⟨A, 0, none⟩), .string s, .int .i64 off, .int .i64 k] w (StepPost A s w) := by
  have HH := Lib.hid h
  clear h
  go_enter Try.func25, Try.ntmps25
  go_wp2
  go_ret3
  exact ⟨off, true, rfl, HH.out, RK.refl _ _⟩

theorem step_any (w : World) (A : Nat) (s : ByteArray) (off : Nat) (k : Int) (h : RS w A s off 0) :
    Calls Try.prog 25 #[.pointer (some ⟨A, 0, none⟩), .string s, .int .i64 off, .int .i64 k] w (StepPost A s w) := by
  by_cases k1 : k = 1
  · subst k1
    rcases Nat.lt_or_ge off s.size with hl | hl
    · by_cases hc : s[off].toNat = 0
      · exact step_null_yes w A s off h hl hc
      · exact step_null_no w A s off h hl hc
    · exact step_null_end w A s off h hl
  by_cases k2 : k = 2
  · subst k2
    rcases Nat.lt_or_ge off s.size with hl | hl
    · by_cases hc : s[off].toNat = 1
      · exact step_bool_1 w A s off h hl hc
      · by_cases hc2 : s[off].toNat = 2
        · exact step_bool_2 w A s off h hl hc2
        · exact step_bool_no w A s off h hl hc hc2
    · exact step_bool_end w A s off h hl
  by_cases k3 : k = 3
  · subst k3; exact step_unsigned w A s off h
  by_cases k4 : k = 4
  · subst k4; exact step_signed w A s off h
  by_cases k5 : k = 5
  · subst k5; exact step_text w A s off h
  by_cases k6 : k = 6
  · subst k6; exact step_list w A s off h
  exact step_other w A s off k h (beq_eq_false_iff_ne.2 k1) (beq_eq_false_iff_ne.2 k2) (beq_eq_false_iff_ne.2 k3) (beq_eq_false_iff_ne.2 k4) (beq_eq_false_iff_ne.2 k5) (beq_eq_false_iff_ne.2 k6)
end Go.Proofs.Ytlhgbnjflemiiaa
