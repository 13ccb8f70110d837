/- Contract of the law's step. -/
import Derived.Test.YtlhgbnjflemiiaaRJ
import Derived.Test.YtlhgbnjflemiiaaZ
namespace Go.Proofs.Ytlhgbnjflemiiaa
open Go.RowKit

theorem RS.ofBelow {w w1 : World} {A : Nat} {s : ByteArray} {off : Nat} {er : Int} (h : RS w A s off er) (hb : Below w.heap.size w w1) : RS w1 A s off er :=
  ⟨Nat.lt_of_lt_of_le h.hi hb.size, (hb.cell (p := ⟨A, 0, none⟩) h.hi).trans h.c0, (hb.cell (p := ⟨A, 1, none⟩) h.hi).trans h.c1, (hb.cell (p := ⟨A, 2, none⟩) h.hi).trans h.c2, (hb.frozen (p := ⟨A, 1, none⟩) h.hi).trans h.f1, (hb.frozen (p := ⟨A, 2, none⟩) h.hi).trans h.f2, h.le, h.big⟩
theorem RK.ofBelow {w w1 : World} (A : Nat) (hb : Below w.heap.size w w1) : RK A w w1 := ⟨hb.os, hb.tape, hb.output, hb.size, fun k hk _ => hb.block k hk⟩
theorem kindC1 (c : Nat) : kindC c = 1 ↔ c = 0 := by unfold kindC; (repeat' split) <;> constructor <;> intro h <;> omega
theorem kindC2 (c : Nat) : kindC c = 2 ↔ c = 1 ∨ c = 2 := by unfold kindC; (repeat' split) <;> constructor <;> intro h <;> omega

/-- what step answers: the Reader is where the specification is -/
def StepPost (A : Nat) (s : ByteArray) (w : World) (e : Ending) (w' : World) : Prop :=
  ∃ (o2 : Nat) (is : Bool), e = .returned (.tuple #[.int .i64 o2, .bool is, .bool true]) ∧ RS w' A s o2 (if is then 0 else 2) ∧ RK A w w'

set_option maxHeartbeats 1000000 in
theorem step_unsigned (w : World) (A : Nat) (s : ByteArray) (off : Nat) (h : RS w A s off 0) :
    Calls Try.prog 25 #[.pointer (some ⟨A, 0, none⟩), .string s, .int .i64 off, .int .i64 3] w (StepPost A s w) := by
  have HU := readU_any s off w h.big (by have := h.big; have := h.le; omega)
  have HH := Lib.hid h
  have hbig := h.big
  have hle := h.le
  by_cases hz : (tkU (restL s off)).2 = 0
  · have HR := Lib.hid (fun w1 (hb : Below w.heap.size w w1) => runsigned_no w1 A s off (h.ofBelow hb) hz)
    rw [if_pos hz] at HU
    have H1 := Lib.hid HU
    clear h HU hz
    go_enter Try.func25, Try.ntmps25
    go_wp2_with fail
    refine H1.out.mono ?_
    rintro e w1 ⟨rfl, hb⟩
    have B1 := Lib.hid hb; clear hb
    go_wp2_with fail
    refine (HR.out _ B1.out).mono ?_
    rintro e w2 ⟨rfl, hs, hk⟩
    have S2 := Lib.hid hs; have K2 := Lib.hid hk; clear hs hk
    go_wp2
    go_ret3
    exact ⟨off, false, rfl, S2.out, (RK.ofBelow A B1.out).trans K2.out⟩
  · have HR := Lib.hid (fun w1 (hb : Below w.heap.size w w1) => runsigned_yes w1 A s off (h.ofBelow hb) hz)
    rw [if_neg hz] at HU
    obtain ⟨o2, ho2⟩ : ∃ o2, o2 = off + (tkU (restL s off)).2 := ⟨_, rfl⟩
    rw [← ho2] at HU HR
    clear ho2
    generalize (tkU (restL s off)).1 = vv at HU HR
    have H1 := Lib.hid HU
    clear h HU hz
    go_enter Try.func25, Try.ntmps25
    go_wp2_with fail
    refine H1.out.mono ?_
    rintro e w1 ⟨rfl, hb⟩
    have B1 := Lib.hid hb; clear hb
    go_wp2_with fail
    refine (HR.out _ B1.out).mono ?_
    rintro e w2 ⟨rfl, hs, hk⟩
    have S2 := Lib.hid hs; have K2 := Lib.hid hk; clear hs hk
    go_wp2
    go_ret3
    exact ⟨o2, true, by simp, S2.out, (RK.ofBelow A B1.out).trans K2.out⟩

set_option maxHeartbeats 1000000 in
theorem step_signed (w : World) (A : Nat) (s : ByteArray) (off : Nat) (h : RS w A s off 0) :
    Calls Try.prog 25 #[.pointer (some ⟨A, 0, none⟩), .string s, .int .i64 off, .int .i64 4] w (StepPost A s w) := by
  have HU := readS_any s off w h.big (by have := h.big; have := h.le; omega)
  have HH := Lib.hid h
  have hbig := h.big
  have hle := h.le
  by_cases hz : (tkS (restL s off)).2 = 0
  · have HR := Lib.hid (fun w1 (hb : Below w.heap.size w w1) => rsigned_no w1 A s off (h.ofBelow hb) hz)
    rw [if_pos hz] at HU
    have H1 := Lib.hid HU
    clear h HU hz
    go_enter Try.func25, Try.ntmps25
    go_wp2_with fail
    refine H1.out.mono ?_
    rintro e w1 ⟨rfl, hb⟩
    have B1 := Lib.hid hb; clear hb
    go_wp2_with fail
    refine (HR.out _ B1.out).mono ?_
    rintro e w2 ⟨rfl, hs, hk⟩
    have S2 := Lib.hid hs; have K2 := Lib.hid hk; clear hs hk
    go_wp2
    go_ret3
    exact ⟨off, false, rfl, S2.out, (RK.ofBelow A B1.out).trans K2.out⟩
  · have HR := Lib.hid (fun w1 (hb : Below w.heap.size w w1) => rsigned_yes w1 A s off (h.ofBelow hb) hz)
    rw [if_neg hz] at HU
    obtain ⟨o2, ho2⟩ : ∃ o2, o2 = off + (tkS (restL s off)).2 := ⟨_, rfl⟩
    rw [← ho2] at HU HR
    clear ho2
    generalize (tkS (restL s off)).1 = vv at HU HR
    have H1 := Lib.hid HU
    clear h HU hz
    go_enter Try.func25, Try.ntmps25
    go_wp2_with fail
    refine H1.out.mono ?_
    rintro e w1 ⟨rfl, hb⟩
    have B1 := Lib.hid hb; clear hb
    go_wp2_with fail
    refine (HR.out _ B1.out).mono ?_
    rintro e w2 ⟨rfl, hs, hk⟩
    have S2 := Lib.hid hs; have K2 := Lib.hid hk; clear hs hk
    go_wp2
    go_ret3
    exact ⟨o2, true, by simp, S2.out, (RK.ofBelow A B1.out).trans K2.out⟩

set_option maxHeartbeats 1000000 in
theorem step_text (w : World) (A : Nat) (s : ByteArray) (off : Nat) (h : RS w A s off 0) :
    Calls Try.prog 25 #[.pointer (some ⟨A, 0, none⟩), .string s, .int .i64 off, .int .i64 5] w (StepPost A s w) := by
  have HU := readT_any s off w h.big
  have HH := Lib.hid h
  have hbig := h.big
  have hle := h.le
  by_cases hz : tkTn (restL s off) = 0
  · have HR := Lib.hid (fun w1 (hb : Below w.heap.size w w1) => rtext_no w1 A s off (h.ofBelow hb) hz)
    rw [if_pos hz] at HU
    have H1 := Lib.hid HU
    clear h HU hz
    go_enter Try.func25, Try.ntmps25
    go_wp2_with fail
    refine H1.out.mono ?_
    rintro e w1 ⟨rfl, hb⟩
    have B1 := Lib.hid hb; clear hb
    go_wp2_with fail
    refine (HR.out _ B1.out).mono ?_
    rintro e w2 ⟨rfl, hs, hk⟩
    have S2 := Lib.hid hs; have K2 := Lib.hid hk; clear hs hk
    go_wp2
    go_ret3
    exact ⟨off, false, rfl, S2.out, (RK.ofBelow A B1.out).trans K2.out⟩
  · have HR := Lib.hid (fun w1 (hb : Below w.heap.size w w1) => rtext_yes w1 A s off (h.ofBelow hb) hz)
    rw [if_neg hz] at HU
    obtain ⟨o2, ho2⟩ : ∃ o2, o2 = off + tkTn (restL s off) := ⟨_, rfl⟩
    rw [← ho2] at HU HR
    clear ho2
    generalize tkTs (s.extract off s.size) = vv at HU HR
    have H1 := Lib.hid HU
    clear h HU hz
    go_enter Try.func25, Try.ntmps25
    go_wp2_with fail
    refine H1.out.mono ?_
    rintro e w1 ⟨rfl, hb⟩
    have B1 := Lib.hid hb; clear hb
    go_wp2_with fail
    refine (HR.out _ B1.out).mono ?_
    rintro e w2 ⟨rfl, hs, hk⟩
    have S2 := Lib.hid hs; have K2 := Lib.hid hk; clear hs hk
    go_wp2
    go_ret3
    exact ⟨o2, true, by simp, S2.out, (RK.ofBelow A B1.out).trans K2.out⟩

set_option maxHeartbeats 1000000 in
theorem step_list (w : World) (A : Nat) (s : ByteArray) (off : Nat) (h : RS w A s off 0) :
    Calls Try.prog 25 #[.pointer (some ⟨A, 0, none⟩), .string s, .int .i64 off, .int .i64 6] w (StepPost A s w) := by
  have HU := readH_any s off w h.big
  have HH := Lib.hid h
  have hbig := h.big
  have hle := h.le
  by_cases hz : (tkH (restL s off) 6).2 = 0
  · have HR := Lib.hid (fun w1 (hb : Below w.heap.size w w1) => rlist_no w1 A s off (h.ofBelow hb) hz)
    rw [if_pos hz] at HU
    have H1 := Lib.hid HU
    clear h HU hz
    go_enter Try.func25, Try.ntmps25
    go_wp2_with fail
    refine H1.out.mono ?_
    rintro e w1 ⟨rfl, hb⟩
    have B1 := Lib.hid hb; clear hb
    go_wp2_with fail
    refine (HR.out _ B1.out).mono ?_
    rintro e w2 ⟨rfl, hs, hk⟩
    have S2 := Lib.hid hs; have K2 := Lib.hid hk; clear hs hk
    go_wp2
    go_ret3
    exact ⟨off, false, rfl, S2.out, (RK.ofBelow A B1.out).trans K2.out⟩
  · have HR := Lib.hid (fun w1 (hb : Below w.heap.size w w1) => rlist_yes w1 A s off (h.ofBelow hb) hz)
    rw [if_neg hz] at HU
    obtain ⟨o2, ho2⟩ : ∃ o2, o2 = off + (tkH (restL s off) 6).2 := ⟨_, rfl⟩
    rw [← ho2] at HU HR
    clear ho2
    generalize (tkH (restL s off) 6).1 = vv at HU HR
    have H1 := Lib.hid HU
    clear h HU hz
    go_enter Try.func25, Try.ntmps25
    go_wp2_with fail
    refine H1.out.mono ?_
    rintro e w1 ⟨rfl, hb⟩
    have B1 := Lib.hid hb; clear hb
    go_wp2_with fail
    refine (HR.out _ B1.out).mono ?_
    rintro e w2 ⟨rfl, hs, hk⟩
    have S2 := Lib.hid hs; have K2 := Lib.hid hk; clear hs hk
    go_wp2
    go_ret3
    exact ⟨o2, true, by simp, S2.out, (RK.ofBelow A B1.out).trans K2.out⟩

end Go.Proofs.Ytlhgbnjflemiiaa
