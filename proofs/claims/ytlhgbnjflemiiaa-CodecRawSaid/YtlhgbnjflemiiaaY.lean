/- Contracts of the Reader's small methods. -/
import Derived.Test.YtlhgbnjflemiiaaD
import Derived.Deep.QuietTactic
import Derived.BigQuiet
import Derived.Deep.Draws
namespace Go.Proofs.Ytlhgbnjflemiiaa
open Go.RowKit

/-- a Reader of the call's own at block A: its string, its offset, its error -/
structure RS (w : World) (A : Nat) (s : ByteArray) (off : Nat) (er : Int) : Prop where
  hi : A < w.heap.size
  c0 : w.cell? ⟨A, 0, none⟩ = some (.string s)
  c1 : w.cell? ⟨A, 1, none⟩ = some (.int .i64 off)
  c2 : w.cell? ⟨A, 2, none⟩ = some (.int .i64 er)
  f1 : w.frozen? ⟨A, 1, none⟩ = false
  f2 : w.frozen? ⟨A, 2, none⟩ = false
  le : off ≤ s.size
  big : s.size ≤ 9223372036854775807
/-- a step of the Reader at A: every other block stays -/
structure RK (A : Nat) (w w' : World) : Prop where
  os : w'.os = w.os
  tape : w'.tape = w.tape
  output : w'.output = w.output
  size : w.heap.size ≤ w'.heap.size
  block : ∀ k, k < w.heap.size → k ≠ A → w'.heap[k]? = w.heap[k]?
theorem RK.refl (A : Nat) (w : World) : RK A w w := ⟨rfl, rfl, rfl, Nat.le_refl _, fun _ _ _ => rfl⟩
theorem RK.trans {A : Nat} {a b c : World} (h : RK A a b) (k : RK A b c) : RK A a c :=
  ⟨k.os.trans h.os, k.tape.trans h.tape, k.output.trans h.output, Nat.le_trans h.size k.size, fun i hi hA => (k.block i (Nat.lt_of_lt_of_le hi h.size) hA).trans (h.block i hi hA)⟩
theorem RK.drewN (A : Nat) (w : World) (n : Nat) : RK A w (w.drewN n) := ⟨rfl, rfl, rfl, Nat.le_refl _, fun _ _ _ => rfl⟩
theorem RK.setCell (A : Nat) (w : World) (o : Nat) (v : Value) : RK A w (w.setCell ⟨A, o, none⟩ v) :=
  ⟨rfl, rfl, rfl, by simp [World.setCell], fun k _ hA => Below.heap_setCell _ _ _ _ hA⟩
theorem RK.below {A B : Nat} {w w' : World} (h : RK A w w') (hB : B ≤ A) (hA : A < w.heap.size) : Below B w w' :=
  ⟨h.os, h.tape, h.output, h.size, fun k hk => h.block k (by omega) (by omega)⟩
theorem RS.drewN {w : World} {A : Nat} {s : ByteArray} {off : Nat} {er : Int} (h : RS w A s off er) (n : Nat) : RS (w.drewN n) A s off er :=
  ⟨h.hi, h.c0, h.c1, h.c2, h.f1, h.f2, h.le, h.big⟩
theorem RS.setErr {w : World} {A : Nat} {s : ByteArray} {off : Nat} {er : Int} (h : RS w A s off er) (e2 : Int) : RS (w.setCell ⟨A, 2, none⟩ (.int .i64 e2)) A s off e2 := by
  refine ⟨by have := h.hi; simp [World.setCell]; omega, ?_, ?_, World.cell?_setCell_same w _ _ h.c2, by rw [World.frozen?_setCell]; exact h.f1, by rw [World.frozen?_setCell]; exact h.f2, h.le, h.big⟩
  · rw [World.cell?_setCell_other _ _ _ _ (by simp)]; exact h.c0
  · rw [World.cell?_setCell_other _ _ _ _ (by simp)]; exact h.c1
theorem RS.setOff {w : World} {A : Nat} {s : ByteArray} {off : Nat} {er : Int} (h : RS w A s off er) (o2 : Nat) (hl : o2 ≤ s.size) (v : Int) (hv : v = o2) : RS (w.setCell ⟨A, 1, none⟩ (.int .i64 v)) A s o2 er := by
  subst hv
  refine ⟨by have := h.hi; simp [World.setCell]; omega, ?_, World.cell?_setCell_same w _ _ h.c1, ?_, by rw [World.frozen?_setCell]; exact h.f1, by rw [World.frozen?_setCell]; exact h.f2, hl, h.big⟩
  · rw [World.cell?_setCell_other _ _ _ _ (by simp)]; exact h.c0
  · rw [World.cell?_setCell_other _ _ _ _ (by simp)]; exact h.c2

set_option maxHeartbeats 400000 in
theorem rest_any (w : World) (A : Nat) (s : ByteArray) (off : Nat) (er : Int) (h : RS w A s off er) :
    Calls Try.prog 46 #[.pointer (some ⟨A, 0, none⟩)] w fun e w' => e = .returned (.string (s.extract off s.size)) ∧ ∃ n, w' = w.drewN n := by
  obtain ⟨hhi, c0, c1, c2, f1, f2, hle, hbig⟩ := h
  have h0 : (0 : Int) ≤ (off : Int) := by omega
  have h1 : (off : Int) ≤ (s.size : Int) := by omega
  go_enter Try.func46, Try.ntmps46
  go_wp2
  go_quiet (fail)
  go_wp2
  go_ret
  exact ⟨rfl, _, rfl⟩

set_option maxHeartbeats 400000 in
theorem err_any (w : World) (A : Nat) (s : ByteArray) (off : Nat) (er : Int) (h : RS w A s off er) :
    Calls Try.prog 15 #[.pointer (some ⟨A, 0, none⟩)] w fun e w' => e = .returned (.int .i64 er) ∧ w = w' := by
  obtain ⟨hhi, c0, c1, c2, f1, f2, hle, hbig⟩ := h
  go_enter Try.func15, Try.ntmps15
  go_wp2
  go_ret
  exact ⟨rfl, rfl⟩
set_option maxHeartbeats 400000 in
theorem offset_any (w : World) (A : Nat) (s : ByteArray) (off : Nat) (er : Int) (h : RS w A s off er) :
    Calls Try.prog 18 #[.pointer (some ⟨A, 0, none⟩)] w fun e w' => e = .returned (.int .i64 off) ∧ w = w' := by
  obtain ⟨hhi, c0, c1, c2, f1, f2, hle, hbig⟩ := h
  go_enter Try.func18, Try.ntmps18
  go_wp2
  go_ret
  exact ⟨rfl, rfl⟩

set_option maxHeartbeats 400000 in
theorem advance_err (w : World) (A : Nat) (s : ByteArray) (off : Nat) (er : Int) (z : Int) (h : RS w A s off er) (he : (er == 0) = false) :
    Calls Try.prog 48 #[.pointer (some ⟨A, 0, none⟩), .int .i64 z] w fun e w' => e = .returned (.bool false) ∧ w = w' := by
  obtain ⟨hhi, c0, c1, c2, f1, f2, hle, hbig⟩ := h
  have he2 : (er != 0) = true := by simp [bne, he]
  go_enter Try.func48, Try.ntmps48
  go_wp2
  go_ret
  exact ⟨rfl, rfl⟩
set_option maxHeartbeats 400000 in
theorem advance_no (w : World) (A : Nat) (s : ByteArray) (off : Nat) (h : RS w A s off 0) :
    Calls Try.prog 48 #[.pointer (some ⟨A, 0, none⟩), .int .i64 0] w fun e w' => e = .returned (.bool false) ∧ RS w' A s off 2 ∧ RK A w w' := by
  have H := Lib.hid (h.setErr 2)
  obtain ⟨hhi, c0, c1, c2, f1, f2, hle, hbig⟩ := h
  go_enter Try.func48, Try.ntmps48
  go_wp2
  go_ret
  exact ⟨rfl, H.out, RK.setCell _ _ _ _⟩
set_option maxHeartbeats 400000 in
theorem advance_yes (w : World) (A : Nat) (s : ByteArray) (off : Nat) (z : Nat) (h : RS w A s off 0) (hz : z ≠ 0) (hl : off + z ≤ s.size) :
    Calls Try.prog 48 #[.pointer (some ⟨A, 0, none⟩), .int .i64 z] w fun e w' => e = .returned (.bool true) ∧ RS w' A s (off + z) 0 ∧ RK A w w' := by
  have H := Lib.hid (h.setOff (off + z) hl)
  have hz' : ((z : Int) == 0) = false := beq_eq_false_iff_ne.2 (by omega)
  obtain ⟨hhi, c0, c1, c2, f1, f2, hle, hbig⟩ := h
  go_enter Try.func48, Try.ntmps48
  go_wp2
  go_ret
  exact ⟨rfl, H.out _ (by simp), RK.setCell _ _ _ _⟩

/-- what is left to read -/
def restL (s : ByteArray) (off : Nat) : List UInt8 := s.data.toList.drop off
theorem rest_list (s : ByteArray) (off : Nat) : (s.extract off s.size).data.toList = restL s off := extract_end s off
theorem rest_size (s : ByteArray) (off : Nat) : (s.extract off s.size).size = s.size - off := by rw [← size_len, rest_list]; unfold restL; rw [List.length_drop, size_len]
theorem restL_length (s : ByteArray) (off : Nat) : (restL s off).length = s.size - off := by unfold restL; rw [List.length_drop, size_len]

set_option maxHeartbeats 400000 in
theorem kind_err (w : World) (A : Nat) (s : ByteArray) (off : Nat) (er : Int) (h : RS w A s off er) (he : (er == 0) = false) :
    Calls Try.prog 17 #[.pointer (some ⟨A, 0, none⟩)] w fun e w' => e = .returned (.int .i64 0) ∧ w = w' := by
  obtain ⟨hhi, c0, c1, c2, f1, f2, hle, hbig⟩ := h
  have he2 : (er != 0) = true := by simp [bne, he]
  go_enter Try.func17, Try.ntmps17
  go_wp2
  go_ret
  exact ⟨rfl, rfl⟩
set_option maxHeartbeats 400000 in
theorem kind_ok (w : World) (A : Nat) (s : ByteArray) (off : Nat) (h : RS w A s off 0) :
    Calls Try.prog 17 #[.pointer (some ⟨A, 0, none⟩)] w fun e w' => e = .returned (.int .i64 (kindL (restL s off))) ∧ ∃ n, w' = w.drewN n := by
  have HR := Lib.hid (rest_any w A s off 0 h)
  have HK := fun w => kindOf_any (s.extract off s.size) w
  rw [rest_list] at HK
  have HK' := Lib.hid HK; clear HK
  obtain ⟨hhi, c0, c1, c2, f1, f2, hle, hbig⟩ := h
  go_enter Try.func17, Try.ntmps17
  go_wp2_with fail
  refine HR.out.mono ?_
  rintro e w1 ⟨rfl, n, rfl⟩
  go_wp2_with fail
  refine (HK'.out _).mono ?_
  rintro e w1 ⟨rfl, rfl⟩
  go_wp2
  go_ret
  exact ⟨rfl, n, rfl⟩

set_option maxHeartbeats 400000 in
theorem end_err (w : World) (A : Nat) (s : ByteArray) (off : Nat) (er : Int) (h : RS w A s off er) (he : (er == 0) = false) :
    Calls Try.prog 16 #[.pointer (some ⟨A, 0, none⟩)] w fun e w' => e = .returned (.int .i64 er) ∧ ∃ n, w' = w.drewN n := by
  obtain ⟨hhi, c0, c1, c2, f1, f2, hle, hbig⟩ := h
  go_enter Try.func16, Try.ntmps16
  go_wp2
  go_quiet (fail)
  go_wp2
  go_ret
  exact ⟨rfl, _, rfl⟩
set_option maxHeartbeats 400000 in
theorem end_ok (w : World) (A : Nat) (s : ByteArray) (off : Nat) (h : RS w A s off 0) :
    Calls Try.prog 16 #[.pointer (some ⟨A, 0, none⟩)] w fun e w' => e = .returned (.int .i64 (if off < s.size then 2 else 0)) ∧ ∃ n, w' = w.drewN n := by
  obtain ⟨hhi, c0, c1, c2, f1, f2, hle, hbig⟩ := h
  by_cases hlt : off < s.size
  · rw [if_pos hlt]
    go_enter Try.func16, Try.ntmps16
    go_wp2
    go_quiet (fail)
    go_wp2
    go_ret
    exact ⟨rfl, _, rfl⟩
  · rw [if_neg hlt]
    have hd : decide ((off : Int) < (s.size : Int)) = false := by simp; omega
    go_enter Try.func16, Try.ntmps16
    go_wp2
    go_quiet (fail)
    go_wp2
    go_ret
    exact ⟨rfl, _, rfl⟩

set_option maxHeartbeats 800000 in
theorem runsigned_err (w : World) (A : Nat) (s : ByteArray) (off : Nat) (er : Int) (h : RS w A s off er) (he : (er == 0) = false) :
    Calls Try.prog 20 #[.pointer (some ⟨A, 0, none⟩)] w fun e w' => e = .returned (.int .u64 0) ∧ ∃ n, w' = w.drewN n := by
  have HR := Lib.hid (rest_any w A s off er h)
  have HT := fun w => takeUnsigned_any (s.extract off s.size) w
  have HA := fun (n : Nat) (z : Int) => advance_err (w.drewN n) A s off er z (h.drewN n) he
  have HA' := Lib.hid HA; clear HA
  have HT' := Lib.hid HT; clear HT
  clear h
  go_enter Try.func20, Try.ntmps20
  go_wp2_with fail
  refine HR.out.mono ?_
  rintro e w1 ⟨rfl, n, rfl⟩
  go_wp2_with fail
  refine (HT'.out _).mono ?_
  rintro e w1 ⟨rfl, rfl⟩
  go_wp2_with fail
  refine (HA'.out _ _).mono ?_
  rintro e w1 ⟨rfl, rfl⟩
  go_wp2
  go_ret
  exact ⟨rfl, n, rfl⟩
set_option maxHeartbeats 800000 in
theorem runsigned_no (w : World) (A : Nat) (s : ByteArray) (off : Nat) (h : RS w A s off 0) (hz : (tkU (restL s off)).2 = 0) :
    Calls Try.prog 20 #[.pointer (some ⟨A, 0, none⟩)] w fun e w' => e = .returned (.int .u64 0) ∧ RS w' A s off 2 ∧ RK A w w' := by
  have HR := Lib.hid (rest_any w A s off 0 h)
  have HT := fun w => takeUnsigned_any (s.extract off s.size) w
  rw [rest_list, hz] at HT
  have HA := fun w n (h : RS w A s off 0) => advance_no (w.drewN n) A s off (h.drewN n)
  have HA' := Lib.hid HA; clear HA
  have HT' := Lib.hid HT; clear HT
  have HH := Lib.hid h
  clear h hz
  go_enter Try.func20, Try.ntmps20
  go_wp2_with fail
  refine HR.out.mono ?_
  rintro e w1 ⟨rfl, n, rfl⟩
  go_wp2_with fail
  refine (HT'.out _).mono ?_
  rintro e w1 ⟨rfl, rfl⟩
  go_wp2_with fail
  refine (HA'.out _ _ HH.out).mono ?_
  rintro e w1 ⟨rfl, hs, hk⟩
  go_wp2
  go_ret
  exact ⟨rfl, hs, (RK.drewN A w n).trans hk⟩
set_option maxHeartbeats 800000 in
theorem runsigned_yes (w : World) (A : Nat) (s : ByteArray) (off : Nat) (h : RS w A s off 0) (hz : (tkU (restL s off)).2 ≠ 0) :
    Calls Try.prog 20 #[.pointer (some ⟨A, 0, none⟩)] w fun e w' => e = .returned (.int .u64 (tkU (restL s off)).1) ∧ RS w' A s (off + (tkU (restL s off)).2) 0 ∧ RK A w w' := by
  have HR := Lib.hid (rest_any w A s off 0 h)
  have HT := fun w => takeUnsigned_any (s.extract off s.size) w
  rw [rest_list] at HT
  have hl : off + (tkU (restL s off)).2 ≤ s.size := by have := tkU_size (restL s off); rw [restL_length] at this; have := h.le; omega
  have HA := fun w n (h : RS w A s off 0) => advance_yes (w.drewN n) A s off _ (h.drewN n) hz hl
  clear hl hz
  generalize (tkU (restL s off)).2 = z at HT HA ⊢
  have HA' := Lib.hid HA; clear HA
  have HT' := Lib.hid HT; clear HT
  have HH := Lib.hid h
  clear h
  go_enter Try.func20, Try.ntmps20
  go_wp2_with fail
  refine HR.out.mono ?_
  rintro e w1 ⟨rfl, n, rfl⟩
  go_wp2_with fail
  refine (HT'.out _).mono ?_
  rintro e w1 ⟨rfl, rfl⟩
  go_wp2_with fail
  refine (HA'.out _ _ HH.out).mono ?_
  rintro e w1 ⟨rfl, hs, hk⟩
  go_wp2
  go_ret
  exact ⟨rfl, hs, (RK.drewN A w n).trans hk⟩

set_option maxHeartbeats 800000 in
theorem rsigned_err (w : World) (A : Nat) (s : ByteArray) (off : Nat) (er : Int) (h : RS w A s off er) (he : (er == 0) = false) :
    Calls Try.prog 21 #[.pointer (some ⟨A, 0, none⟩)] w fun e w' => e = .returned (.int .i64 0) ∧ ∃ n, w' = w.drewN n := by
  have HR := Lib.hid (rest_any w A s off er h)
  have HT := fun w => takeSigned_any (s.extract off s.size) w
  have HA := fun (n : Nat) (z : Int) => advance_err (w.drewN n) A s off er z (h.drewN n) he
  have HA' := Lib.hid HA; clear HA
  have HT' := Lib.hid HT; clear HT
  clear h
  go_enter Try.func21, Try.ntmps21
  go_wp2_with fail
  refine HR.out.mono ?_
  rintro e w1 ⟨rfl, n, rfl⟩
  go_wp2_with fail
  refine (HT'.out _).mono ?_
  rintro e w1 ⟨rfl, rfl⟩
  go_wp2_with fail
  refine (HA'.out _ _).mono ?_
  rintro e w1 ⟨rfl, rfl⟩
  go_wp2
  go_ret
  exact ⟨rfl, n, rfl⟩
set_option maxHeartbeats 800000 in
theorem rsigned_no (w : World) (A : Nat) (s : ByteArray) (off : Nat) (h : RS w A s off 0) (hz : (tkS (restL s off)).2 = 0) :
    Calls Try.prog 21 #[.pointer (some ⟨A, 0, none⟩)] w fun e w' => e = .returned (.int .i64 0) ∧ RS w' A s off 2 ∧ RK A w w' := by
  have HR := Lib.hid (rest_any w A s off 0 h)
  have HT := fun w => takeSigned_any (s.extract off s.size) w
  rw [rest_list, hz] at HT
  have HA := fun w n (h : RS w A s off 0) => advance_no (w.drewN n) A s off (h.drewN n)
  have HA' := Lib.hid HA; clear HA
  have HT' := Lib.hid HT; clear HT
  have HH := Lib.hid h
  clear h hz
  go_enter Try.func21, Try.ntmps21
  go_wp2_with fail
  refine HR.out.mono ?_
  rintro e w1 ⟨rfl, n, rfl⟩
  go_wp2_with fail
  refine (HT'.out _).mono ?_
  rintro e w1 ⟨rfl, rfl⟩
  go_wp2_with fail
  refine (HA'.out _ _ HH.out).mono ?_
  rintro e w1 ⟨rfl, hs, hk⟩
  go_wp2
  go_ret
  exact ⟨rfl, hs, (RK.drewN A w n).trans hk⟩
set_option maxHeartbeats 800000 in
theorem rsigned_yes (w : World) (A : Nat) (s : ByteArray) (off : Nat) (h : RS w A s off 0) (hz : (tkS (restL s off)).2 ≠ 0) :
    Calls Try.prog 21 #[.pointer (some ⟨A, 0, none⟩)] w fun e w' => e = .returned (.int .i64 (tkS (restL s off)).1) ∧ RS w' A s (off + (tkS (restL s off)).2) 0 ∧ RK A w w' := by
  have HR := Lib.hid (rest_any w A s off 0 h)
  have HT := fun w => takeSigned_any (s.extract off s.size) w
  rw [rest_list] at HT
  have hl : off + (tkS (restL s off)).2 ≤ s.size := by have := tkS_size (restL s off); rw [restL_length] at this; have := h.le; omega
  have HA := fun w n (h : RS w A s off 0) => advance_yes (w.drewN n) A s off _ (h.drewN n) hz hl
  clear hl hz
  generalize (tkS (restL s off)).2 = z at HT HA ⊢
  have HA' := Lib.hid HA; clear HA
  have HT' := Lib.hid HT; clear HT
  have HH := Lib.hid h
  clear h
  go_enter Try.func21, Try.ntmps21
  go_wp2_with fail
  refine HR.out.mono ?_
  rintro e w1 ⟨rfl, n, rfl⟩
  go_wp2_with fail
  refine (HT'.out _).mono ?_
  rintro e w1 ⟨rfl, rfl⟩
  go_wp2_with fail
  refine (HA'.out _ _ HH.out).mono ?_
  rintro e w1 ⟨rfl, hs, hk⟩
  go_wp2
  go_ret
  exact ⟨rfl, hs, (RK.drewN A w n).trans hk⟩

set_option maxHeartbeats 800000 in
theorem rtext_err (w : World) (A : Nat) (s : ByteArray) (off : Nat) (er : Int) (h : RS w A s off er) (he : (er == 0) = false) :
    Calls Try.prog 22 #[.pointer (some ⟨A, 0, none⟩)] w fun e w' => e = .returned (.string ⟨#[]⟩) ∧ ∃ n, w' = w.drewN n := by
  have HR := Lib.hid (rest_any w A s off er h)
  have HT := fun w => takeText_any (s.extract off s.size) w (by rw [rest_size]; have := h.big; omega)
  have HA := fun (n : Nat) (z : Int) => advance_err (w.drewN n) A s off er z (h.drewN n) he
  have HA' := Lib.hid HA; clear HA
  have HT' := Lib.hid HT; clear HT
  clear h
  go_enter Try.func22, Try.ntmps22
  go_wp2_with fail
  refine HR.out.mono ?_
  rintro e w1 ⟨rfl, n, rfl⟩
  go_wp2_with fail
  refine (HT'.out _).mono ?_
  rintro e w1 ⟨rfl, rfl⟩
  go_wp2_with fail
  refine (HA'.out _ _).mono ?_
  rintro e w1 ⟨rfl, rfl⟩
  go_wp2
  go_ret
  exact ⟨rfl, n, rfl⟩
set_option maxHeartbeats 800000 in
theorem rtext_no (w : World) (A : Nat) (s : ByteArray) (off : Nat) (h : RS w A s off 0) (hz : tkTn (restL s off) = 0) :
    Calls Try.prog 22 #[.pointer (some ⟨A, 0, none⟩)] w fun e w' => e = .returned (.string ⟨#[]⟩) ∧ RS w' A s off 2 ∧ RK A w w' := by
  have HR := Lib.hid (rest_any w A s off 0 h)
  have HT := fun w => takeText_any (s.extract off s.size) w (by rw [rest_size]; have := h.big; omega)
  rw [rest_list, hz] at HT
  have HA := fun w n (h : RS w A s off 0) => advance_no (w.drewN n) A s off (h.drewN n)
  have HA' := Lib.hid HA; clear HA
  have HT' := Lib.hid HT; clear HT
  have HH := Lib.hid h
  clear h hz
  go_enter Try.func22, Try.ntmps22
  go_wp2_with fail
  refine HR.out.mono ?_
  rintro e w1 ⟨rfl, n, rfl⟩
  go_wp2_with fail
  refine (HT'.out _).mono ?_
  rintro e w1 ⟨rfl, rfl⟩
  go_wp2_with fail
  refine (HA'.out _ _ HH.out).mono ?_
  rintro e w1 ⟨rfl, hs, hk⟩
  go_wp2
  go_ret
  exact ⟨rfl, hs, (RK.drewN A w n).trans hk⟩
set_option maxHeartbeats 800000 in
theorem rtext_yes (w : World) (A : Nat) (s : ByteArray) (off : Nat) (h : RS w A s off 0) (hz : tkTn (restL s off) ≠ 0) :
    Calls Try.prog 22 #[.pointer (some ⟨A, 0, none⟩)] w fun e w' => e = .returned (.string (tkTs (s.extract off s.size))) ∧ RS w' A s (off + tkTn (restL s off)) 0 ∧ RK A w w' := by
  have HR := Lib.hid (rest_any w A s off 0 h)
  have HT := fun w => takeText_any (s.extract off s.size) w (by rw [rest_size]; have := h.big; omega)
  rw [rest_list] at HT
  have hl : off + tkTn (restL s off) ≤ s.size := by have := tkTn_size (restL s off); rw [restL_length] at this; have := h.le; omega
  have HA := fun w n (h : RS w A s off 0) => advance_yes (w.drewN n) A s off _ (h.drewN n) hz hl
  clear hl hz
  generalize tkTn (restL s off) = z at HT HA ⊢
  have HA' := Lib.hid HA; clear HA
  have HT' := Lib.hid HT; clear HT
  have HH := Lib.hid h
  clear h
  go_enter Try.func22, Try.ntmps22
  go_wp2_with fail
  refine HR.out.mono ?_
  rintro e w1 ⟨rfl, n, rfl⟩
  go_wp2_with fail
  refine (HT'.out _).mono ?_
  rintro e w1 ⟨rfl, rfl⟩
  go_wp2_with fail
  refine (HA'.out _ _ HH.out).mono ?_
  rintro e w1 ⟨rfl, hs, hk⟩
  go_wp2
  go_ret
  exact ⟨rfl, hs, (RK.drewN A w n).trans hk⟩

set_option maxHeartbeats 800000 in
theorem rlist_err (w : World) (A : Nat) (s : ByteArray) (off : Nat) (er : Int) (h : RS w A s off er) (he : (er == 0) = false) :
    Calls Try.prog 23 #[.pointer (some ⟨A, 0, none⟩)] w fun e w' => e = .returned (.int .i64 0) ∧ ∃ n, w' = w.drewN n := by
  have HR := Lib.hid (rest_any w A s off er h)
  have HT := fun w => takeList_any (s.extract off s.size) w (by rw [rest_size]; have := h.big; omega)
  have HA := fun (n : Nat) (z : Int) => advance_err (w.drewN n) A s off er z (h.drewN n) he
  have HA' := Lib.hid HA; clear HA
  have HT' := Lib.hid HT; clear HT
  clear h
  go_enter Try.func23, Try.ntmps23
  go_wp2_with fail
  refine HR.out.mono ?_
  rintro e w1 ⟨rfl, n, rfl⟩
  go_wp2_with fail
  refine (HT'.out _).mono ?_
  rintro e w1 ⟨rfl, rfl⟩
  go_wp2_with fail
  refine (HA'.out _ _).mono ?_
  rintro e w1 ⟨rfl, rfl⟩
  go_wp2
  go_ret
  exact ⟨rfl, n, rfl⟩
set_option maxHeartbeats 800000 in
theorem rlist_no (w : World) (A : Nat) (s : ByteArray) (off : Nat) (h : RS w A s off 0) (hz : (tkH (restL s off) 6).2 = 0) :
    Calls Try.prog 23 #[.pointer (some ⟨A, 0, none⟩)] w fun e w' => e = .returned (.int .i64 0) ∧ RS w' A s off 2 ∧ RK A w w' := by
  have HR := Lib.hid (rest_any w A s off 0 h)
  have HT := fun w => takeList_any (s.extract off s.size) w (by rw [rest_size]; have := h.big; omega)
  rw [rest_list, hz] at HT
  have HA := fun w n (h : RS w A s off 0) => advance_no (w.drewN n) A s off (h.drewN n)
  have HA' := Lib.hid HA; clear HA
  have HT' := Lib.hid HT; clear HT
  have HH := Lib.hid h
  clear h hz
  go_enter Try.func23, Try.ntmps23
  go_wp2_with fail
  refine HR.out.mono ?_
  rintro e w1 ⟨rfl, n, rfl⟩
  go_wp2_with fail
  refine (HT'.out _).mono ?_
  rintro e w1 ⟨rfl, rfl⟩
  go_wp2_with fail
  refine (HA'.out _ _ HH.out).mono ?_
  rintro e w1 ⟨rfl, hs, hk⟩
  go_wp2
  go_ret
  exact ⟨rfl, hs, (RK.drewN A w n).trans hk⟩
set_option maxHeartbeats 800000 in
theorem rlist_yes (w : World) (A : Nat) (s : ByteArray) (off : Nat) (h : RS w A s off 0) (hz : (tkH (restL s off) 6).2 ≠ 0) :
    Calls Try.prog 23 #[.pointer (some ⟨A, 0, none⟩)] w fun e w' => e = .returned (.int .i64 (tkH (restL s off) 6).1) ∧ RS w' A s (off + (tkH (restL s off) 6).2) 0 ∧ RK A w w' := by
  have HR := Lib.hid (rest_any w A s off 0 h)
  have HT := fun w => takeList_any (s.extract off s.size) w (by rw [rest_size]; have := h.big; omega)
  rw [rest_list] at HT
  have hl : off + (tkH (restL s off) 6).2 ≤ s.size := by have := (tkH_size (restL s off) 6 (by omega)).1; rw [restL_length] at this; have := h.le; omega
  have HA := fun w n (h : RS w A s off 0) => advance_yes (w.drewN n) A s off _ (h.drewN n) hz hl
  clear hl hz
  generalize (tkH (restL s off) 6).2 = z at HT HA ⊢
  have HA' := Lib.hid HA; clear HA
  have HT' := Lib.hid HT; clear HT
  have HH := Lib.hid h
  clear h
  go_enter Try.func23, Try.ntmps23
  go_wp2_with fail
  refine HR.out.mono ?_
  rintro e w1 ⟨rfl, n, rfl⟩
  go_wp2_with fail
  refine (HT'.out _).mono ?_
  rintro e w1 ⟨rfl, rfl⟩
  go_wp2_with fail
  refine (HA'.out _ _ HH.out).mono ?_
  rintro e w1 ⟨rfl, hs, hk⟩
  go_wp2
  go_ret
  exact ⟨rfl, hs, (RK.drewN A w n).trans hk⟩
end Go.Proofs.Ytlhgbnjflemiiaa
