/- awake returns true: the chapter's examples. -/
import Derived.Test.YtlhgbnjflemiiaaI
namespace Go.Proofs.Ytlhgbnjflemiiaa
open Go.RowKit

theorem Wr.new (w : World) (T : TypeId) : Wr w.heap.size (w.alloc (.cells #[.slice none 0 0] T)) w.heap.size [] :=
  ⟨Nat.le_refl _, by simp, World.frozen?_alloc_new w _ _ 0, none, 0, World.cell?_alloc_new w _ _ 0, .inl ⟨rfl, rfl⟩⟩
theorem Wr.cast {B A : Nat} {w : World} {a b : List UInt8} (h : Wr B w A a) (e : a = b) : Wr B w A b := e ▸ h

theorem ex1 : [] ++ 64 :: num 16 2 (usz 2) = [64, 17, 2] := by decide +kernel
theorem ex2 : [64, 17, 2, 0] ++ (48 :: num 16 (⟨#[97]⟩ : ByteArray).size (usz (⟨#[97]⟩ : ByteArray).size) ++ sb ⟨#[97]⟩) = [64, 17, 2, 0, 48, 17, 1, 97] := by decide +kernel
theorem ex3 : hexL (dsum (sb ⟨#[97]⟩)) = [97, 102, 54, 51, 100, 99, 52, 99, 56, 54, 48, 49, 101, 99, 56, 99] := by decide +kernel
theorem ex4 : 0 ≤ depthL (⟨#[34, 0, 128]⟩ : ByteArray).data.toList := by decide +kernel
theorem ex5 : ¬ 0 ≤ depthL (⟨#[18, 0, 1]⟩ : ByteArray).data.toList := by decide +kernel

theorem valid_ex4 (w : World) : Calls Try.prog 30 #[.string ⟨#[34, 0, 128]⟩] w fun e w' => e = .returned (.bool true) ∧ w = w' := by
  have := valid_any ⟨#[34, 0, 128]⟩ w (by decide)
  rwa [decide_eq_true ex4] at this
theorem valid_ex5 (w : World) : Calls Try.prog 30 #[.string ⟨#[18, 0, 1]⟩] w fun e w' => e = .returned (.bool false) ∧ w = w' := by
  have := valid_any ⟨#[18, 0, 1]⟩ w (by decide)
  rwa [decide_eq_false ex5] at this
theorem digest_ex (w : World) : Calls Try.prog 31 #[.string ⟨#[97]⟩] w fun e w' => e = .returned (.string ⟨#[97, 102, 54, 51, 100, 99, 52, 99, 56, 54, 48, 49, 101, 99, 56, 99]⟩) ∧ Below w.heap.size w w' := by
  have := digest_any ⟨#[97]⟩ w (by decide)
  rw [ex3] at this
  exact this

set_option maxHeartbeats 1000000 in
theorem awake_any (w : World) : Calls Try.prog 9 #[] w fun e w' => e = .returned (.bool true) ∧ Below w.heap.size w w' := by
  have h0 := Wr.new w 28
  have H0 := Lib.hid h0; clear h0
  go_enter Try.func9, Try.ntmps9
  go_wp2_with fail
  refine (list_yes w.heap.size w.heap.size [] 2 _ H0.out (by simp) (by omega)).mono ?_
  rintro e w1 ⟨rfl, hw1, hb1, _⟩
  have H1 := Lib.hid (hw1.cast ex1); have B1 := Lib.hid hb1; clear hw1 hb1
  go_wp2_with fail
  refine (null_any w.heap.size w.heap.size [64, 17, 2] _ H1.out (by simp)).mono ?_
  rintro e w2 ⟨rfl, hw2, hb2, _⟩
  have H2 := Lib.hid hw2; have B2 := Lib.hid hb2; clear hw2 hb2
  go_wp2_with fail
  refine (text_yes w.heap.size w.heap.size [64, 17, 2, 0] ⟨#[97]⟩ _ H2.out (by decide) (by decide)).mono ?_
  rintro e w3 ⟨rfl, hw3, hb3, _⟩
  have H3 := Lib.hid (hw3.cast ex2); have B3 := Lib.hid hb3; clear hw3 hb3
  go_wp2_with fail
  refine (data_any _ _ _ _ H3.out).mono ?_
  rintro e w3' ⟨rfl, rfl⟩
  go_wp2_with fail
  refine (digest_ex _).mono ?_
  rintro e w4 ⟨rfl, hb4⟩
  have B4 := Lib.hid hb4; clear hb4
  go_wp2_with fail
  refine (valid_ex4 _).mono ?_
  rintro e w4' ⟨rfl, rfl⟩
  go_wp2_with fail
  refine (valid_ex5 _).mono ?_
  rintro e w4' ⟨rfl, rfl⟩
  go_wp2
  go_ret
  refine ⟨rfl, ?_⟩
  have b0 : Below w.heap.size w (w.alloc (.cells #[.slice none 0 0] 28)) := (Below.refl _ _).alloc (Nat.le_refl _) _
  have := ((b0.trans B1.out).trans B2.out).trans B3.out
  exact this.trans (B4.out.mono this.size)
end Go.Proofs.Ytlhgbnjflemiiaa
