/- The law's own write: what is written is what the specification says. -/
import Derived.Test.YtlhgbnjflemiiaaP
import Derived.Test.YtlhgbnjflemiiaaJ
namespace Go.Proofs.Ytlhgbnjflemiiaa
open Go.RowKit

/-- a value that is written -/
structure V where
  K : Int
  B : Bool
  U : Nat
  N : Int
  S : ByteArray
def V.val (v : V) : Value := .agg #[.int .i64 v.K, .bool v.B, .int .u64 v.U, .int .i64 v.N, .string v.S]
structure V.Ok (v : V) : Prop where
  u : v.U < 18446744073709551616
  n1 : -9223372036854775808 ≤ v.N
  n2 : v.N ≤ 9223372036854775807
  s : v.S.size ≤ 70000
/-- what has to be appended for a value -/
def encL (v : V) : List UInt8 :=
  if v.K = 1 then [0] else if v.K = 2 then [if v.B then 2 else 1] else if v.K = 3 then num 16 v.U (usz v.U) else if v.K = 4 then num 32 (word v.N) (ssz v.N) else
  if v.K = 5 then (if v.S.size ≤ 65535 then 48 :: num 16 v.S.size (usz v.S.size) ++ sb v.S else []) else
  if v.K = 6 then (if 0 ≤ v.N ∧ v.N ≤ 65535 then 64 :: num 16 v.N.toNat (usz v.N.toNat) else []) else []
theorem encL_len (v : V) (h : v.Ok) : (encL v).length ≤ 70010 := by
  have := h.s
  unfold encL
  split
  · simp
  split
  · simp
  split
  · rw [num_length _ _ _ (usz_8 _ h.u)]; have := usz_8 _ h.u; omega
  split
  · rw [num_length _ _ _ (ssz_8 _ h.n1 h.n2)]; have := ssz_8 _ h.n1 h.n2; omega
  split
  · split
    · rw [List.cons_append, List.length_cons, List.length_append, num_length _ _ _ (usz_8 _ (by omega)), sb_length]; have := usz_8 v.S.size (by omega); omega
    · simp
  split
  · split
    · rw [List.length_cons, num_length _ _ _ (usz_8 _ (by omega))]; have := usz_8 v.N.toNat (by omega); omega
    · simp
  · simp

/-- what 'write' leaves -/
def WPost (B A : Nat) (bs : List UInt8) (v : V) (w : World) (e : Ending) (w' : World) : Prop :=
  e = .returned (.tuple #[.string ⟨(encL v).toArray⟩, .bool true]) ∧ Wr B w' A (bs ++ encL v) ∧ Below B w w' ∧ Keep A w w'

theorem wr_box {B A : Nat} {bs : List UInt8} {w : World} (h : Wr B w A bs) (o : Obj) : Wr B (w.alloc o) A bs := h.below ((Below.refl _ _).alloc (Nat.le_refl _) _)
theorem lo_size {B A : Nat} {bs : List UInt8} {w : World} (h : Wr B w A bs) : B ≤ w.heap.size := Nat.le_of_lt (Nat.lt_of_le_of_lt h.lo h.hi)
theorem Keep.alloc {A : Nat} (w : World) (o : Obj) (hA : A < w.heap.size) : Keep A w (w.alloc o) :=
  ⟨by simp, fun k hk _ _ => Below.heap_alloc _ _ _ hk, fun k _ ho hx => ho (by
    obtain ⟨x, h1, h2⟩ := hx
    rw [World.cell?_alloc_past _ _ _ hA] at h1
    exact ⟨x, h1, h2⟩)⟩
theorem Keep.of_below {A : Nat} {w w' : World} (h : Below w.heap.size w w') (hA : A < w.heap.size) : Keep A w w' :=
  ⟨h.size, fun k hk _ _ => h.block k hk, fun k _ ho hx => ho (by
    obtain ⟨x, h1, h2⟩ := hx
    rw [h.cell (p := ⟨A, 0, none⟩) hA] at h1
    exact ⟨x, h1, h2⟩)⟩
theorem no_own {B A : Nat} {bs : List UInt8} {w : World} (h : Wr B w A bs) {k : Nat} (hk : w.heap.size ≤ k) (o : Obj) : ¬ owns A (w.alloc o) k := by
  rintro ⟨x, hx, he⟩
  obtain ⟨ao, c, hv, ho⟩ := h.val
  rw [World.cell?_alloc_past _ _ _ h.hi, hv] at hx
  injection hx with hx
  subst hx
  have := (ho.lt he).2.2
  omega
/-- the box of the value stays behind a contract of the Writer -/
theorem box_kept {B A : Nat} {bs : List UInt8} {w : World} (h : Wr B w A bs) (c : Array Value) (T : TypeId) (w1 : World) (hkp : Keep A (w.alloc (.cells c T)) w1) (o : Nat) : w1.cell? ⟨w.heap.size, o, none⟩ = c[o]? := by
  have h1 := h.hi
  rw [hkp.cell (by simp) (by omega) (no_own h (Nat.le_refl _) _), World.cell?_alloc_new]

set_option maxHeartbeats 1000000 in
theorem write_1 (B A : Nat) (bs : List UInt8) (b : Bool) (U : Nat) (N : Int) (S : ByteArray) (w : World) (h : Wr B w A bs) (hfit : bs.length + 80000 ≤ 140737488355328) :
    Calls Try.prog 11 #[.pointer (some ⟨A, 0, none⟩), .agg #[.int .i64 1, .bool b, .int .u64 U, .int .i64 N, .string S]] w fun e w' => e = .returned (.tuple #[.string ⟨#[0]⟩, .bool true]) ∧ Wr B w' A (bs ++ [0]) ∧ Below B w w' ∧ Keep A w w' := by
  have H := Lib.hid (null_any B A bs _ (wr_box h (.cells #[.int .i64 1, .bool b, .int .u64 U, .int .i64 N, .string S] 33)) (by omega))
  have K0 := Lib.hid (fun o => Keep.alloc w o h.hi)
  have B0 : Hid (Below B w (w.alloc (.cells #[.int .i64 1, .bool b, .int .u64 U, .int .i64 N, .string S] 33))) := (Below.refl _ _).alloc (lo_size h) _
  go_enter Try.func11, Try.ntmps11
  go_wp2_with fail
  refine H.out.mono ?_
  rintro e w1 ⟨rfl, hw, hb, hkp⟩
  go_wp2
  go_ret2
  exact ⟨rfl, hw, B0.out.trans hb, (K0.out _).trans hkp⟩

set_option maxHeartbeats 1000000 in
theorem write_2 (B A : Nat) (bs : List UInt8) (b : Bool) (U : Nat) (N : Int) (S : ByteArray) (w : World) (h : Wr B w A bs) (hfit : bs.length + 80000 ≤ 140737488355328) :
    Calls Try.prog 11 #[.pointer (some ⟨A, 0, none⟩), .agg #[.int .i64 2, .bool b, .int .u64 U, .int .i64 N, .string S]] w fun e w' => e = .returned (.tuple #[.string ⟨([if b then 2 else 1]).toArray⟩, .bool true]) ∧ Wr B w' A (bs ++ [if b then 2 else 1]) ∧ Below B w w' ∧ Keep A w w' := by
  have Hbx := Lib.hid (box_kept h #[.int .i64 2, .bool b, .int .u64 U, .int .i64 N, .string S] 33)
  have K0 := Lib.hid (fun o => Keep.alloc w o h.hi)
  have B0 : Hid (Below B w (w.alloc (.cells #[.int .i64 2, .bool b, .int .u64 U, .int .i64 N, .string S] 33))) := (Below.refl _ _).alloc (lo_size h) _
  have W0 := wr_box h (.cells #[.int .i64 2, .bool b, .int .u64 U, .int .i64 N, .string S] 33)
  have L0 := lo_size W0
  have H0 : Calls Try.prog 36 #[.pointer (some ⟨A, 0, none⟩), .bool b] (w.alloc (.cells #[.int .i64 2, .bool b, .int .u64 U, .int .i64 N, .string S] 33)) fun e w' => e = .returned (.tuple #[]) ∧ Wr B w' A (bs ++ [if b then 2 else 1]) ∧ Below B (w.alloc (.cells #[.int .i64 2, .bool b, .int .u64 U, .int .i64 N, .string S] 33)) w' ∧ Keep A (w.alloc (.cells #[.int .i64 2, .bool b, .int .u64 U, .int .i64 N, .string S] 33)) w' := by
    cases b
    · exact bool_false B A bs _ W0 (by omega)
    · exact bool_true B A bs _ W0 (by omega)
  have HR0 : ∀ w, Calls Try.prog 37 #[.bool b] w fun e w' => e = .returned (.string ⟨([if b then 2 else 1] : List UInt8).toArray⟩) ∧ Below w.heap.size w w' := fun w => (refBool_any b w).mono fun e w' ⟨h1, h2⟩ => ⟨h1, h2 ▸ Below.refl _ _⟩
  obtain ⟨cc, hcc⟩ : ∃ cc, cc = ([if b then 2 else 1] : List UInt8) := ⟨_, rfl⟩
  rw [← hcc] at H0 HR0 ⊢
  have H := Lib.hid H0; have HR := Lib.hid HR0; clear H0 HR0 hcc W0
  go_enter Try.func11, Try.ntmps11
  go_wp2_with fail
  refine H.out.mono ?_
  rintro e w1 ⟨rfl, hw, hb, hkp⟩
  have c1 := Hbx.out w1 hkp 1
  have HW := Lib.hid hw; have HB1 := Lib.hid (B0.out.trans hb); clear hw hb
  have HKP := Lib.hid hkp; clear hkp
  go_wp2_with fail
  refine (HR.out _).mono ?_
  rintro e w2 ⟨rfl, hb2⟩
  have HB2 := Lib.hid hb2; clear hb2
  go_wp2
  go_ret2
  exact ⟨rfl, HW.out.below HB2.out, HB1.out.trans (HB2.out.mono (lo_size HW.out)), ((K0.out _).trans HKP.out).trans (Keep.of_below HB2.out HW.out.hi)⟩

set_option maxHeartbeats 1000000 in
theorem write_3 (B A : Nat) (bs : List UInt8) (b : Bool) (U : Nat) (N : Int) (S : ByteArray) (w : World) (h : Wr B w A bs) (hfit : bs.length + 80000 ≤ 140737488355328) (hU : U < 18446744073709551616) :
    Calls Try.prog 11 #[.pointer (some ⟨A, 0, none⟩), .agg #[.int .i64 3, .bool b, .int .u64 U, .int .i64 N, .string S]] w fun e w' => e = .returned (.tuple #[.string ⟨(num 16 U (usz U)).toArray⟩, .bool true]) ∧ Wr B w' A (bs ++ num 16 U (usz U)) ∧ Below B w w' ∧ Keep A w w' := by
  have Hbx := Lib.hid (box_kept h #[.int .i64 3, .bool b, .int .u64 U, .int .i64 N, .string S] 33)
  have K0 := Lib.hid (fun o => Keep.alloc w o h.hi)
  have B0 : Hid (Below B w (w.alloc (.cells #[.int .i64 3, .bool b, .int .u64 U, .int .i64 N, .string S] 33))) := (Below.refl _ _).alloc (lo_size h) _
  have W0 := wr_box h (.cells #[.int .i64 3, .bool b, .int .u64 U, .int .i64 N, .string S] 33)
  have L0 := lo_size W0
  have H0 := unsigned_any B A bs U _ W0 (by omega) hU
  have HR0 := fun w => refUnsigned_any U w hU
  obtain ⟨cc, hcc⟩ : ∃ cc, cc = num 16 U (usz U) := ⟨_, rfl⟩
  rw [← hcc] at H0 HR0 ⊢
  have H := Lib.hid H0; have HR := Lib.hid HR0; clear H0 HR0 hcc W0
  go_enter Try.func11, Try.ntmps11
  go_wp2_with fail
  refine H.out.mono ?_
  rintro e w1 ⟨rfl, hw, hb, hkp⟩
  have c1 := Hbx.out w1 hkp 2
  have HW := Lib.hid hw; have HB1 := Lib.hid (B0.out.trans hb); clear hw hb
  have HKP := Lib.hid hkp; clear hkp
  go_wp2_with fail
  refine (HR.out _).mono ?_
  rintro e w2 ⟨rfl, hb2⟩
  have HB2 := Lib.hid hb2; clear hb2
  go_wp2
  go_ret2
  exact ⟨rfl, HW.out.below HB2.out, HB1.out.trans (HB2.out.mono (lo_size HW.out)), ((K0.out _).trans HKP.out).trans (Keep.of_below HB2.out HW.out.hi)⟩

set_option maxHeartbeats 1000000 in
theorem write_4 (B A : Nat) (bs : List UInt8) (b : Bool) (U : Nat) (N : Int) (S : ByteArray) (w : World) (h : Wr B w A bs) (hfit : bs.length + 80000 ≤ 140737488355328) (h1 : -9223372036854775808 ≤ N) (h2 : N ≤ 9223372036854775807) :
    Calls Try.prog 11 #[.pointer (some ⟨A, 0, none⟩), .agg #[.int .i64 4, .bool b, .int .u64 U, .int .i64 N, .string S]] w fun e w' => e = .returned (.tuple #[.string ⟨(num 32 (word N) (ssz N)).toArray⟩, .bool true]) ∧ Wr B w' A (bs ++ num 32 (word N) (ssz N)) ∧ Below B w w' ∧ Keep A w w' := by
  have Hbx := Lib.hid (box_kept h #[.int .i64 4, .bool b, .int .u64 U, .int .i64 N, .string S] 33)
  have K0 := Lib.hid (fun o => Keep.alloc w o h.hi)
  have B0 : Hid (Below B w (w.alloc (.cells #[.int .i64 4, .bool b, .int .u64 U, .int .i64 N, .string S] 33))) := (Below.refl _ _).alloc (lo_size h) _
  have W0 := wr_box h (.cells #[.int .i64 4, .bool b, .int .u64 U, .int .i64 N, .string S] 33)
  have L0 := lo_size W0
  have H0 := signed_any B A bs N _ W0 (by omega) h1 h2
  have HR0 := fun w => refSigned_any N w h1 h2
  obtain ⟨cc, hcc⟩ : ∃ cc, cc = num 32 (word N) (ssz N) := ⟨_, rfl⟩
  rw [← hcc] at H0 HR0 ⊢
  have H := Lib.hid H0; have HR := Lib.hid HR0; clear H0 HR0 hcc W0
  go_enter Try.func11, Try.ntmps11
  go_wp2_with fail
  refine H.out.mono ?_
  rintro e w1 ⟨rfl, hw, hb, hkp⟩
  have c1 := Hbx.out w1 hkp 3
  have HW := Lib.hid hw; have HB1 := Lib.hid (B0.out.trans hb); clear hw hb
  have HKP := Lib.hid hkp; clear hkp
  go_wp2_with fail
  refine (HR.out _).mono ?_
  rintro e w2 ⟨rfl, hb2⟩
  have HB2 := Lib.hid hb2; clear hb2
  go_wp2
  go_ret2
  exact ⟨rfl, HW.out.below HB2.out, HB1.out.trans (HB2.out.mono (lo_size HW.out)), ((K0.out _).trans HKP.out).trans (Keep.of_below HB2.out HW.out.hi)⟩

set_option maxHeartbeats 1000000 in
theorem write_5 (B A : Nat) (bs : List UInt8) (b : Bool) (U : Nat) (N : Int) (S : ByteArray) (w : World) (h : Wr B w A bs) (hfit : bs.length + 80000 ≤ 140737488355328) (hS : S.size ≤ 65535) :
    Calls Try.prog 11 #[.pointer (some ⟨A, 0, none⟩), .agg #[.int .i64 5, .bool b, .int .u64 U, .int .i64 N, .string S]] w fun e w' => e = .returned (.tuple #[.string ⟨(48 :: num 16 S.size (usz S.size) ++ sb S).toArray⟩, .bool true]) ∧ Wr B w' A (bs ++ (48 :: num 16 S.size (usz S.size) ++ sb S)) ∧ Below B w w' ∧ Keep A w w' := by
  have Hbx := Lib.hid (box_kept h #[.int .i64 5, .bool b, .int .u64 U, .int .i64 N, .string S] 33)
  have K0 := Lib.hid (fun o => Keep.alloc w o h.hi)
  have B0 : Hid (Below B w (w.alloc (.cells #[.int .i64 5, .bool b, .int .u64 U, .int .i64 N, .string S] 33))) := (Below.refl _ _).alloc (lo_size h) _
  have W0 := wr_box h (.cells #[.int .i64 5, .bool b, .int .u64 U, .int .i64 N, .string S] 33)
  have L0 := lo_size W0
  have H0 := text_yes B A bs S _ W0 (by omega) hS
  have HR0 := fun w => refText_any S w (by omega)
  obtain ⟨cc, hcc⟩ : ∃ cc, cc = 48 :: num 16 S.size (usz S.size) ++ sb S := ⟨_, rfl⟩
  rw [← hcc] at H0 HR0 ⊢
  have H := Lib.hid H0; have HR := Lib.hid HR0; clear H0 HR0 hcc W0
  go_enter Try.func11, Try.ntmps11
  go_wp2_with fail
  refine H.out.mono ?_
  rintro e w1 ⟨rfl, hw, hb, hkp⟩
  have c1 := Hbx.out w1 hkp 4
  have HW := Lib.hid hw; have HB1 := Lib.hid (B0.out.trans hb); clear hw hb
  have HKP := Lib.hid hkp; clear hkp
  go_wp2_with fail
  refine (HR.out _).mono ?_
  rintro e w2 ⟨rfl, hb2⟩
  have HB2 := Lib.hid hb2; clear hb2
  go_wp2
  go_ret2
  exact ⟨rfl, HW.out.below HB2.out, HB1.out.trans (HB2.out.mono (lo_size HW.out)), ((K0.out _).trans HKP.out).trans (Keep.of_below HB2.out HW.out.hi)⟩


set_option maxHeartbeats 1000000 in
theorem write_5no (B A : Nat) (bs : List UInt8) (b : Bool) (U : Nat) (N : Int) (S : ByteArray) (w : World) (h : Wr B w A bs) (hS : 65535 < S.size) (hS2 : S.size ≤ 70000) :
    Calls Try.prog 11 #[.pointer (some ⟨A, 0, none⟩), .agg #[.int .i64 5, .bool b, .int .u64 U, .int .i64 N, .string S]] w fun e w' => e = .returned (.tuple #[.string ⟨#[]⟩, .bool true]) ∧ Wr B w' A bs ∧ Below B w w' ∧ Keep A w w' := by
  have W0 := Lib.hid (wr_box h (.cells #[.int .i64 5, .bool b, .int .u64 U, .int .i64 N, .string S] 33))
  have K0 := Lib.hid (fun o => Keep.alloc w o h.hi)
  have B0 : Hid (Below B w (w.alloc (.cells #[.int .i64 5, .bool b, .int .u64 U, .int .i64 N, .string S] 33))) := (Below.refl _ _).alloc (lo_size h) _
  go_enter Try.func11, Try.ntmps11
  go_wp2_with fail
  refine (text_no A S _ hS (by omega)).mono ?_
  rintro e w1 ⟨rfl, rfl⟩
  go_wp2
  go_ret2
  exact ⟨rfl, W0.out, B0.out, K0.out _⟩

set_option maxHeartbeats 1000000 in
theorem write_6 (B A : Nat) (bs : List UInt8) (b : Bool) (U : Nat) (n : Nat) (S : ByteArray) (w : World) (h : Wr B w A bs) (hfit : bs.length + 80000 ≤ 140737488355328) (hn : n ≤ 65535) :
    Calls Try.prog 11 #[.pointer (some ⟨A, 0, none⟩), .agg #[.int .i64 6, .bool b, .int .u64 U, .int .i64 n, .string S]] w fun e w' => e = .returned (.tuple #[.string ⟨(64 :: num 16 n (usz n)).toArray⟩, .bool true]) ∧ Wr B w' A (bs ++ 64 :: num 16 n (usz n)) ∧ Below B w w' ∧ Keep A w w' := by
  have Hbx := Lib.hid (box_kept h #[.int .i64 6, .bool b, .int .u64 U, .int .i64 n, .string S] 33)
  have K0 := Lib.hid (fun o => Keep.alloc w o h.hi)
  have B0 : Hid (Below B w (w.alloc (.cells #[.int .i64 6, .bool b, .int .u64 U, .int .i64 n, .string S] 33))) := (Below.refl _ _).alloc (lo_size h) _
  have W0 := wr_box h (.cells #[.int .i64 6, .bool b, .int .u64 U, .int .i64 n, .string S] 33)
  have H0 := list_yes B A bs n _ W0 (by omega) hn
  have HR0 := fun w => refHead_any n w hn
  obtain ⟨cc, hcc⟩ : ∃ cc, cc = 64 :: num 16 n (usz n) := ⟨_, rfl⟩
  rw [← hcc] at H0 HR0 ⊢
  have H := Lib.hid H0; have HR := Lib.hid HR0; clear H0 HR0 hcc W0
  have hd : decide ((n : Int) < 0) = false := by simp
  go_enter Try.func11, Try.ntmps11
  go_wp2_with fail
  refine H.out.mono ?_
  rintro e w1 ⟨rfl, hw, hb, hkp⟩
  have c1 := Hbx.out w1 hkp 3
  have HW := Lib.hid hw; have HB1 := Lib.hid (B0.out.trans hb); clear hw hb
  have HKP := Lib.hid hkp; clear hkp
  go_wp2_with fail
  refine (HR.out _).mono ?_
  rintro e w2 ⟨rfl, hb2⟩
  have HB2 := Lib.hid hb2; clear hb2
  go_wp2
  go_ret2
  exact ⟨rfl, HW.out.below HB2.out, HB1.out.trans (HB2.out.mono (lo_size HW.out)), ((K0.out _).trans HKP.out).trans (Keep.of_below HB2.out HW.out.hi)⟩

set_option maxHeartbeats 1000000 in
theorem write_6no (B A : Nat) (bs : List UInt8) (b : Bool) (U : Nat) (N : Int) (S : ByteArray) (w : World) (h : Wr B w A bs) (hN : N < 0 ∨ 65535 < N) :
    Calls Try.prog 11 #[.pointer (some ⟨A, 0, none⟩), .agg #[.int .i64 6, .bool b, .int .u64 U, .int .i64 N, .string S]] w fun e w' => e = .returned (.tuple #[.string ⟨#[]⟩, .bool true]) ∧ Wr B w' A bs ∧ Below B w w' ∧ Keep A w w' := by
  have W0 := Lib.hid (wr_box h (.cells #[.int .i64 6, .bool b, .int .u64 U, .int .i64 N, .string S] 33))
  have K0 := Lib.hid (fun o => Keep.alloc w o h.hi)
  have B0 : Hid (Below B w (w.alloc (.cells #[.int .i64 6, .bool b, .int .u64 U, .int .i64 N, .string S] 33))) := (Below.refl _ _).alloc (lo_size h) _
  have H := Lib.hid (list_no A N (w.alloc (.cells #[.int .i64 6, .bool b, .int .u64 U, .int .i64 N, .string S] 33)) hN)
  rcases hN with hN | hN
  · go_enter Try.func11, Try.ntmps11
    go_wp2_with fail
    refine H.out.mono ?_
    rintro e w1 ⟨rfl, rfl⟩
    go_wp2
    go_ret2
    exact ⟨rfl, W0.out, B0.out, K0.out _⟩
  · have hd : decide (N < 0) = false := by simp; omega
    go_enter Try.func11, Try.ntmps11
    go_wp2_with fail
    refine H.out.mono ?_
    rintro e w1 ⟨rfl, rfl⟩
    go_wp2
    go_ret2
    exact ⟨rfl, W0.out, B0.out, K0.out _⟩

set_option maxHeartbeats 1000000 in
theorem write_0 (B A : Nat) (bs : List UInt8) (K : Int) (b : Bool) (U : Nat) (N : Int) (S : ByteArray) (w : World) (h : Wr B w A bs)
    (h1 : (K == 1) = false) (h2 : (K == 2) = false) (h3 : (K == 3) = false) (h4 : (K == 4) = false) (h5 : (K == 5) = false) (h6 : (K == 6) = false) :
    Calls Try.prog 11 #[.pointer (some ⟨A, 0, none⟩), .agg #[.int .i64 K, .bool b, .int .u64 U, .int .i64 N, .string S]] w fun e w' => e = .returned (.tuple #[.string ⟨#[]⟩, .bool true]) ∧ Wr B w' A bs ∧ Below B w w' ∧ Keep A w w' := by
  have W0 := Lib.hid (wr_box h (.cells #[.int .i64 K, .bool b, .int .u64 U, .int .i64 N, .string S] 33))
  have K0 := Lib.hid (fun o => Keep.alloc w o h.hi)
  have B0 : Hid (Below B w (w.alloc (.cells #[.int .i64 K, .bool b, .int .u64 U, .int .i64 N, .string S] 33))) := (Below.refl _ _).alloc (lo_size h) _
  go_enter Try.func11, Try.ntmps11
  go_wp2
  go_ret2
  exact ⟨rfl, W0.out, B0.out, K0.out _⟩

theorem write_any (B A : Nat) (bs : List UInt8) (v : V) (w : World) (hv : v.Ok) (h : Wr B w A bs) (hfit : bs.length + 80000 ≤ 140737488355328) : Calls Try.prog 11 #[.pointer (some ⟨A, 0, none⟩), v.val] w (WPost B A bs v w) := by
  obtain ⟨K, b, U, N, S⟩ := v
  have hu : U < 18446744073709551616 := hv.u
  have hn1 : -9223372036854775808 ≤ N := hv.n1
  have hn2 : N ≤ 9223372036854775807 := hv.n2
  have hs : S.size ≤ 70000 := hv.s
  unfold WPost V.val encL
  simp only
  by_cases k1 : K = 1
  · subst k1; rw [if_pos rfl]; exact write_1 B A bs b U N S w h hfit
  rw [if_neg k1]
  by_cases k2 : K = 2
  · subst k2; rw [if_pos rfl]; exact write_2 B A bs b U N S w h hfit
  rw [if_neg k2]
  by_cases k3 : K = 3
  · subst k3; rw [if_pos rfl]; exact write_3 B A bs b U N S w h hfit hu
  rw [if_neg k3]
  by_cases k4 : K = 4
  · subst k4; rw [if_pos rfl]; exact write_4 B A bs b U N S w h hfit hn1 hn2
  rw [if_neg k4]
  by_cases k5 : K = 5
  · subst k5; rw [if_pos rfl]
    by_cases hS : S.size ≤ 65535
    · rw [if_pos hS]; exact write_5 B A bs b U N S w h hfit hS
    · rw [if_neg hS, List.append_nil]; exact write_5no B A bs b U N S w h (by omega) hs
  rw [if_neg k5]
  by_cases k6 : K = 6
  · subst k6; rw [if_pos rfl]
    by_cases hN : 0 ≤ N ∧ N ≤ 65535
    · rw [if_pos hN]
      obtain ⟨n, rfl⟩ : ∃ n : Nat, N = n := ⟨N.toNat, by omega⟩
      rw [Int.toNat_natCast]
      exact write_6 B A bs b U n S w h hfit (by omega)
    · rw [if_neg hN, List.append_nil]; exact write_6no B A bs b U N S w h (by omega)
  rw [if_neg k6, List.append_nil]
  exact write_0 B A bs K b U N S w h (beq_eq_false_iff_ne.2 k1) (beq_eq_false_iff_ne.2 k2) (beq_eq_false_iff_ne.2 k3) (beq_eq_false_iff_ne.2 k4) (beq_eq_false_iff_ne.2 k5) (beq_eq_false_iff_ne.2 k6)
end Go.Proofs.Ytlhgbnjflemiiaa
