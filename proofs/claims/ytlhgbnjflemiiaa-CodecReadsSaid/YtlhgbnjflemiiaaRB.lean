/- The law's own read: what was written is read back. -/
import Derived.Test.YtlhgbnjflemiiaaZ
import Derived.Test.YtlhgbnjflemiiaaRA
import Derived.Deep.RegionWith
namespace Go.Proofs.Ytlhgbnjflemiiaa
open Go.RowKit

theorem RS.same {w w' : World} {A : Nat} {s : ByteArray} {off : Nat} {er : Int} (h : RS w A s off er) (e : w'.heap = w.heap) : RS w' A s off er := by
  have hc : ∀ a, w'.cell? a = w.cell? a := fun a => by simp [World.cell?, e]
  have hf : ∀ a, w'.frozen? a = w.frozen? a := fun a => by simp [World.frozen?, e]
  exact ⟨by rw [e]; exact h.hi, (hc _).trans h.c0, (hc _).trans h.c1, (hc _).trans h.c2, (hf _).trans h.f1, (hf _).trans h.f2, h.le, h.big⟩
theorem RS.alloc {w : World} {A : Nat} {s : ByteArray} {off : Nat} {er : Int} (h : RS w A s off er) (o : Obj) : RS (w.alloc o) A s off er :=
  ⟨by have := h.hi; simp; omega, by rw [World.cell?_alloc_past _ _ _ h.hi]; exact h.c0, by rw [World.cell?_alloc_past _ _ _ h.hi]; exact h.c1, by rw [World.cell?_alloc_past _ _ _ h.hi]; exact h.c2,
    by rw [World.frozen?_alloc_past _ _ _ h.hi]; exact h.f1, by rw [World.frozen?_alloc_past _ _ _ h.hi]; exact h.f2, h.le, h.big⟩
theorem RK.alloc (A : Nat) (w : World) (o : Obj) : RK A w (w.alloc o) := ⟨rfl, rfl, rfl, by simp, fun k hk _ => Below.heap_alloc _ _ _ hk⟩
theorem RK.cell {A : Nat} {w w' : World} (h : RK A w w') {k o : Nat} (hk : k < w.heap.size) (hA : k ≠ A) : w'.cell? ⟨k, o, none⟩ = w.cell? ⟨k, o, none⟩ := World.cell?_of_block (a := ⟨k, o, none⟩) (h.block k hk hA)
theorem RK.same {A : Nat} {w w' w2 : World} (h : RK A w' w2) (e : w'.heap = w.heap) (e1 : w'.os = w.os) (e2 : w'.tape = w.tape) (e3 : w'.output = w.output) : RK A w w2 :=
  ⟨h.os.trans e1, h.tape.trans e2, h.output.trans e3, e ▸ h.size, fun k hk hA => by rw [h.block k (by rw [e]; exact hk) hA, e]⟩

set_option maxHeartbeats 1000000 in
theorem read_3 (A : Nat) (s : ByteArray) (off : Nat) (x : List UInt8) (b : Bool) (U : Nat) (N : Int) (S : ByteArray) (w : World) (h : RS w A s off 0) (hU : U < 18446744073709551616) (hr : restL s off = num 16 U (usz U) ++ x) :
    Calls Try.prog 14 #[.pointer (some ⟨A, 0, none⟩), .agg #[.int .i64 3, .bool b, .int .u64 U, .int .i64 N, .string S]] w fun e w' => e = .returned (.bool true) ∧ RS w' A s (off + (1 + usz U)) 0 ∧ RK A w w' := by
  have hu : tkU (restL s off) = (U, 1 + usz U) := by rw [hr, tkU_app _ _ (by rw [tkU_num U hU]; simp), tkU_num U hU]
  have hk : kindL (restL s off) = 3 := by rw [hr, kindL_app _ _ (by unfold num; simp)]; exact num_kind 16 U _ 3 (.inl ⟨rfl, rfl⟩) (usz_pos U) (usz_8 U hU)
  have HK := fun W (h : RS W A s off 0) => kind_ok W A s off h
  have HU := fun W (h : RS W A s off 0) => runsigned_yes W A s off h (by rw [hu]; simp)
  rw [hk] at HK
  rw [hu] at HU
  have HK' := Lib.hid HK; have HU' := Lib.hid HU
  have H0 := Lib.hid (h.alloc (.cells #[.int .i64 3, .bool b, .int .u64 U, .int .i64 N, .string S] 33))
  have hAn : A < w.heap.size := h.hi
  clear HK HU hu hk hr h
  go_enter Try.func14, Try.ntmps14
  go_wp2
  go_quiet ((go_at_call 17; exact Calls.quiet_of (HK'.out _ (H0.out.same rfl))))
  go_wp2
  go_region_with (go_at_call 20; refine (HU'.out _ ?_).mono ?_; exact H0.out.same rfl; rintro e w1 ⟨rfl, hs, hk⟩; have cb := hk.cell (k := w.heap.size) (o := 2) (by simp) (by omega); have HS := Lib.hid hs; have HKK := Lib.hid hk; clear hs hk)
  all_goals (go_wp2; go_ret; exact ⟨rfl, HS.out, (RK.alloc A w _).trans (HKK.out.same rfl rfl rfl rfl)⟩)

theorem rest_head (s : ByteArray) (off : Nat) (c : UInt8) (x : List UInt8) (h : restL s off = c :: x) (hl : off < s.size) : s[off] = c := by
  have h' : off < s.data.toList.length := by rw [size_len]; exact hl
  have e : s[off] = s.data.toList[off]'h' := rfl
  unfold restL at h
  rw [List.drop_eq_getElem_cons h'] at h
  injection h with h1 _
theorem rest_pos (s : ByteArray) (off : Nat) (c : UInt8) (x : List UInt8) (h : restL s off = c :: x) : off < s.size := by
  have := congrArg List.length h
  rw [restL_length, List.length_cons] at this
  omega

set_option maxHeartbeats 1000000 in
theorem read_1 (A : Nat) (s : ByteArray) (off : Nat) (x : List UInt8) (b : Bool) (U : Nat) (N : Int) (S : ByteArray) (w : World) (h : RS w A s off 0) (hr : restL s off = 0 :: x) :
    Calls Try.prog 14 #[.pointer (some ⟨A, 0, none⟩), .agg #[.int .i64 1, .bool b, .int .u64 U, .int .i64 N, .string S]] w fun e w' => e = .returned (.bool true) ∧ RS w' A s (off + 1) 0 ∧ RK A w w' := by
  have hk : kindL (restL s off) = 1 := by rw [hr]; rfl
  have HK := fun W (h : RS W A s off 0) => kind_ok W A s off h
  have HU := fun W (h : RS W A s off 0) => rnull_yes W A s off h (by rw [hk]; rfl) (rest_pos s off _ x hr)
  rw [hk] at HK
  have HK' := Lib.hid HK; have HU' := Lib.hid HU
  have H0 := Lib.hid (h.alloc (.cells #[.int .i64 1, .bool b, .int .u64 U, .int .i64 N, .string S] 33))
  have hAn : A < w.heap.size := h.hi
  clear HK HU hk hr h
  go_enter Try.func14, Try.ntmps14
  go_wp2
  go_quiet ((go_at_call 17; exact Calls.quiet_of (HK'.out _ (H0.out.same rfl))))
  go_wp2_with fail
  refine (HU'.out _ ?_).mono ?_
  exact H0.out.same rfl
  rintro e w1 ⟨rfl, hs, hk⟩
  have HS := Lib.hid hs; have HKK := Lib.hid hk; clear hs hk
  go_wp2
  go_ret
  exact ⟨rfl, HS.out, (RK.alloc A w _).trans (HKK.out.same rfl rfl rfl rfl)⟩

set_option maxHeartbeats 1000000 in
theorem read_2 (A : Nat) (s : ByteArray) (off : Nat) (x : List UInt8) (b : Bool) (U : Nat) (N : Int) (S : ByteArray) (w : World) (h : RS w A s off 0) (hr : restL s off = (if b then 2 else 1) :: x) :
    Calls Try.prog 14 #[.pointer (some ⟨A, 0, none⟩), .agg #[.int .i64 2, .bool b, .int .u64 U, .int .i64 N, .string S]] w fun e w' => e = .returned (.bool true) ∧ RS w' A s (off + 1) 0 ∧ RK A w w' := by
  have hk : kindL (restL s off) = 2 := by rw [hr]; cases b <;> rfl
  have hpos := rest_pos s off _ x hr
  have hb : decide (s[off].toNat = 2) = b := by rw [rest_head s off _ x hr hpos]; cases b <;> rfl
  have HK := fun W (h : RS W A s off 0) => kind_ok W A s off h
  have HU := fun W (h : RS W A s off 0) => rbool_yes W A s off h (by rw [hk]; rfl) hpos
  rw [hb] at HU
  rw [hk] at HK
  have HK' := Lib.hid HK; have HU' := Lib.hid HU
  have H0 := Lib.hid (h.alloc (.cells #[.int .i64 2, .bool b, .int .u64 U, .int .i64 N, .string S] 33))
  have hAn : A < w.heap.size := h.hi
  clear HK HU hk hr h hb
  go_enter Try.func14, Try.ntmps14
  go_wp2
  go_quiet ((go_at_call 17; exact Calls.quiet_of (HK'.out _ (H0.out.same rfl))))
  go_wp2
  go_region_with (go_at_call 24; refine (HU'.out _ ?_).mono ?_; exact H0.out.same rfl; rintro e w1 ⟨rfl, hs, hk⟩; have cb := hk.cell (k := w.heap.size) (o := 1) (by simp) (by omega); have HS := Lib.hid hs; have HKK := Lib.hid hk; clear hs hk)
  all_goals (go_wp2; go_ret; exact ⟨rfl, HS.out, (RK.alloc A w _).trans (HKK.out.same rfl rfl rfl rfl)⟩)

set_option maxHeartbeats 1000000 in
theorem read_4 (A : Nat) (s : ByteArray) (off : Nat) (x : List UInt8) (b : Bool) (U : Nat) (N : Int) (S : ByteArray) (w : World) (h : RS w A s off 0) (h1 : -9223372036854775808 ≤ N) (h2 : N ≤ 9223372036854775807) (hr : restL s off = num 32 (word N) (ssz N) ++ x) :
    Calls Try.prog 14 #[.pointer (some ⟨A, 0, none⟩), .agg #[.int .i64 4, .bool b, .int .u64 U, .int .i64 N, .string S]] w fun e w' => e = .returned (.bool true) ∧ RS w' A s (off + (1 + ssz N)) 0 ∧ RK A w w' := by
  have hu : tkS (restL s off) = (N, 1 + ssz N) := by rw [hr, tkS_app _ _ (by rw [tkS_num N h1 h2]; simp), tkS_num N h1 h2]
  have hk : kindL (restL s off) = 4 := by rw [hr, kindL_app _ _ (by unfold num; simp)]; exact num_kind 32 _ _ 4 (.inr ⟨rfl, rfl⟩) (ssz_pos N) (ssz_8 N h1 h2)
  have HK := fun W (h : RS W A s off 0) => kind_ok W A s off h
  have HU := fun W (h : RS W A s off 0) => rsigned_yes W A s off h (by rw [hu]; simp)
  rw [hu] at HU
  rw [hk] at HK
  have HK' := Lib.hid HK; have HU' := Lib.hid HU
  have H0 := Lib.hid (h.alloc (.cells #[.int .i64 4, .bool b, .int .u64 U, .int .i64 N, .string S] 33))
  have hAn : A < w.heap.size := h.hi
  clear HK HU hk hr h hu
  go_enter Try.func14, Try.ntmps14
  go_wp2
  go_quiet ((go_at_call 17; exact Calls.quiet_of (HK'.out _ (H0.out.same rfl))))
  go_wp2
  go_region_with (go_at_call 21; refine (HU'.out _ ?_).mono ?_; exact H0.out.same rfl; rintro e w1 ⟨rfl, hs, hk⟩; have cb := hk.cell (k := w.heap.size) (o := 3) (by simp) (by omega); have HS := Lib.hid hs; have HKK := Lib.hid hk; clear hs hk)
  all_goals (go_wp2; go_ret; exact ⟨rfl, HS.out, (RK.alloc A w _).trans (HKK.out.same rfl rfl rfl rfl)⟩)

theorem text_back (s : ByteArray) (off : Nat) (S : ByteArray) (x : List UInt8) (hS : S.size ≤ 65535) (hr : restL s off = 48 :: (num 16 S.size (usz S.size) ++ (sb S ++ x))) : tkTs (s.extract off s.size) = S := by
  have hh := tkH_num 48 5 rfl S.size hS (sb S ++ x)
  have hn := tkTn_num (sb S) x (by rw [sb_length]; exact hS)
  rw [sb_length] at hn
  unfold tkTs
  rw [rest_list, hr, hn, if_neg (by omega), hh]
  apply ByteArray.ext
  apply Array.toList_inj.1
  rw [Lib.extract_data, rest_list, hr]
  have hl := num_length 16 S.size (usz S.size) (usz_8 _ (by omega))
  rw [show 48 :: (num 16 S.size (usz S.size) ++ (sb S ++ x)) = (48 :: num 16 S.size (usz S.size)) ++ (sb S ++ x) from rfl, List.drop_append_of_le_length (by rw [List.length_cons, hl]; simp only; omega), List.drop_of_length_le (by rw [List.length_cons, hl]; simp only; omega), List.nil_append]
  simp only
  rw [Nat.add_sub_cancel_left, List.take_append_of_le_length (by rw [sb_length]; exact Nat.le_refl _), List.take_of_length_le (by rw [sb_length]; exact Nat.le_refl _)]
  rfl

set_option maxHeartbeats 1000000 in
theorem read_5 (A : Nat) (s : ByteArray) (off : Nat) (x : List UInt8) (b : Bool) (U : Nat) (N : Int) (S : ByteArray) (w : World) (h : RS w A s off 0) (hS : S.size ≤ 65535) (hr : restL s off = 48 :: (num 16 S.size (usz S.size) ++ (sb S ++ x))) :
    Calls Try.prog 14 #[.pointer (some ⟨A, 0, none⟩), .agg #[.int .i64 5, .bool b, .int .u64 U, .int .i64 N, .string S]] w fun e w' => e = .returned (.bool true) ∧ RS w' A s (off + (2 + usz S.size + S.size)) 0 ∧ RK A w w' := by
  have hu : tkTn (restL s off) = 2 + usz S.size + S.size := by
    rw [hr]
    have := tkTn_num (sb S) x (by rw [sb_length]; exact hS)
    rw [sb_length] at this
    exact this
  have hts : tkTs (s.extract off s.size) = S := text_back s off S x hS hr
  have hk : kindL (restL s off) = 5 := by rw [hr]; rfl
  have HK := fun W (h : RS W A s off 0) => kind_ok W A s off h
  have HU := fun W (h : RS W A s off 0) => rtext_yes W A s off h (by rw [hu]; omega)
  rw [hu, hts] at HU
  rw [hk] at HK
  have HK' := Lib.hid HK; have HU' := Lib.hid HU
  have H0 := Lib.hid (h.alloc (.cells #[.int .i64 5, .bool b, .int .u64 U, .int .i64 N, .string S] 33))
  have hAn : A < w.heap.size := h.hi
  clear HK HU hk hr h hu hts
  go_enter Try.func14, Try.ntmps14
  go_wp2
  go_quiet ((go_at_call 17; exact Calls.quiet_of (HK'.out _ (H0.out.same rfl))))
  go_wp2
  go_region_with (go_at_call 22; refine (HU'.out _ ?_).mono ?_; exact H0.out.same rfl; rintro e w1 ⟨rfl, hs, hk⟩; have cb := hk.cell (k := w.heap.size) (o := 4) (by simp) (by omega); have HS := Lib.hid hs; have HKK := Lib.hid hk; clear hs hk)
  all_goals (go_wp2; go_ret; exact ⟨rfl, HS.out, (RK.alloc A w _).trans (HKK.out.same rfl rfl rfl rfl)⟩)

set_option maxHeartbeats 1000000 in
theorem read_6 (A : Nat) (s : ByteArray) (off : Nat) (x : List UInt8) (b : Bool) (U : Nat) (n : Nat) (S : ByteArray) (w : World) (h : RS w A s off 0) (hn : n ≤ 65535) (hr : restL s off = 64 :: (num 16 n (usz n) ++ x)) :
    Calls Try.prog 14 #[.pointer (some ⟨A, 0, none⟩), .agg #[.int .i64 6, .bool b, .int .u64 U, .int .i64 n, .string S]] w fun e w' => e = .returned (.bool true) ∧ RS w' A s (off + (2 + usz n)) 0 ∧ RK A w w' := by
  have hu : tkH (restL s off) 6 = (n, 2 + usz n) := by rw [hr]; exact tkH_num 64 6 rfl n hn x
  have hk : kindL (restL s off) = 6 := by rw [hr]; rfl
  have HK := fun W (h : RS W A s off 0) => kind_ok W A s off h
  have HU := fun W (h : RS W A s off 0) => rlist_yes W A s off h (by rw [hu]; simp)
  rw [hu] at HU
  rw [hk] at HK
  have HK' := Lib.hid HK; have HU' := Lib.hid HU
  have H0 := Lib.hid (h.alloc (.cells #[.int .i64 6, .bool b, .int .u64 U, .int .i64 n, .string S] 33))
  have hAn : A < w.heap.size := h.hi
  clear HK HU hk hr h hu
  go_enter Try.func14, Try.ntmps14
  go_wp2
  go_quiet ((go_at_call 17; exact Calls.quiet_of (HK'.out _ (H0.out.same rfl))))
  go_wp2
  go_region_with (go_at_call 23; refine (HU'.out _ ?_).mono ?_; exact H0.out.same rfl; rintro e w1 ⟨rfl, hs, hk⟩; have cb := hk.cell (k := w.heap.size) (o := 3) (by simp) (by omega); have HS := Lib.hid hs; have HKK := Lib.hid hk; clear hs hk)
  all_goals (go_wp2; go_ret; exact ⟨rfl, HS.out, (RK.alloc A w _).trans (HKK.out.same rfl rfl rfl rfl)⟩)

theorem read_any (A : Nat) (s : ByteArray) (off : Nat) (x : List UInt8) (v : V) (w : World) (h : RS w A s off 0) (hv : v.Ok) (hne : encL v ≠ []) (hr : restL s off = encL v ++ x) :
    Calls Try.prog 14 #[.pointer (some ⟨A, 0, none⟩), v.val] w fun e w' => e = .returned (.bool true) ∧ RS w' A s (off + (encL v).length) 0 ∧ RK A w w' := by
  obtain ⟨K, b, U, N, S⟩ := v
  have hu : U < 18446744073709551616 := hv.u
  have hn1 : -9223372036854775808 ≤ N := hv.n1
  have hn2 : N ≤ 9223372036854775807 := hv.n2
  unfold V.val
  unfold encL at hr hne ⊢
  simp only at hr hne ⊢
  by_cases k1 : K = 1
  · subst k1; rw [if_pos rfl] at hr ⊢; exact read_1 A s off x b U N S w h hr
  rw [if_neg k1] at hr hne ⊢
  by_cases k2 : K = 2
  · subst k2; rw [if_pos rfl] at hr ⊢; exact read_2 A s off x b U N S w h hr
  rw [if_neg k2] at hr hne ⊢
  by_cases k3 : K = 3
  · subst k3; rw [if_pos rfl] at hr ⊢; rw [num_length _ _ _ (usz_8 _ hu)]; exact read_3 A s off x b U N S w h hu hr
  rw [if_neg k3] at hr hne ⊢
  by_cases k4 : K = 4
  · subst k4; rw [if_pos rfl] at hr ⊢; rw [num_length _ _ _ (ssz_8 _ hn1 hn2)]; exact read_4 A s off x b U N S w h hn1 hn2 hr
  rw [if_neg k4] at hr hne ⊢
  by_cases k5 : K = 5
  · subst k5; rw [if_pos rfl] at hr hne ⊢
    by_cases hS : S.size ≤ 65535
    · rw [if_pos hS] at hr ⊢
      have hr' : restL s off = 48 :: (num 16 S.size (usz S.size) ++ (sb S ++ x)) := by rw [hr]; simp
      rw [List.length_append, List.length_cons, num_length _ _ _ (usz_8 _ (by omega)), sb_length, show off + (1 + usz S.size + 1 + S.size) = off + (2 + usz S.size + S.size) by omega]
      exact read_5 A s off x b U N S w h hS hr'
    · rw [if_neg hS] at hne; exact absurd rfl hne
  rw [if_neg k5] at hr hne ⊢
  by_cases k6 : K = 6
  · subst k6; rw [if_pos rfl] at hr hne ⊢
    by_cases hN : 0 ≤ N ∧ N ≤ 65535
    · rw [if_pos hN] at hr ⊢
      obtain ⟨n, rfl⟩ : ∃ n : Nat, N = n := ⟨N.toNat, by omega⟩
      rw [Int.toNat_natCast] at hr ⊢
      rw [List.length_cons, num_length _ _ _ (usz_8 _ (by omega)), show off + (1 + usz n + 1) = off + (2 + usz n) by omega]
      exact read_6 A s off x b U n S w h (by omega) hr
    · rw [if_neg hN] at hne; exact absurd rfl hne
  rw [if_neg k6] at hne
  exact absurd rfl hne
end Go.Proofs.Ytlhgbnjflemiiaa
