/- Contracts of civil.twoDigits, Text, Clock, and of the specification's two, Text, Clock. Asked: the tables read as laid. -/
import Derived.Test.YtnlkalnpmnnadaaDoorE
import Derived.Deep.RegionHeld3
import Derived.Test.YtnlkalnpmnnadaaDoorShelf
import Derived.Shelf.Strings.SlTrimAscii
import Derived.Lib.AppendIntMem
import Derived.Lib.ItoaLen
import Derived.Lib.ItoaMem
namespace Go.Proofs.YtnlkalnpmnnadaaDoor
open Go.RowKit

/-- strconv's table reads as laid -/
def Tab (w : World) : Prop := Lib.TabIs Tryd.prog w "internal/strconv.uint64pow10" .u64 Lib.pow10Tab
theorem Tab.below {w w' : World} (h : Tab w) (hb : Below w.heap.size w w') : Tab w' := Go.Joins.tab_stays (g := 1) (by kernel_rfl) h hb (Nat.le_refl _)
theorem itoa_any (n : Int) (w : World) (h0 : -9223372036854775808 ≤ n) (h1 : n ≤ 9223372036854775807) (ht : Tab w) :
    Calls Tryd.prog 40 #[.int .i64 n] w fun e w' => e = .returned (.string ⟨(Lib.itoa n).toArray⟩) ∧ Below w.heap.size w w' := by
  refine (Tryd.strconv_Itoa n h0 h1 w ht).mono ?_
  rintro e w' ⟨rfl, k, os, rfl⟩
  exact ⟨rfl, Go.Lib.below_grow _ _ (Nat.le_refl _) _ _⟩

def bs (l : List UInt8) : ByteArray := ⟨l.toArray⟩
theorem bs_size (l : List UInt8) : (bs l).size = l.length := by unfold bs; exact List.size_toArray
theorem bs_data (l : List UInt8) : (bs l).data.toList = l := rfl
theorem bs_eta (s : ByteArray) : bs s.data.toList = s := rfl
theorem bytes_ext {a b : ByteArray} (h : a.data.toList = b.data.toList) : a = b := by obtain ⟨⟨l⟩⟩ := a; obtain ⟨⟨m⟩⟩ := b; exact congrArg (fun l => ByteArray.mk (Array.mk l)) h
theorem bs_append (l m : List UInt8) : bs l ++ bs m = bs (l ++ m) := by
  refine bytes_ext ?_
  rw [ByteArray.data_append]; simp [bs]

/-- a digit -/
def dgt (n : Nat) : UInt8 := UInt8.ofNat (48 + n % 10)
/-- the last two digits -/
def two (n : Int) : List UInt8 := [dgt (n.toNat / 10), dgt n.toNat]
theorem dec_step (u : Nat) (h : ¬ u < 10) : Lib.decDigits u = Lib.decDigits (u / 10) ++ [dgt u] := by rw [Lib.decDigits, dif_neg h]; rfl
theorem dec_small (u : Nat) (h : u < 10) : Lib.decDigits u = [dgt u] := by rw [Lib.decDigits_one h]; unfold dgt; rw [Nat.mod_eq_of_lt h]
theorem dec_hundred (u : Nat) (h : u < 100) : Lib.decDigits (100 + u) = [49, dgt (u / 10), dgt u] := by
  rw [dec_step _ (by omega), dec_step _ (by omega), dec_small _ (by omega)]
  have e1 : (100 + u) / 10 / 10 = 1 := by omega
  have e2 : dgt ((100 + u) / 10) = dgt (u / 10) := by unfold dgt; rw [show (100 + u) / 10 % 10 = u / 10 % 10 by omega]
  have e3 : dgt (100 + u) = dgt u := by unfold dgt; rw [show (100 + u) % 10 = u % 10 by omega]
  rw [e1, e2, e3]; rfl
theorem dec_four (u : Nat) (h1 : 1000 ≤ u) (h2 : u < 10000) : Lib.decDigits u = [dgt (u / 1000), dgt (u / 100), dgt (u / 10), dgt u] := by
  rw [dec_step _ (by omega), dec_step _ (by omega), dec_step _ (by omega), dec_small _ (by omega)]
  have e1 : u / 10 / 10 / 10 = u / 1000 := by omega
  have e2 : u / 10 / 10 = u / 100 := by omega
  rw [e1, e2]; rfl

set_option maxHeartbeats 400000 in
theorem twoDigits_any (n : Int) (w : World) (h0 : 0 ≤ n) (h1 : n < 100) (ht : Tab w) :
    Calls Tryd.prog 41 #[.int .i64 n] w fun e w' => e = .returned (.string (bs (two n))) ∧ Below w.heap.size w w' := by
  have HI := itoa_any (100 + n) w (by omega) (by omega) ht
  have e : Lib.itoa (100 + n) = 49 :: two n := by
    rw [show 100 + n = ((100 + n.toNat : Nat) : Int) by omega, Lib.itoa_nonneg, dec_hundred _ (by omega)]; rfl
  rw [e] at HI
  have hs : (⟨(49 :: two n).toArray⟩ : ByteArray).size = 3 := rfl
  have he : (⟨(49 :: two n).toArray⟩ : ByteArray).extract 1 3 = bs (two n) := by
    refine bytes_ext ?_
    rw [Lib.extract_data]; rfl
  obtain ⟨S, hS⟩ : ∃ S, S = (⟨(49 :: two n).toArray⟩ : ByteArray) := ⟨_, rfl⟩
  rw [← hS] at HI hs he
  obtain ⟨T, hT⟩ : ∃ T, T = bs (two n) := ⟨_, rfl⟩
  rw [← hT] at he ⊢
  have HI := Lib.hid HI
  clear hS hT e ht
  go_enter Tryd.func41, Tryd.ntmps41
  go_wp2_with fail
  refine HI.out.mono ?_
  rintro e w1 ⟨rfl, hb⟩
  go_wp2_with fail
  go_ret
  exact ⟨rfl, hb⟩

set_option maxRecDepth 100000 in
set_option maxHeartbeats 400000 in
theorem rtwo_any (n : Int) (w : World) (h0 : 0 ≤ n) (h1 : n < 100000) :
    Calls Tryd.prog 42 #[.int .i64 n] w fun e w' => e = .returned (.string (bs (two n))) ∧ Below w.heap.size w w' := by
  have hk := run_convert_bytes_arg (P := Tryd.prog) (w.alloc (Obj.cells #[.int .u8 (48 + n / 10 % 10), .int .u8 (48 + n % 10)] 5)) 65 5 Tryd.underlying65 Tryd.underlying5 w.heap.size 0 2 2 [48 + n / 10 % 10, 48 + n % 10] rfl
    (fun i hi => by
      rcases (by omega : i = 0 ∨ i = 1) with rfl | rfl
      · simp
      · simp) 9 Tryd.underlying9
  have e : strOfNums [48 + n / 10 % 10, 48 + n % 10] = bs (two n) := by
    refine bytes_ext ?_
    show [UInt8.ofNat (48 + n / 10 % 10).toNat, UInt8.ofNat (48 + n % 10).toNat] = [dgt (n.toNat / 10), dgt n.toNat]
    unfold dgt
    rw [show (48 + n / 10 % 10).toNat = 48 + n.toNat / 10 % 10 by omega, show (48 + n % 10).toNat = 48 + n.toNat % 10 by omega]
  rw [e] at hk
  clear e
  go_enter Tryd.func42, Tryd.ntmps42
  go_wp2_with fail
  go_ret
  exact ⟨rfl, (Below.refl _ _).alloc (Nat.le_refl _) _⟩

/-- the text of a date -/
def dateL (y m d : Int) : List UInt8 := two (y / 100) ++ two y ++ [45] ++ two m ++ [45] ++ two d
def clockL (n : Int) : List UInt8 := two (n / 60) ++ [58] ++ two (n % 60)
theorem two_len (n : Int) : (two n).length = 2 := rfl
theorem itoa_year (y : Int) (h1 : 1000 ≤ y) (h2 : y < 10000) : Lib.itoa y = two (y / 100) ++ two y := by
  rw [show y = ((y.toNat : Nat) : Int) by omega, Lib.itoa_nonneg, dec_four _ (by omega) (by omega)]
  unfold two
  have e1 : (((y.toNat : Nat) : Int) / 100).toNat = y.toNat / 100 := by omega
  have e2 : ((y.toNat : Nat) : Int).toNat = y.toNat := by omega
  have e3 : y.toNat / 100 / 10 = y.toNat / 1000 := by omega
  rw [e1, e2, e3]; rfl

set_option maxHeartbeats 1000000 in
theorem clock_yes (n : Int) (w : World) (h0 : 0 ≤ n) (h1 : n < 1440) (ht : Tab w) :
    Calls Tryd.prog 36 #[.int .i64 n] w fun e w' => e = .returned (.tuple #[.string (bs (clockL n)), .int .i64 0]) ∧ Below w.heap.size w w' := by
  have hc := checkMinute_any n w
  rw [if_pos ⟨h0, h1⟩] at hc
  have HC := Lib.hid hc
  have HA := Lib.hid (twoDigits_any (n / 60) w (by omega) (by omega) ht)
  have HB := Lib.hid fun w' (hb : Below w.heap.size w w') => twoDigits_any (n % 60) w' (by omega) (by omega) (ht.below hb)
  have e : bs (clockL n) = bs (two (n / 60)) ++ ⟨#[58]⟩ ++ bs (two (n % 60)) := by
    rw [show (⟨#[58]⟩ : ByteArray) = bs [58] from rfl, bs_append, bs_append]; rfl
  have s1 : (bs (two (n / 60))).size = 2 := bs_size _
  have s2 : (bs (two (n % 60))).size = 2 := bs_size _
  rw [e]
  obtain ⟨S, hS⟩ : ∃ S, S = bs (two (n / 60)) := ⟨_, rfl⟩
  obtain ⟨T, hT⟩ : ∃ T, T = bs (two (n % 60)) := ⟨_, rfl⟩
  rw [← hS] at HA s1 ⊢
  rw [← hT] at HB s2 ⊢
  have g1 : ¬ 9223372036854775807 < S.size + 1 := by omega
  have g2 : ¬ 9223372036854775807 < S.size + 1 + T.size := by omega
  clear hc e hS hT ht s1 s2
  go_enter Tryd.func36, Tryd.ntmps36
  go_wp2_with fail
  refine HC.out.mono ?_
  rintro e w' ⟨rfl, rfl⟩
  go_wp2_with fail
  refine HA.out.mono ?_
  rintro e w1 ⟨rfl, hb1⟩
  have B1 := Lib.hid hb1
  clear hb1
  go_wp2_with fail
  refine (HB.out _ B1.out).mono ?_
  rintro e w2 ⟨rfl, hb2⟩
  have B2 := Lib.hid (B1.out.trans (hb2.mono B1.out.size))
  clear hb2
  go_wp2_with fail
  go_ret2
  exact ⟨rfl, B2.out⟩

set_option maxHeartbeats 400000 in
theorem clock_no (n : Int) (w : World) (h : ¬ (0 ≤ n ∧ n < 1440)) :
    Calls Tryd.prog 36 #[.int .i64 n] w fun e w' => e = .returned (.tuple #[.string ⟨#[]⟩, .int .i64 6]) ∧ w = w' := by
  have hc := checkMinute_any n w
  rw [if_neg h] at hc
  have HC := Lib.hid hc
  clear hc h
  go_enter Tryd.func36, Tryd.ntmps36
  go_wp2_with fail
  refine HC.out.mono ?_
  rintro e w' ⟨rfl, rfl⟩
  go_wp2_with fail
  go_ret2
  exact ⟨rfl, rfl⟩

set_option maxHeartbeats 1000000 in
theorem rclock_any (n : Int) (w : World) (h0 : 0 ≤ n) (h1 : n < 1440) :
    Calls Tryd.prog 37 #[.int .i64 n] w fun e w' => e = .returned (.string (bs (clockL n))) ∧ Below w.heap.size w w' := by
  have HA := Lib.hid (rtwo_any (n / 60) w (by omega) (by omega))
  have HB := Lib.hid fun w' => rtwo_any (n % 60) w' (by omega) (by omega)
  have e : bs (clockL n) = bs (two (n / 60)) ++ ⟨#[58]⟩ ++ bs (two (n % 60)) := by
    rw [show (⟨#[58]⟩ : ByteArray) = bs [58] from rfl, bs_append, bs_append]; rfl
  have s1 : (bs (two (n / 60))).size = 2 := bs_size _
  have s2 : (bs (two (n % 60))).size = 2 := bs_size _
  rw [e]
  obtain ⟨S, hS⟩ : ∃ S, S = bs (two (n / 60)) := ⟨_, rfl⟩
  obtain ⟨T, hT⟩ : ∃ T, T = bs (two (n % 60)) := ⟨_, rfl⟩
  rw [← hS] at HA s1 ⊢
  rw [← hT] at HB s2 ⊢
  have g1 : ¬ 9223372036854775807 < S.size + 1 := by omega
  have g2 : ¬ 9223372036854775807 < S.size + 1 + T.size := by omega
  clear e hS hT s1 s2
  go_enter Tryd.func37, Tryd.ntmps37
  go_wp2_with fail
  refine HA.out.mono ?_
  rintro e w1 ⟨rfl, hb1⟩
  have B1 := Lib.hid hb1
  clear hb1
  go_wp2_with fail
  refine (HB.out _).mono ?_
  rintro e w2 ⟨rfl, hb2⟩
  have B2 := Lib.hid (B1.out.trans (hb2.mono B1.out.size))
  clear hb2
  go_wp2_with fail
  go_ret
  exact ⟨rfl, B2.out⟩

theorem text_no (y m d : Int) (w : World) (hT : BefT w) (h : checkI y m d ≠ 0) :
    Calls Tryd.prog 18 #[dateV y m d] w fun e w' => e = .returned (.tuple #[.string ⟨#[]⟩, .int .i64 (checkI y m d)]) ∧ Below w.heap.size w w' := by
  have hc := fun w' (hb : Below w.heap.size w w') => check_any y m d w' (hT.below hb)
  obtain ⟨z, hz⟩ : ∃ z, z = checkI y m d := ⟨_, rfl⟩
  rw [← hz] at h hc ⊢
  have HC := Lib.hid hc
  have t0 : (z != 0) = true := by rw [bne_iff_ne]; exact h
  clear hT hc hz h
  go_enter Tryd.func18, Tryd.ntmps18
  go_wp2_with fail
  refine (HC.out _ ((Below.refl _ _).alloc (Nat.le_refl _) _)).mono ?_
  rintro e w1 ⟨rfl, hb1⟩
  have HB1 := Lib.hid hb1
  clear hb1
  go_wp2_with fail
  go_ret2
  exact ⟨rfl, ((Below.refl _ _).alloc (Nat.le_refl _) _).trans (HB1.out.mono (by simp))⟩

set_option maxHeartbeats 1000000 in
theorem text_yes (y m d : Int) (w : World) (hT : BefT w) (ht : Tab w) (h : IsD y m d) :
    Calls Tryd.prog 18 #[dateV y m d] w fun e w' => e = .returned (.tuple #[.string (bs (dateL y m d)), .int .i64 0]) ∧ Below w.heap.size w w' := by
  have hc := fun w' (hb : Below w.heap.size w w') => check_any y m d w' (hT.below hb)
  rw [(checkI_ok y m d).2 h] at hc
  have HC := Lib.hid hc
  have dr := dim_range y m h.m1 h.m2
  have HA := Lib.hid fun w' (hb : Below w.heap.size w w') => itoa_any y w' (by have := h.y1; omega) (by have := h.y2; omega) (ht.below hb)
  have HM := Lib.hid fun w' (hb : Below w.heap.size w w') => twoDigits_any m w' (by have := h.m1; omega) (by have := h.m2; omega) (ht.below hb)
  have HD := Lib.hid fun w' (hb : Below w.heap.size w w') => twoDigits_any d w' (by have := h.d1; omega) (by have := h.d2; omega) (ht.below hb)
  have e : bs (dateL y m d) = bs (Lib.itoa y) ++ ⟨#[45]⟩ ++ bs (two m) ++ ⟨#[45]⟩ ++ bs (two d) := by
    rw [show (⟨#[45]⟩ : ByteArray) = bs [45] from rfl, bs_append, bs_append, bs_append, bs_append, itoa_year y (by have := h.y1; omega) (by have := h.y2; omega)]; rfl
  have s0 : (bs (Lib.itoa y)).size = 4 := by rw [bs_size, itoa_year y (by have := h.y1; omega) (by have := h.y2; omega)]; rfl
  have s1 : (bs (two m)).size = 2 := bs_size _
  have s2 : (bs (two d)).size = 2 := bs_size _
  rw [e]
  change Hid (∀ w', Below w.heap.size w w' → Calls Tryd.prog 40 #[.int .i64 y] w' fun e w'' => e = .returned (.string (bs (Lib.itoa y))) ∧ Below w'.heap.size w' w'') at HA
  obtain ⟨R, hR⟩ : ∃ S, S = bs (Lib.itoa y) := ⟨_, rfl⟩
  obtain ⟨S, hS⟩ : ∃ S, S = bs (two m) := ⟨_, rfl⟩
  obtain ⟨T, hT'⟩ : ∃ T, T = bs (two d) := ⟨_, rfl⟩
  rw [← hR] at HA s0 ⊢
  rw [← hS] at HM s1 ⊢
  rw [← hT'] at HD s2 ⊢
  have g1 : ¬ 9223372036854775807 < R.size + 1 := by omega
  have g2 : ¬ 9223372036854775807 < R.size + 1 + S.size := by omega
  have g3 : ¬ 9223372036854775807 < R.size + 1 + S.size + 1 := by omega
  have g4 : ¬ 9223372036854775807 < R.size + 1 + S.size + 1 + T.size := by omega
  clear hc e hR hS hT' ht hT h s0 s1 s2 dr
  go_enter Tryd.func18, Tryd.ntmps18
  go_wp2_with fail
  refine (HC.out _ ((Below.refl _ _).alloc (Nat.le_refl _) _)).mono ?_
  rintro e w1 ⟨rfl, hb1⟩
  obtain ⟨hcl, hfr⟩ := bcell hb1
  have B1 := Lib.hid (((Below.refl w.heap.size w).alloc (Nat.le_refl _) _).trans (hb1.mono (by simp)))
  have hz1 : w.heap.size < w1.heap.size := by have := hb1.size; simp at this; omega
  clear hb1
  go_wp2_with fail
  obtain ⟨N, hN⟩ : ∃ N, N = w.heap.size := ⟨_, rfl⟩
  have z0 : w1.cell? ⟨N, 0, none⟩ = some (.int .i64 y) := by rw [hN]; rw [hcl _ _ (by simp)]; simp
  have z1 : w1.cell? ⟨N, 1, none⟩ = some (.int .i64 m) := by rw [hN]; rw [hcl _ _ (by simp)]; simp
  have z2 : w1.cell? ⟨N, 2, none⟩ = some (.int .i64 d) := by rw [hN]; rw [hcl _ _ (by simp)]; simp
  rw [← hN] at B1 hz1 HA HM HD ⊢
  have HS := Lib.hid (show w1.drew.cell? ⟨N, 0, none⟩ = some (.int .i64 y) ∧ w1.drew.cell? ⟨N, 1, none⟩ = some (.int .i64 m) ∧ w1.drew.cell? ⟨N, 2, none⟩ = some (.int .i64 d) ∧ N < w1.drew.heap.size ∧ Below N w w1.drew from ⟨z0, z1, z2, hz1, B1.out.trans (below_drewN N w1 1)⟩)
  have HN := Lib.hid hN
  clear hcl hfr hN HC
  go_region_held3 (fun w' => w'.cell? ⟨N, 0, none⟩ = some (.int .i64 y) ∧ w'.cell? ⟨N, 1, none⟩ = some (.int .i64 m) ∧ w'.cell? ⟨N, 2, none⟩ = some (.int .i64 d) ∧ N < w'.heap.size ∧ Below N w w')
    (first | exact HS.out | (have hh := ‹_ ∧ _ ∧ _ ∧ _ < _ ∧ Below _ _ _›; exact ⟨(hb2.cell (p := ⟨N, 0, none⟩) hh.2.2.2.1).trans hh.1, (hb2.cell (p := ⟨N, 1, none⟩) hh.2.2.2.1).trans hh.2.1, (hb2.cell (p := ⟨N, 2, none⟩) hh.2.2.2.1).trans hh.2.2.1, Nat.lt_of_lt_of_le hh.2.2.2.1 hb2.size, hh.2.2.2.2.trans (hb2.mono (Nat.le_of_lt hh.2.2.2.1))⟩) | go_keep)
    (first | (go_at_call 40; have hh := ‹_ ∧ _ ∧ _ ∧ _ < _ ∧ Below _ _ _›; refine (HA.out _ hh.2.2.2.2).mono ?_; rintro e w2 ⟨rfl, hb2⟩) | (go_at_call_of 41 (Value.int IntKind.i64 m); have hh := ‹_ ∧ _ ∧ _ ∧ _ < _ ∧ Below _ _ _›; refine (HM.out _ hh.2.2.2.2).mono ?_; rintro e w2 ⟨rfl, hb2⟩) | (go_at_call 41; have hh := ‹_ ∧ _ ∧ _ ∧ _ < _ ∧ Below _ _ _›; refine (HD.out _ hh.2.2.2.2).mono ?_; rintro e w2 ⟨rfl, hb2⟩))
  have B2 := Lib.hid (hh.2.2.2.2.trans (hb2.mono (Nat.le_of_lt hh.2.2.2.1)))
  clear hb2 hh HS
  go_wp2_with fail
  go_ret2
  exact ⟨rfl, by rw [← HN.out]; exact B2.out⟩

set_option maxHeartbeats 1000000 in
theorem rtext_any (y m d : Int) (w : World) (h : IsD y m d) :
    Calls Tryd.prog 21 #[dateV y m d] w fun e w' => e = .returned (.string (bs (dateL y m d))) ∧ Below w.heap.size w w' := by
  have dr := dim_range y m h.m1 h.m2
  have HA := Lib.hid fun w => rtwo_any (y / 100) w (by have := h.y1; omega) (by have := h.y2; omega)
  have HY := Lib.hid fun w => rtwo_any y w (by have := h.y1; omega) (by have := h.y2; omega)
  have HM := Lib.hid fun w => rtwo_any m w (by have := h.m1; omega) (by have := h.m2; omega)
  have HD := Lib.hid fun w => rtwo_any d w (by have := h.d1; omega) (by have := h.d2; omega)
  have e : bs (dateL y m d) = bs (two (y / 100)) ++ bs (two y) ++ ⟨#[45]⟩ ++ bs (two m) ++ ⟨#[45]⟩ ++ bs (two d) := by
    rw [show (⟨#[45]⟩ : ByteArray) = bs [45] from rfl, bs_append, bs_append, bs_append, bs_append, bs_append]; rfl
  have s0 : (bs (two (y / 100))).size = 2 := bs_size _
  have s3 : (bs (two y)).size = 2 := bs_size _
  have s1 : (bs (two m)).size = 2 := bs_size _
  have s2 : (bs (two d)).size = 2 := bs_size _
  have y1 := h.y1
  have y2 := h.y2
  rw [e]
  obtain ⟨R, hR⟩ : ∃ S, S = bs (two (y / 100)) := ⟨_, rfl⟩
  obtain ⟨U, hU⟩ : ∃ S, S = bs (two y) := ⟨_, rfl⟩
  obtain ⟨S, hS⟩ : ∃ S, S = bs (two m) := ⟨_, rfl⟩
  obtain ⟨T, hT'⟩ : ∃ T, T = bs (two d) := ⟨_, rfl⟩
  rw [← hR] at HA s0 ⊢
  rw [← hU] at HY s3 ⊢
  rw [← hS] at HM s1 ⊢
  rw [← hT'] at HD s2 ⊢
  have g0 : ¬ 9223372036854775807 < R.size + U.size := by omega
  have g1 : ¬ 9223372036854775807 < R.size + U.size + 1 := by omega
  have g2 : ¬ 9223372036854775807 < R.size + U.size + 1 + S.size := by omega
  have g3 : ¬ 9223372036854775807 < R.size + U.size + 1 + S.size + 1 := by omega
  have g4 : ¬ 9223372036854775807 < R.size + U.size + 1 + S.size + 1 + T.size := by omega
  clear e hR hU hS hT' h s0 s1 s2 s3 dr
  go_enter Tryd.func21, Tryd.ntmps21
  go_wp2_with fail
  obtain ⟨N, hN⟩ : ∃ N, N = w.heap.size := ⟨_, rfl⟩
  obtain ⟨w1, hw1⟩ : ∃ w1, w1 = w.alloc (Obj.cells #[.int .i64 y, .int .i64 m, .int .i64 d] 23) := ⟨_, rfl⟩
  rw [← hw1, ← hN]
  have e0 : IntKind.i64.wrap (y.tdiv 100) = y / 100 := by rw [Int.tdiv_eq_ediv_of_nonneg (by omega)]; exact IntWalk.i64_in _ ⟨by omega, by omega⟩
  obtain ⟨q, hq⟩ : ∃ q, q = y / 100 := ⟨_, rfl⟩
  rw [← hq] at HA e0
  have z0 : w1.cell? ⟨N, 0, none⟩ = some (.int .i64 y) := by rw [hN, hw1]; simp
  have z1 : w1.cell? ⟨N, 1, none⟩ = some (.int .i64 m) := by rw [hN, hw1]; simp
  have z2 : w1.cell? ⟨N, 2, none⟩ = some (.int .i64 d) := by rw [hN, hw1]; simp
  have hz1 : N < w1.heap.size := by rw [hN, hw1]; simp
  have b1 : Below N w w1 := by rw [hN, hw1]; exact (Below.refl _ _).alloc (Nat.le_refl _) _
  have HS := Lib.hid (show w1.drew.cell? ⟨N, 0, none⟩ = some (.int .i64 y) ∧ w1.drew.cell? ⟨N, 1, none⟩ = some (.int .i64 m) ∧ w1.drew.cell? ⟨N, 2, none⟩ = some (.int .i64 d) ∧ N < w1.drew.heap.size ∧ Below N w w1.drew from ⟨z0, z1, z2, hz1, b1.trans (below_drewN N w1 1)⟩)
  have HN := Lib.hid hN
  clear hw1 hN b1 hq
  go_region_held3 (fun w' => w'.cell? ⟨N, 0, none⟩ = some (.int .i64 y) ∧ w'.cell? ⟨N, 1, none⟩ = some (.int .i64 m) ∧ w'.cell? ⟨N, 2, none⟩ = some (.int .i64 d) ∧ N < w'.heap.size ∧ Below N w w')
    (first | exact HS.out | (have hh := ‹_ ∧ _ ∧ _ ∧ _ < _ ∧ Below _ _ _›; exact ⟨(hb2.cell (p := ⟨N, 0, none⟩) hh.2.2.2.1).trans hh.1, (hb2.cell (p := ⟨N, 1, none⟩) hh.2.2.2.1).trans hh.2.1, (hb2.cell (p := ⟨N, 2, none⟩) hh.2.2.2.1).trans hh.2.2.1, Nat.lt_of_lt_of_le hh.2.2.2.1 hb2.size, hh.2.2.2.2.trans (hb2.mono (Nat.le_of_lt hh.2.2.2.1))⟩) | go_keep)
    (first | (go_at_call_of 42 (Value.int IntKind.i64 q); have hh := ‹_ ∧ _ ∧ _ ∧ _ < _ ∧ Below _ _ _›; refine (HA.out _).mono ?_; rintro e w2 ⟨rfl, hb2⟩) | (go_at_call_of 42 (Value.int IntKind.i64 y); have hh := ‹_ ∧ _ ∧ _ ∧ _ < _ ∧ Below _ _ _›; refine (HY.out _).mono ?_; rintro e w2 ⟨rfl, hb2⟩) | (go_at_call_of 42 (Value.int IntKind.i64 m); have hh := ‹_ ∧ _ ∧ _ ∧ _ < _ ∧ Below _ _ _›; refine (HM.out _).mono ?_; rintro e w2 ⟨rfl, hb2⟩) | (go_at_call_of 42 (Value.int IntKind.i64 d); have hh := ‹_ ∧ _ ∧ _ ∧ _ < _ ∧ Below _ _ _›; refine (HD.out _).mono ?_; rintro e w2 ⟨rfl, hb2⟩))
  have B2 := Lib.hid (hh.2.2.2.2.trans (hb2.mono (Nat.le_of_lt hh.2.2.2.1)))
  clear hb2 hh HS
  go_wp2_with fail
  go_ret
  exact ⟨rfl, by rw [← HN.out]; exact B2.out⟩
end Go.Proofs.YtnlkalnpmnnadaaDoor
