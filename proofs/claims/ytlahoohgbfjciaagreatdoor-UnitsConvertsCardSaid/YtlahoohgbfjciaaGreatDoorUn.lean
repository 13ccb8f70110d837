/- The contract of units.readNumber. Asked: the tables and sentinels of strconv read as laid. -/
import Derived.Test.YtlahoohgbfjciaaGreatDoorUl
import Derived.Test.YtlahoohgbfjciaaGreatDoorShelf
import Derived.Lib.SmallJoins
import Derived.Lib.AppendIntMem
import Derived.Lib.AtoiErrMem
namespace Go.Proofs.YtlahoohgbfjciaaGreatDoor
open Go.RowKit Go.Shelf

def Tab (w : World) : Prop := Lib.TabIs Tryz.prog w "internal/strconv.uint64pow10" .u64 Lib.pow10Tab
theorem Tab.below {w w' : World} (h : Tab w) (hb : Below w.heap.size w w') : Tab w' := Go.Joins.tab_stays (g := 3) (by kernel_rfl) h hb (Nat.le_refl _)
/-- what strconv reads, as laid -/
structure Gu (w : World) : Prop where
  syn : ∃ tp p, w.var? Tryz.prog "strconv.ErrSyntax" = some #[.iface tp p]
  ran : ∃ tp p, w.var? Tryz.prog "strconv.ErrRange" = some #[.iface tp p]
  tab : Tab w
theorem Gu.below {w w' : World} (h : Gu w) (hb : Below w.heap.size w w') : Gu w' := by
  obtain ⟨tp, p, hs⟩ := h.syn
  obtain ⟨tq, q, hr⟩ := h.ran
  exact ⟨⟨tp, p, Go.Joins.var_stays (g := 4) (by kernel_rfl) hs hb (Nat.le_refl _)⟩, ⟨tq, q, Go.Joins.var_stays (g := 5) (by kernel_rfl) hr hb (Nat.le_refl _)⟩, h.tab.below hb⟩
theorem format_any (n : Int) (h0 : -9223372036854775808 ≤ n) (h1 : n ≤ 9223372036854775807) (w : World) (ht : Tab w) :
    Calls Tryz.prog 51 #[.int .i64 n, .int .i64 10] w fun e w' => e = .returned (.string ⟨(Lib.itoa n).toArray⟩) ∧ Below w.heap.size w w' := by
  refine (Tryz.strconv_FormatInt_10 n h0 h1 w ht).mono ?_
  rintro e w' ⟨rfl, k, os, rfl⟩
  exact ⟨rfl, Go.Lib.below_grow _ _ (Nat.le_refl _) _ _⟩

/-- a number of a scale, or 0 -/
def numI (l : List UInt8) : Int := match Lib.parseIntB 64 l with
  | .ok v => if inScaleB v = true ∧ Lib.itoa v = l then v else 0
  | _ => 0

set_option maxHeartbeats 1000000 in
theorem num_err (x : Int) (s : ByteArray) (w : World)
    (HP : Hid (Calls Tryz.prog 69 #[.string s, .int .i64 10, .int .i64 64] w fun e w' => ∃ N, e = .returned (.tuple #[.int .i64 x, .iface 137 (.pointer (some ⟨N, 0, none⟩))]) ∧ Below w.heap.size w w')) :
    Calls Tryz.prog 56 #[.string s] w fun e w' => e = .returned (.int .i64 0) ∧ Below w.heap.size w w' := by
  go_enter Tryz.func56, Tryz.ntmps56
  go_wp2_with fail
  refine HP.out.mono ?_
  rintro e w' ⟨N, rfl, hb⟩
  have B := Lib.hid hb
  clear hb
  go_wp2_with fail
  go_ret
  exact ⟨rfl, B.out⟩
set_option maxHeartbeats 1000000 in
theorem num_scale (v : Int) (s : ByteArray) (w : World) (h1 : inScaleB v = false)
    (HP : Hid (Calls Tryz.prog 69 #[.string s, .int .i64 10, .int .i64 64] w fun e w' => e = .returned (.tuple #[.int .i64 v, .nilIface]) ∧ Below w.heap.size w w')) :
    Calls Tryz.prog 56 #[.string s] w fun e w' => e = .returned (.int .i64 0) ∧ Below w.heap.size w w' := by
  have HI := Lib.hid fun w => (by have h := inScale_any v w; rw [h1] at h; exact h : Calls Tryz.prog 23 #[.int .i64 v] w fun e w' => e = .returned (.bool false) ∧ w = w')
  go_enter Tryz.func56, Tryz.ntmps56
  go_wp2_with fail
  refine HP.out.mono ?_
  rintro e w' ⟨rfl, hb⟩
  have B := Lib.hid hb
  clear hb h1
  go_wp2_with fail
  refine (HI.out _).mono ?_
  rintro e w' ⟨rfl, rfl⟩
  go_wp2_with fail
  go_ret
  exact ⟨rfl, B.out⟩
set_option maxHeartbeats 1000000 in
theorem num_text (v : Int) (s : ByteArray) (w : World) (h1 : inScaleB v = true) (hg : Gu w) (hne : ¬ Lib.itoa v = s.data.toList)
    (HP : Hid (Calls Tryz.prog 69 #[.string s, .int .i64 10, .int .i64 64] w fun e w' => e = .returned (.tuple #[.int .i64 v, .nilIface]) ∧ Below w.heap.size w w')) :
    Calls Tryz.prog 56 #[.string s] w fun e w' => e = .returned (.int .i64 0) ∧ Below w.heap.size w w' := by
  have hr := (inScale_iff v).1 h1
  have HI := Lib.hid fun w => (by have h := inScale_any v w; rw [h1] at h; exact h : Calls Tryz.prog 23 #[.int .i64 v] w fun e w' => e = .returned (.bool true) ∧ w = w')
  have hF := fun w ht => format_any v (by omega) (by omega) w ht
  obtain ⟨S, hS⟩ : ∃ S : ByteArray, S = ⟨(Lib.itoa v).toArray⟩ := ⟨_, rfl⟩
  rw [← hS] at hF
  have hn : (S.toList == s.toList) = false := by
    rw [toList_eq, toList_eq, hS, beq_eq_false_iff_ne]
    exact hne
  have HF := Lib.hid hF
  have HG := Lib.hid hg
  clear hS hF h1 hr hne hg
  go_enter Tryz.func56, Tryz.ntmps56
  go_wp2_with fail
  refine HP.out.mono ?_
  rintro e w' ⟨rfl, hb⟩
  have B := Lib.hid hb
  clear hb
  go_wp2_with fail
  refine (HI.out _).mono ?_
  rintro e w' ⟨rfl, rfl⟩
  go_wp2_with fail
  refine (HF.out _ (HG.out.below B.out).tab).mono ?_
  rintro e w2 ⟨rfl, hb⟩
  have B2 := Lib.hid (B.out.trans (hb.mono B.out.size))
  clear hb
  go_wp2_with fail
  go_ret
  exact ⟨rfl, B2.out⟩
set_option maxHeartbeats 1000000 in
theorem num_good (v : Int) (s : ByteArray) (w : World) (h1 : inScaleB v = true) (hg : Gu w) (he : Lib.itoa v = s.data.toList)
    (HP : Hid (Calls Tryz.prog 69 #[.string s, .int .i64 10, .int .i64 64] w fun e w' => e = .returned (.tuple #[.int .i64 v, .nilIface]) ∧ Below w.heap.size w w')) :
    Calls Tryz.prog 56 #[.string s] w fun e w' => e = .returned (.int .i64 v) ∧ Below w.heap.size w w' := by
  have hr := (inScale_iff v).1 h1
  have HI := Lib.hid fun w => (by have h := inScale_any v w; rw [h1] at h; exact h : Calls Tryz.prog 23 #[.int .i64 v] w fun e w' => e = .returned (.bool true) ∧ w = w')
  have hF := fun w ht => format_any v (by omega) (by omega) w ht
  rw [he, show (⟨s.data.toList.toArray⟩ : ByteArray) = s from rfl] at hF
  have HF := Lib.hid hF
  have HG := Lib.hid hg
  clear hF h1 hr he hg
  go_enter Tryz.func56, Tryz.ntmps56
  go_wp2_with fail
  refine HP.out.mono ?_
  rintro e w' ⟨rfl, hb⟩
  have B := Lib.hid hb
  clear hb
  go_wp2_with fail
  refine (HI.out _).mono ?_
  rintro e w' ⟨rfl, rfl⟩
  go_wp2_with fail
  refine (HF.out _ (HG.out.below B.out).tab).mono ?_
  rintro e w2 ⟨rfl, hb⟩
  have B2 := Lib.hid (B.out.trans (hb.mono B.out.size))
  clear hb
  go_wp2_with fail
  go_ret
  exact ⟨rfl, B2.out⟩

theorem readNumber_any (s : ByteArray) (w : World) (hs : s.size ≤ 1000) (hg : Gu w) :
    Calls Tryz.prog 56 #[.string s] w fun e w' => e = .returned (.int .i64 (numI s.data.toList)) ∧ Below w.heap.size w w' := by
  obtain ⟨tp, p, hS⟩ := hg.syn
  obtain ⟨tq, q, hR⟩ := hg.ran
  unfold numI
  cases h : Lib.parseIntB 64 s.data.toList with
  | ok v =>
    show Calls Tryz.prog 56 #[.string s] w fun e w' => e = .returned (.int .i64 (if inScaleB v = true ∧ Lib.itoa v = s.data.toList then v else 0)) ∧ Below w.heap.size w w'
    have HP := Lib.hid (show Calls Tryz.prog 69 #[.string s, .int .i64 10, .int .i64 64] w fun e w' => e = .returned (.tuple #[.int .i64 v, .nilIface]) ∧ Below w.heap.size w w' from (Tryz.strconv_ParseInt_10_at64_ok s (by omega) v h w).mono (by
      rintro e w' ⟨rfl, rfl | ⟨t, rfl⟩⟩
      · exact ⟨rfl, Below.refl _ _⟩
      · exact ⟨rfl, Lib.bytesWorld_below _ _ _⟩))
    by_cases h1 : inScaleB v = true
    · by_cases h2 : Lib.itoa v = s.data.toList
      · rw [if_pos ⟨h1, h2⟩]
        exact num_good v s w h1 hg h2 HP
      · rw [if_neg (fun h => h2 h.2)]
        exact num_text v s w h1 hg h2 HP
    · rw [if_neg (fun h => h1 h.1)]
      exact num_scale v s w (by simpa using h1) HP
  | «syntax» =>
    refine num_err 0 s w (Lib.hid ((Tryz.strconv_ParseInt_10_at64_syntax_var s (by omega) h tp p w hS).mono ?_))
    rintro e w' ⟨N, rfl, _, _, hb⟩
    exact ⟨N, rfl, hb⟩
  | range =>
    refine num_err (Lib.intSat 64 s.data.toList) s w (Lib.hid ((Tryz.strconv_ParseInt_10_at64_range_var s (by omega) h tq q w hR).mono ?_))
    rintro e w' ⟨N, rfl, _, _, hb⟩
    exact ⟨N, rfl, hb⟩
end Go.Proofs.YtlahoohgbfjciaaGreatDoor
