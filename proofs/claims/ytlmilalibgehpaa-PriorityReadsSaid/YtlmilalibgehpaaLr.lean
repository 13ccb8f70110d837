/- The law PriorityReads. -/
import Derived.Test.YtlmilalibgehpaaU
import Derived.Test.YtlmilalibgehpaaT
import Derived.Test.YtlmilalibgehpaaJ
import Derived.Test.YtlmilalibgehpaaM
import Derived.Test.YtlmilalibgehpaaN
namespace Go.Proofs.Ytlmilalibgehpaa
open Go.RowKit


set_option maxHeartbeats 4000000 in
set_option maxRecDepth 100000 in
theorem reads_lo (a : Option Addr) (cap : Nat) (xs : List WrD) (l c m : Int) (hl : l < 0) (w : World) (hin : InS w a xs.length 4 (flat wrL xs)) : Calls Try.prog 4 #[.slice a xs.length cap, .int .i64 l, .agg #[.int .i64 c, .int .i64 m]] w fun e w' => e = .returned (.bool true) ∧ Below w.heap.size w w' := by
  obtain ⟨x, y, z, hu⟩ := undV_is (bestS xs) 0 c m
  obtain ⟨N, hN⟩ : ∃ N, N = xs.length := ⟨_, rfl⟩
  obtain ⟨Z, hZ⟩ : ∃ Z, decide (N ≤ 60) = Z := ⟨_, rfl⟩
  have HF := Lib.hid (few_ins a N cap Z hZ)
  have HZ := Lib.hid hZ
  have c1 := fun w1 (hb : Below w.heap.size w w1) (h6 : N ≤ 60) => active_any a cap xs c m w1 (by omega) (hin.keep hb)
  have c2 := fun w1 (hb : Below w.heap.size w w1) (h6 : N ≤ 60) => ractive_any a cap xs c m w1 (by omega) (hin.keep hb)
  have c3 := fun w1 (hb : Below w.heap.size w w1) (h6 : N ≤ 60) => slot_any a cap xs l w1 (by omega) (hin.keep hb)
  have c5 := fun w1 (hb : Below w.heap.size w w1) (h6 : N ≤ 60) => punder_any a cap xs l c m w1 (by omega) (hin.keep hb)
  have hlv : lvB l = false := by unfold lvB; simp; omega
  have hsl : slotV (bestS xs) l = .tuple #[.agg #[.int .i64 0, .int .i64 0], .int .i64 1] := by unfold slotV; rw [if_neg (by rw [hlv]; simp)]
  obtain ⟨sk, hsk⟩ : ∃ s : Int, s = 0 := ⟨_, rfl⟩
  obtain ⟨sn, hsn⟩ : ∃ s : Int, s = 0 := ⟨_, rfl⟩
  subst hsk hsn
  have hun : undW (bestS xs) l c m = .tuple #[.int .i64 0, .agg #[.int .i64 0, .int .i64 0], .int .i64 1] := by unfold undW; rw [if_neg (by rw [hlv]; rintro (h | h); (omega); (cases h))]
  rw [hu, ← hN] at c1 c2
  rw [hsl, ← hN] at c3
  rw [hun, ← hN] at c5
  have HK1 := Lib.hid c1
  have HK2 := Lib.hid c2
  have HK3 := Lib.hid c3
  have HK5 := Lib.hid c5
  rw [← hN]
  clear c1 c2 c3 c5 hu hN hZ hin hlv hsl hun
  have hm1 : l < 1 := by omega
  have HAW := Lib.hid awake_yes
  obtain ⟨W, g0, hW, hg0, R0, B, sz⟩ := box1 w #[.int .i64 c, .int .i64 m] 23
  have HG := Lib.hid R0
  have HB := Lib.hid B
  clear R0 B sz
  go_enter Try.func4, Try.ntmps4
  go_wp2_with fail
  rw [← hW]
  try rw [← hg0]
  clear hW hg0
  refine (HAW.out _).mono ?_
  rintro e w1 ⟨rfl, hb⟩
  have HG1 := Lib.hid (HG.out.keep hb)
  have HB1 := Lib.hid (HB.out.trans (hb.mono HB.out.size))
  clear hb HAW HB HG
  go_wp2_with fail
  refine (HF.out _).mono ?_
  rintro e w2 ⟨rfl, hb⟩
  have HG2 := Lib.hid (HG1.out.keep hb)
  have HB2 := Lib.hid (HB1.out.trans (hb.mono HB1.out.size))
  clear hb HG1 HB1
  clear HF
  cases Z
  · go_wp2_with fail
    go_ret
    exact ⟨rfl, HB2.out⟩
  · have h6 : N ≤ 60 := of_decide_eq_true HZ.out
    have H6 := Lib.hid h6
    clear h6
    have go0 := HG2.out.c 0 _ rfl
    have go1 := HG2.out.c 1 _ rfl
    go_wp2_with fail
    refine (HK1.out _ HB2.out H6.out).mono ?_
    rintro e w3 ⟨rfl, hb⟩
    clear go0 go1
    have hk := hb.alloc hb.size (Obj.cells #[.int .i64 y, .int .i64 z] 23)
    have HG3 := Lib.hid (HG2.out.keep hk)
    have HV3 := Lib.hid (row_fresh w3 #[.int .i64 y, .int .i64 z] 23)
    have HB3 := Lib.hid (HB2.out.trans (hk.mono HB2.out.size))
    clear hb hk HG2 HB2
    have go0 := HG3.out.c 0 _ rfl
    have go1 := HG3.out.c 1 _ rfl
    go_wp2_with fail
    refine (HK2.out _ HB3.out H6.out).mono ?_
    rintro e w4 ⟨rfl, hb⟩
    clear go0 go1
    have hk := hb.alloc hb.size (Obj.cells #[.int .i64 y, .int .i64 z] 23)
    have HG4 := Lib.hid (HG3.out.keep hk)
    have HV4 := Lib.hid (HV3.out.keep hk)
    have HW4 := Lib.hid (row_fresh w4 #[.int .i64 y, .int .i64 z] 23)
    have HB4 := Lib.hid (HB3.out.trans (hk.mono HB3.out.size))
    clear hb hk HG3 HV3 HB3
    have vo0 := HV4.out.c 0 _ rfl
    have vo1 := HV4.out.c 1 _ rfl
    have wo0 := HW4.out.c 0 _ rfl
    have wo1 := HW4.out.c 1 _ rfl
    go_wp2_with fail
    refine (HK3.out _ HB4.out H6.out).mono ?_
    rintro e w5 ⟨rfl, hb⟩
    clear vo0 vo1
    clear wo0 wo1
    have hk := hb.alloc hb.size (Obj.cells #[.int .i64 0, .int .i64 0] 23)
    have HG5 := Lib.hid (HG4.out.keep hk)
    have HS5 := Lib.hid (row_fresh w5 #[.int .i64 0, .int .i64 0] 23)
    have HB5 := Lib.hid (HB4.out.trans (hk.mono HB4.out.size))
    clear hb hk HG4 HV4 HW4 HB4
    have go0 := HG5.out.c 0 _ rfl
    have go1 := HG5.out.c 1 _ rfl
    have so0 := HS5.out.c 0 _ rfl
    have so1 := HS5.out.c 1 _ rfl
    go_wp2_with fail
    refine (HK5.out _ HB5.out H6.out).mono ?_
    rintro e w6 ⟨rfl, hb⟩
    clear go0 go1
    clear so0 so1
    have hk := hb.alloc hb.size (Obj.cells #[.int .i64 0, .int .i64 0] 23)
    have HX6 := Lib.hid (row_fresh w6 #[.int .i64 0, .int .i64 0] 23)
    have HB6 := Lib.hid (HB5.out.trans (hk.mono HB5.out.size))
    clear hb hk HG5 HS5 HB5
    have xo0 := HX6.out.c 0 _ rfl
    have xo1 := HX6.out.c 1 _ rfl
    go_wp2_with fail
    go_ret
    exact ⟨rfl, HB6.out⟩

set_option maxHeartbeats 4000000 in
set_option maxRecDepth 100000 in
theorem reads_hi (a : Option Addr) (cap : Nat) (xs : List WrD) (l c m : Int) (hl : 16 < l) (w : World) (hin : InS w a xs.length 4 (flat wrL xs)) : Calls Try.prog 4 #[.slice a xs.length cap, .int .i64 l, .agg #[.int .i64 c, .int .i64 m]] w fun e w' => e = .returned (.bool true) ∧ Below w.heap.size w w' := by
  obtain ⟨x, y, z, hu⟩ := undV_is (bestS xs) 0 c m
  obtain ⟨N, hN⟩ : ∃ N, N = xs.length := ⟨_, rfl⟩
  obtain ⟨Z, hZ⟩ : ∃ Z, decide (N ≤ 60) = Z := ⟨_, rfl⟩
  have HF := Lib.hid (few_ins a N cap Z hZ)
  have HZ := Lib.hid hZ
  have c1 := fun w1 (hb : Below w.heap.size w w1) (h6 : N ≤ 60) => active_any a cap xs c m w1 (by omega) (hin.keep hb)
  have c2 := fun w1 (hb : Below w.heap.size w w1) (h6 : N ≤ 60) => ractive_any a cap xs c m w1 (by omega) (hin.keep hb)
  have c3 := fun w1 (hb : Below w.heap.size w w1) (h6 : N ≤ 60) => slot_any a cap xs l w1 (by omega) (hin.keep hb)
  have c5 := fun w1 (hb : Below w.heap.size w w1) (h6 : N ≤ 60) => punder_any a cap xs l c m w1 (by omega) (hin.keep hb)
  have hlv : lvB l = false := by unfold lvB; simp; omega
  have hsl : slotV (bestS xs) l = .tuple #[.agg #[.int .i64 0, .int .i64 0], .int .i64 1] := by unfold slotV; rw [if_neg (by rw [hlv]; simp)]
  obtain ⟨sk, hsk⟩ : ∃ s : Int, s = 0 := ⟨_, rfl⟩
  obtain ⟨sn, hsn⟩ : ∃ s : Int, s = 0 := ⟨_, rfl⟩
  subst hsk hsn
  have hun : undW (bestS xs) l c m = .tuple #[.int .i64 0, .agg #[.int .i64 0, .int .i64 0], .int .i64 1] := by unfold undW; rw [if_neg (by rw [hlv]; rintro (h | h); (omega); (cases h))]
  rw [hu, ← hN] at c1 c2
  rw [hsl, ← hN] at c3
  rw [hun, ← hN] at c5
  have HK1 := Lib.hid c1
  have HK2 := Lib.hid c2
  have HK3 := Lib.hid c3
  have HK5 := Lib.hid c5
  rw [← hN]
  clear c1 c2 c3 c5 hu hN hZ hin hlv hsl hun
  have hm1 : ¬ l < 1 := by omega
  have hm2 : ¬ l < 0 := by omega
  have HAW := Lib.hid awake_yes
  obtain ⟨W, g0, hW, hg0, R0, B, sz⟩ := box1 w #[.int .i64 c, .int .i64 m] 23
  have HG := Lib.hid R0
  have HB := Lib.hid B
  clear R0 B sz
  go_enter Try.func4, Try.ntmps4
  go_wp2_with fail
  rw [← hW]
  try rw [← hg0]
  clear hW hg0
  refine (HAW.out _).mono ?_
  rintro e w1 ⟨rfl, hb⟩
  have HG1 := Lib.hid (HG.out.keep hb)
  have HB1 := Lib.hid (HB.out.trans (hb.mono HB.out.size))
  clear hb HAW HB HG
  go_wp2_with fail
  refine (HF.out _).mono ?_
  rintro e w2 ⟨rfl, hb⟩
  have HG2 := Lib.hid (HG1.out.keep hb)
  have HB2 := Lib.hid (HB1.out.trans (hb.mono HB1.out.size))
  clear hb HG1 HB1
  clear HF
  cases Z
  · go_wp2_with fail
    go_ret
    exact ⟨rfl, HB2.out⟩
  · have h6 : N ≤ 60 := of_decide_eq_true HZ.out
    have H6 := Lib.hid h6
    clear h6
    have go0 := HG2.out.c 0 _ rfl
    have go1 := HG2.out.c 1 _ rfl
    go_wp2_with fail
    refine (HK1.out _ HB2.out H6.out).mono ?_
    rintro e w3 ⟨rfl, hb⟩
    clear go0 go1
    have hk := hb.alloc hb.size (Obj.cells #[.int .i64 y, .int .i64 z] 23)
    have HG3 := Lib.hid (HG2.out.keep hk)
    have HV3 := Lib.hid (row_fresh w3 #[.int .i64 y, .int .i64 z] 23)
    have HB3 := Lib.hid (HB2.out.trans (hk.mono HB2.out.size))
    clear hb hk HG2 HB2
    have go0 := HG3.out.c 0 _ rfl
    have go1 := HG3.out.c 1 _ rfl
    go_wp2_with fail
    refine (HK2.out _ HB3.out H6.out).mono ?_
    rintro e w4 ⟨rfl, hb⟩
    clear go0 go1
    have hk := hb.alloc hb.size (Obj.cells #[.int .i64 y, .int .i64 z] 23)
    have HG4 := Lib.hid (HG3.out.keep hk)
    have HV4 := Lib.hid (HV3.out.keep hk)
    have HW4 := Lib.hid (row_fresh w4 #[.int .i64 y, .int .i64 z] 23)
    have HB4 := Lib.hid (HB3.out.trans (hk.mono HB3.out.size))
    clear hb hk HG3 HV3 HB3
    have vo0 := HV4.out.c 0 _ rfl
    have vo1 := HV4.out.c 1 _ rfl
    have wo0 := HW4.out.c 0 _ rfl
    have wo1 := HW4.out.c 1 _ rfl
    go_wp2_with fail
    refine (HK3.out _ HB4.out H6.out).mono ?_
    rintro e w5 ⟨rfl, hb⟩
    clear vo0 vo1
    clear wo0 wo1
    have hk := hb.alloc hb.size (Obj.cells #[.int .i64 0, .int .i64 0] 23)
    have HG5 := Lib.hid (HG4.out.keep hk)
    have HS5 := Lib.hid (row_fresh w5 #[.int .i64 0, .int .i64 0] 23)
    have HB5 := Lib.hid (HB4.out.trans (hk.mono HB4.out.size))
    clear hb hk HG4 HV4 HW4 HB4
    have go0 := HG5.out.c 0 _ rfl
    have go1 := HG5.out.c 1 _ rfl
    have so0 := HS5.out.c 0 _ rfl
    have so1 := HS5.out.c 1 _ rfl
    go_wp2_with fail
    refine (HK5.out _ HB5.out H6.out).mono ?_
    rintro e w6 ⟨rfl, hb⟩
    clear go0 go1
    clear so0 so1
    have hk := hb.alloc hb.size (Obj.cells #[.int .i64 0, .int .i64 0] 23)
    have HX6 := Lib.hid (row_fresh w6 #[.int .i64 0, .int .i64 0] 23)
    have HB6 := Lib.hid (HB5.out.trans (hk.mono HB5.out.size))
    clear hb hk HG5 HS5 HB5
    have xo0 := HX6.out.c 0 _ rfl
    have xo1 := HX6.out.c 1 _ rfl
    go_wp2_with fail
    go_ret
    exact ⟨rfl, HB6.out⟩

set_option maxHeartbeats 4000000 in
set_option maxRecDepth 100000 in
theorem reads_zero (a : Option Addr) (cap : Nat) (xs : List WrD) (l c m : Int) (hl : l = 0) (w : World) (hin : InS w a xs.length 4 (flat wrL xs)) : Calls Try.prog 4 #[.slice a xs.length cap, .int .i64 l, .agg #[.int .i64 c, .int .i64 m]] w fun e w' => e = .returned (.bool true) ∧ Below w.heap.size w w' := by
  obtain ⟨x, y, z, hu⟩ := undV_is (bestS xs) 0 c m
  obtain ⟨N, hN⟩ : ∃ N, N = xs.length := ⟨_, rfl⟩
  obtain ⟨Z, hZ⟩ : ∃ Z, decide (N ≤ 60) = Z := ⟨_, rfl⟩
  have HF := Lib.hid (few_ins a N cap Z hZ)
  have HZ := Lib.hid hZ
  have c1 := fun w1 (hb : Below w.heap.size w w1) (h6 : N ≤ 60) => active_any a cap xs c m w1 (by omega) (hin.keep hb)
  have c2 := fun w1 (hb : Below w.heap.size w w1) (h6 : N ≤ 60) => ractive_any a cap xs c m w1 (by omega) (hin.keep hb)
  have c3 := fun w1 (hb : Below w.heap.size w w1) (h6 : N ≤ 60) => slot_any a cap xs l w1 (by omega) (hin.keep hb)
  have c5 := fun w1 (hb : Below w.heap.size w w1) (h6 : N ≤ 60) => punder_any a cap xs l c m w1 (by omega) (hin.keep hb)
  have hlv : lvB l = false := by unfold lvB; simp; omega
  have hsl : slotV (bestS xs) l = .tuple #[.agg #[.int .i64 0, .int .i64 0], .int .i64 1] := by unfold slotV; rw [if_neg (by rw [hlv]; simp)]
  obtain ⟨sk, hsk⟩ : ∃ s : Int, s = 0 := ⟨_, rfl⟩
  obtain ⟨sn, hsn⟩ : ∃ s : Int, s = 0 := ⟨_, rfl⟩
  subst hsk hsn
  subst hl
  obtain ⟨x2, y2, z2, hu2⟩ := undV_is (bestS xs) 0 c m
  have hun := undW_ok (l := 0) (.inl rfl) hu2
  have c6 := fun w1 (hb : Below w.heap.size w w1) (h6 : N ≤ 60) => runder_any a cap xs 0 (by omega) c m w1 (by omega) (hin.keep hb)
  rw [hu2] at c6
  have c6 : ∀ w1 (hb : Below w.heap.size w w1) (h6 : N ≤ 60), Calls Try.prog 26 #[.slice a xs.length cap, .int .i64 0, .agg #[.int .i64 c, .int .i64 m]] w1 fun e w' => e = .returned (.tuple #[.int .i64 x2, .agg #[.int .i64 y2, .int .i64 z2]]) ∧ Below w1.heap.size w1 w' := c6
  rw [hu, ← hN] at c1 c2
  rw [hsl, ← hN] at c3
  rw [hun, ← hN] at c5
  have HK1 := Lib.hid c1
  have HK2 := Lib.hid c2
  have HK3 := Lib.hid c3
  have HK5 := Lib.hid c5
  rw [← hN] at c6
  have HK6 := Lib.hid c6
  rw [← hN]
  clear c1 c2 c3 c5 c6 hu2 hu hN hZ hin hlv hsl hun
  have HAW := Lib.hid awake_yes
  obtain ⟨W, g0, hW, hg0, R0, B, sz⟩ := box1 w #[.int .i64 c, .int .i64 m] 23
  have HG := Lib.hid R0
  have HB := Lib.hid B
  clear R0 B sz
  go_enter Try.func4, Try.ntmps4
  go_wp2_with fail
  rw [← hW]
  try rw [← hg0]
  clear hW hg0
  refine (HAW.out _).mono ?_
  rintro e w1 ⟨rfl, hb⟩
  have HG1 := Lib.hid (HG.out.keep hb)
  have HB1 := Lib.hid (HB.out.trans (hb.mono HB.out.size))
  clear hb HAW HB HG
  go_wp2_with fail
  refine (HF.out _).mono ?_
  rintro e w2 ⟨rfl, hb⟩
  have HG2 := Lib.hid (HG1.out.keep hb)
  have HB2 := Lib.hid (HB1.out.trans (hb.mono HB1.out.size))
  clear hb HG1 HB1
  clear HF
  cases Z
  · go_wp2_with fail
    go_ret
    exact ⟨rfl, HB2.out⟩
  · have h6 : N ≤ 60 := of_decide_eq_true HZ.out
    have H6 := Lib.hid h6
    clear h6
    have go0 := HG2.out.c 0 _ rfl
    have go1 := HG2.out.c 1 _ rfl
    go_wp2_with fail
    refine (HK1.out _ HB2.out H6.out).mono ?_
    rintro e w3 ⟨rfl, hb⟩
    clear go0 go1
    have hk := hb.alloc hb.size (Obj.cells #[.int .i64 y, .int .i64 z] 23)
    have HG3 := Lib.hid (HG2.out.keep hk)
    have HV3 := Lib.hid (row_fresh w3 #[.int .i64 y, .int .i64 z] 23)
    have HB3 := Lib.hid (HB2.out.trans (hk.mono HB2.out.size))
    clear hb hk HG2 HB2
    have go0 := HG3.out.c 0 _ rfl
    have go1 := HG3.out.c 1 _ rfl
    go_wp2_with fail
    refine (HK2.out _ HB3.out H6.out).mono ?_
    rintro e w4 ⟨rfl, hb⟩
    clear go0 go1
    have hk := hb.alloc hb.size (Obj.cells #[.int .i64 y, .int .i64 z] 23)
    have HG4 := Lib.hid (HG3.out.keep hk)
    have HV4 := Lib.hid (HV3.out.keep hk)
    have HW4 := Lib.hid (row_fresh w4 #[.int .i64 y, .int .i64 z] 23)
    have HB4 := Lib.hid (HB3.out.trans (hk.mono HB3.out.size))
    clear hb hk HG3 HV3 HB3
    have vo0 := HV4.out.c 0 _ rfl
    have vo1 := HV4.out.c 1 _ rfl
    have wo0 := HW4.out.c 0 _ rfl
    have wo1 := HW4.out.c 1 _ rfl
    go_wp2_with fail
    refine (HK3.out _ HB4.out H6.out).mono ?_
    rintro e w5 ⟨rfl, hb⟩
    clear vo0 vo1
    clear wo0 wo1
    have hk := hb.alloc hb.size (Obj.cells #[.int .i64 0, .int .i64 0] 23)
    have HG5 := Lib.hid (HG4.out.keep hk)
    have HS5 := Lib.hid (row_fresh w5 #[.int .i64 0, .int .i64 0] 23)
    have HB5 := Lib.hid (HB4.out.trans (hk.mono HB4.out.size))
    clear hb hk HG4 HV4 HW4 HB4
    have go0 := HG5.out.c 0 _ rfl
    have go1 := HG5.out.c 1 _ rfl
    have so0 := HS5.out.c 0 _ rfl
    have so1 := HS5.out.c 1 _ rfl
    go_wp2_with fail
    refine (HK5.out _ HB5.out H6.out).mono ?_
    rintro e w6 ⟨rfl, hb⟩
    clear go0 go1
    clear so0 so1
    have hk := hb.alloc hb.size (Obj.cells #[.int .i64 y2, .int .i64 z2] 23)
    have HG6 := Lib.hid (HG5.out.keep hk)
    have HX6 := Lib.hid (row_fresh w6 #[.int .i64 y2, .int .i64 z2] 23)
    have HB6 := Lib.hid (HB5.out.trans (hk.mono HB5.out.size))
    clear hb hk HG5 HS5 HB5
    have go0 := HG6.out.c 0 _ rfl
    have go1 := HG6.out.c 1 _ rfl
    go_wp2_with fail
    refine (HK6.out _ HB6.out H6.out).mono ?_
    rintro e w7 ⟨rfl, hb⟩
    clear go0 go1
    have hk := hb.alloc hb.size (Obj.cells #[.int .i64 y2, .int .i64 z2] 23)
    have HX7 := Lib.hid (HX6.out.keep hk)
    have HY7 := Lib.hid (row_fresh w7 #[.int .i64 y2, .int .i64 z2] 23)
    have HB7 := Lib.hid (HB6.out.trans (hk.mono HB6.out.size))
    clear hb hk HG6 HX6 HB6
    have xo0 := HX7.out.c 0 _ rfl
    have xo1 := HX7.out.c 1 _ rfl
    have yo0 := HY7.out.c 0 _ rfl
    have yo1 := HY7.out.c 1 _ rfl
    go_wp2_with fail
    go_ret
    exact ⟨rfl, HB7.out⟩

set_option maxHeartbeats 4000000 in
set_option maxRecDepth 100000 in
theorem reads_in (a : Option Addr) (cap : Nat) (xs : List WrD) (l c m : Int) (hl : 1 ≤ l) (hl2 : l ≤ 16) (w : World) (hin : InS w a xs.length 4 (flat wrL xs)) : Calls Try.prog 4 #[.slice a xs.length cap, .int .i64 l, .agg #[.int .i64 c, .int .i64 m]] w fun e w' => e = .returned (.bool true) ∧ Below w.heap.size w w' := by
  obtain ⟨x, y, z, hu⟩ := undV_is (bestS xs) 0 c m
  obtain ⟨N, hN⟩ : ∃ N, N = xs.length := ⟨_, rfl⟩
  obtain ⟨Z, hZ⟩ : ∃ Z, decide (N ≤ 60) = Z := ⟨_, rfl⟩
  have HF := Lib.hid (few_ins a N cap Z hZ)
  have HZ := Lib.hid hZ
  have c1 := fun w1 (hb : Below w.heap.size w w1) (h6 : N ≤ 60) => active_any a cap xs c m w1 (by omega) (hin.keep hb)
  have c2 := fun w1 (hb : Below w.heap.size w w1) (h6 : N ≤ 60) => ractive_any a cap xs c m w1 (by omega) (hin.keep hb)
  have c3 := fun w1 (hb : Below w.heap.size w w1) (h6 : N ≤ 60) => slot_any a cap xs l w1 (by omega) (hin.keep hb)
  have c5 := fun w1 (hb : Below w.heap.size w w1) (h6 : N ≤ 60) => punder_any a cap xs l c m w1 (by omega) (hin.keep hb)
  have hlv : lvB l = true := by unfold lvB; simp; omega
  obtain ⟨p, hp⟩ : ∃ p : Nat, p = (l - 1).toNat := ⟨_, rfl⟩
  have hp1 : l = (p : Int) + 1 := by omega
  have c4 := fun w1 (hb : Below w.heap.size w w1) (h6 : N ≤ 60) => rslot_any a cap xs l p hp1 w1 (by omega) (hin.keep hb)
  have hsl : slotV (bestS xs) l = .tuple #[.agg #[.int .i64 (bestS xs p).k, .int .i64 (bestS xs p).n], .int .i64 0] := by unfold slotV; rw [if_pos hlv, ← hp]
  obtain ⟨sk, hsk⟩ : ∃ s, (bestS xs p).k = s := ⟨_, rfl⟩
  obtain ⟨sn, hsn⟩ : ∃ s, (bestS xs p).n = s := ⟨_, rfl⟩
  rw [hsk, hsn] at hsl c4
  obtain ⟨x2, y2, z2, hu2⟩ := undV_is (bestS xs) l.toNat c m
  have hun := undW_ok (l := l) (.inr hlv) hu2
  have c6 := fun w1 (hb : Below w.heap.size w w1) (h6 : N ≤ 60) => runder_any a cap xs l.toNat (by omega) c m w1 (by omega) (hin.keep hb)
  rw [hu2, show ((l.toNat : Nat) : Int) = l by omega] at c6
  rw [hu, ← hN] at c1 c2
  rw [hsl, ← hN] at c3
  rw [hun, ← hN] at c5
  have HK1 := Lib.hid c1
  have HK2 := Lib.hid c2
  have HK3 := Lib.hid c3
  have HK5 := Lib.hid c5
  rw [← hN] at c4
  have HK4 := Lib.hid c4
  rw [← hN] at c6
  have HK6 := Lib.hid c6
  rw [← hN]
  clear c1 c2 c3 c5 c4 c6 hu2 hp hp1 hsk hsn hu hN hZ hin hlv hsl hun
  have hm1 : ¬ l < 1 := by omega
  have hm2 : ¬ l < 0 := by omega
  have hm3 : ¬ 16 < l := by omega
  have HAW := Lib.hid awake_yes
  obtain ⟨W, g0, hW, hg0, R0, B, sz⟩ := box1 w #[.int .i64 c, .int .i64 m] 23
  have HG := Lib.hid R0
  have HB := Lib.hid B
  clear R0 B sz
  go_enter Try.func4, Try.ntmps4
  go_wp2_with fail
  rw [← hW]
  try rw [← hg0]
  clear hW hg0
  refine (HAW.out _).mono ?_
  rintro e w1 ⟨rfl, hb⟩
  have HG1 := Lib.hid (HG.out.keep hb)
  have HB1 := Lib.hid (HB.out.trans (hb.mono HB.out.size))
  clear hb HAW HB HG
  go_wp2_with fail
  refine (HF.out _).mono ?_
  rintro e w2 ⟨rfl, hb⟩
  have HG2 := Lib.hid (HG1.out.keep hb)
  have HB2 := Lib.hid (HB1.out.trans (hb.mono HB1.out.size))
  clear hb HG1 HB1
  clear HF
  cases Z
  · go_wp2_with fail
    go_ret
    exact ⟨rfl, HB2.out⟩
  · have h6 : N ≤ 60 := of_decide_eq_true HZ.out
    have H6 := Lib.hid h6
    clear h6
    have go0 := HG2.out.c 0 _ rfl
    have go1 := HG2.out.c 1 _ rfl
    go_wp2_with fail
    refine (HK1.out _ HB2.out H6.out).mono ?_
    rintro e w3 ⟨rfl, hb⟩
    clear go0 go1
    have hk := hb.alloc hb.size (Obj.cells #[.int .i64 y, .int .i64 z] 23)
    have HG3 := Lib.hid (HG2.out.keep hk)
    have HV3 := Lib.hid (row_fresh w3 #[.int .i64 y, .int .i64 z] 23)
    have HB3 := Lib.hid (HB2.out.trans (hk.mono HB2.out.size))
    clear hb hk HG2 HB2
    have go0 := HG3.out.c 0 _ rfl
    have go1 := HG3.out.c 1 _ rfl
    go_wp2_with fail
    refine (HK2.out _ HB3.out H6.out).mono ?_
    rintro e w4 ⟨rfl, hb⟩
    clear go0 go1
    have hk := hb.alloc hb.size (Obj.cells #[.int .i64 y, .int .i64 z] 23)
    have HG4 := Lib.hid (HG3.out.keep hk)
    have HV4 := Lib.hid (HV3.out.keep hk)
    have HW4 := Lib.hid (row_fresh w4 #[.int .i64 y, .int .i64 z] 23)
    have HB4 := Lib.hid (HB3.out.trans (hk.mono HB3.out.size))
    clear hb hk HG3 HV3 HB3
    have vo0 := HV4.out.c 0 _ rfl
    have vo1 := HV4.out.c 1 _ rfl
    have wo0 := HW4.out.c 0 _ rfl
    have wo1 := HW4.out.c 1 _ rfl
    go_wp2_with fail
    refine (HK3.out _ HB4.out H6.out).mono ?_
    rintro e w5 ⟨rfl, hb⟩
    clear vo0 vo1
    clear wo0 wo1
    have hk := hb.alloc hb.size (Obj.cells #[.int .i64 sk, .int .i64 sn] 23)
    have HG5 := Lib.hid (HG4.out.keep hk)
    have HS5 := Lib.hid (row_fresh w5 #[.int .i64 sk, .int .i64 sn] 23)
    have HB5 := Lib.hid (HB4.out.trans (hk.mono HB4.out.size))
    clear hb hk HG4 HV4 HW4 HB4
    go_upto_region 13 with fail
    obtain ⟨wb, hwb⟩ : ∃ x, x = w5.alloc (Obj.cells #[.int .i64 sk, .int .i64 sn] 23) := ⟨_, rfl⟩
    obtain ⟨g, hg⟩ : ∃ x, x = w5.heap.size := ⟨_, rfl⟩
    rw [← hwb] at HS5 HB5 HG5 ⊢
    rw [← hg] at HS5 ⊢
    clear hwb hg
    have HD := Lib.hid (show OS wb g sk sn wb from ⟨HS5.out.c 0 _ rfl, HS5.out.c 1 _ rfl, Below.refl _ _⟩)
    have HDD := Lib.hid (os_drew HD.out)
    have HKB := Lib.hid (HB5.out.trans ((Below.refl wb.heap.size wb).drew.mono HB5.out.size))
    have so0 := HS5.out.c 0 _ rfl
    have so1 := HS5.out.c 1 _ rfl
    go_region_held3 (fun w' => w'.cell? ⟨g, 0, none⟩ = some (.int .i64 sk) ∧ w'.cell? ⟨g, 1, none⟩ = some (.int .i64 sn) ∧ Below wb.heap.size wb w')
      (first | (with_reducible exact HD.out) | (with_reducible exact HDD.out) | (with_reducible exact os_keep hb2 (by assumption)) | (with_reducible exact os_drew (by assumption)) | go_keep)
      (first | (go_at_call 24; refine (HK4.out _ (by first | exact HB5.out | exact HKB.out) H6.out).mono ?_; rintro e x1 ⟨rfl, hb2⟩; have KB1 : Hid (Below wb.heap.size wb x1) := (by first | exact hb2 | exact (Below.refl _ _).drew.trans hb2); have HS1 : Hid (OS wb g sk sn x1) := os_keep KB1.out HD.out))
    all_goals
      rename_i hHeld
      have hk := hHeld.2.2
      have HG6 := Lib.hid (HG5.out.keep hk)
      have HB6 := Lib.hid (HB5.out.trans (hk.mono HB5.out.size))
      clear hHeld hk HD HDD HKB HS1 KB1 HS5 HG5 HB5
      clear so0 so1
      have go0 := HG6.out.c 0 _ rfl
      have go1 := HG6.out.c 1 _ rfl
      go_wp2_with fail
      refine (HK5.out _ HB6.out H6.out).mono ?_
      rintro e w7 ⟨rfl, hb⟩
      clear go0 go1
      have hk := hb.alloc hb.size (Obj.cells #[.int .i64 y2, .int .i64 z2] 23)
      have HG7 := Lib.hid (HG6.out.keep hk)
      have HX7 := Lib.hid (row_fresh w7 #[.int .i64 y2, .int .i64 z2] 23)
      have HB7 := Lib.hid (HB6.out.trans (hk.mono HB6.out.size))
      clear hb hk HG6 HB6
      have go0 := HG7.out.c 0 _ rfl
      have go1 := HG7.out.c 1 _ rfl
      go_wp2_with fail
      refine (HK6.out _ HB7.out H6.out).mono ?_
      rintro e w8 ⟨rfl, hb⟩
      clear go0 go1
      have hk := hb.alloc hb.size (Obj.cells #[.int .i64 y2, .int .i64 z2] 23)
      have HX8 := Lib.hid (HX7.out.keep hk)
      have HY8 := Lib.hid (row_fresh w8 #[.int .i64 y2, .int .i64 z2] 23)
      have HB8 := Lib.hid (HB7.out.trans (hk.mono HB7.out.size))
      clear hb hk HG7 HX7 HB7
      have xo0 := HX8.out.c 0 _ rfl
      have xo1 := HX8.out.c 1 _ rfl
      have yo0 := HY8.out.c 0 _ rfl
      have yo1 := HY8.out.c 1 _ rfl
      go_wp2_with fail
      go_ret
      exact ⟨rfl, HB8.out⟩
theorem reads_law (a : Option Addr) (cap : Nat) (xs : List WrD) (l c m : Int) (w : World) (hin : InS w a xs.length 4 (flat wrL xs)) : Calls Try.prog 4 #[.slice a xs.length cap, .int .i64 l, .agg #[.int .i64 c, .int .i64 m]] w fun e w' => e = .returned (.bool true) ∧ Below w.heap.size w w' := by
  by_cases h1 : l < 0
  · exact reads_lo a cap xs l c m h1 w hin
  by_cases h2 : 16 < l
  · exact reads_hi a cap xs l c m h2 w hin
  by_cases h3 : l = 0
  · exact reads_zero a cap xs l c m h3 w hin
  · exact reads_in a cap xs l c m (by omega) (by omega) w hin
end Go.Proofs.Ytlmilalibgehpaa
