/- Contracts of lexer.faultAt, checkIndentation, blanksEnd, isPadded. -/
import Derived.Test.YtaaaddmdcldclaaGreatDoorNh
namespace Go.Proofs.YtaaaddmdcldclaaGreatDoor
open Go.RowKit Go.Shelf

def faultV (code col : Int) : Value := .agg #[.int .i64 code, .int .i64 0, .int .i64 col]
def indE (n : Nat) : Int := if n % 2 = 1 then 2 else if 12 < n then 7 else 0
def blankB (c : Int) : Bool := decide (c = 32)
def blankN (s : ByteArray) (st : Nat) : Nat := runF (fun k => blankB (byteI s k)) (s.size - st) st
theorem fault_any (n : Nat) (e : Int) (hn : n ≤ 1000000) (w : World) : Calls Tryz.prog 28 #[.int .i64 n, .int .i64 e] w fun r w' => r = .returned (faultV e (n + 1)) ∧ Below w.heap.size w w' := by
  have k1 : IntKind.i64.wrap ((n : Int) + 1) = (n : Int) + 1 := IntWalk.i64_in _ ⟨by omega, by omega⟩
  go_enter Tryz.func28, Tryz.ntmps28
  go_wp2_with fail
  refine bodyPost_ret (v := faultV e (n + 1)) (by simp [results, Tryz.results28, go_sem]; try rfl) rfl ?_
  exact ⟨rfl, (Below.refl _ _).alloc (Nat.le_refl _) _⟩
theorem indent_any (n : Nat) (hn : n ≤ 1000000) (w : World) : Calls Tryz.prog 30 #[.int .i64 n] w fun r w' => r = .returned (.int .i64 (indE n)) ∧ Below w.heap.size w w' := by
  by_cases h1 : n % 2 = 1
  · have HY := Lib.hid (show indE n = 2 from if_pos h1)
    have k2 : Int.tmod (n : Int) 2 = 1 := by rw [Int.tmod_eq_emod_of_nonneg (by omega)]; omega
    have k1 : IntKind.i64.wrap (Int.tmod (n : Int) 2) = 1 := by rw [k2]; rfl
    go_enter Tryz.func30, Tryz.ntmps30
    go_wp2_with fail
    go_ret
    exact ⟨by rw [HY.out]; (first | done | rfl), Below.refl _ _⟩
  · have k2 : Int.tmod (n : Int) 2 = 0 := by rw [Int.tmod_eq_emod_of_nonneg (by omega)]; omega
    have k1 : IntKind.i64.wrap (Int.tmod (n : Int) 2) = 0 := by rw [k2]; rfl
    by_cases h2 : 12 < n
    · have HY := Lib.hid (show indE n = 7 from (if_neg h1).trans (if_pos h2))
      have h2' : (12 : Int) < (n : Int) := by omega
      go_enter Tryz.func30, Tryz.ntmps30
      go_wp2_with fail
      go_ret
      exact ⟨by rw [HY.out]; (first | done | rfl), Below.refl _ _⟩
    · have HY := Lib.hid (show indE n = 0 from (if_neg h1).trans (if_neg h2))
      have h2' : ¬ (12 : Int) < (n : Int) := by omega
      go_enter Tryz.func30, Tryz.ntmps30
      go_wp2_with fail
      go_ret
      exact ⟨by rw [HY.out]; (first | done | rfl), Below.refl _ _⟩

set_option maxHeartbeats 4000000 in
set_option maxRecDepth 100000 in
theorem blankc_any (s : ByteArray) (k b : Nat) (hk : k < s.size) (w : World) (hcb : w.cell? ⟨b, 0, none⟩ = some (.string s)) : Calls Tryz.prog 53 #[.int .i64 k, .pointer (some ⟨b, 0, none⟩)] w fun e w' => e = .returned (.bool (blankB (byteI s k))) ∧ Below w.heap.size w w' := by
  obtain ⟨c, hc⟩ : ∃ c : Int, c = (s[k].toNat : Int) := ⟨_, rfl⟩
  rw [byteI_at hk, ← hc]
  have hc2 : (s[k].toNat : Int) = c := hc.symm
  have k1 : (0 : Int) ≤ (k : Int) := by omega
  clear hc
  go_enter Tryz.func53, Tryz.ntmps53
  go_wp2_with fail
  go_ret
  exact ⟨(by first | done | rfl), Below.refl _ _⟩
theorem eg_blank : ∀ args w, (callFunc 53 args).run Tryz.prog w = .ok (.enter 53 args) w := enters_of Tryz.func53 (by kernel_rfl) rfl

set_option maxHeartbeats 4000000 in
set_option maxRecDepth 100000 in
theorem blanks_any (s : ByteArray) (st : Nat) (hst : st ≤ s.size) (hs : s.size ≤ 1000000) (w : World) : Calls Tryz.prog 29 #[.string s, .int .i64 st] w fun e w' => e = .returned (.int .i64 (blankN s st)) ∧ Below w.heap.size w w' := by
  obtain ⟨W, g, hW, hg, R1, B, sz⟩ := box1 w #[.string s] 9
  have HB0 := Lib.hid B
  have HG0 := Lib.hid R1
  have hre := fun (W' : World) (hb : Below W.heap.size W W') => runEnd_any 53 #[.pointer (some ⟨g, 0, none⟩)] (fun k => blankB (byteI s k)) s st W' hst (by omega) eg_blank (fun W2 k hk hb2 => blankc_any s k g hk W2 ((HG0.out.keep (hb.trans (hb2.mono hb.size))).c 0 _ rfl))
  have hre : ∀ (W' : World) (hb : Below W.heap.size W W'), Calls Tryz.prog 45 #[.string s, .int .i64 st, .func (.func 53) #[] #[.pointer (some ⟨g, 0, none⟩)]] W' fun e w' => e = .returned (.int .i64 (blankN s st)) ∧ Below W'.heap.size W' w' := hre
  have HRE := Lib.hid hre
  clear R1 B sz hre hs
  go_enter Tryz.func29, Tryz.ntmps29
  go_upto_region 1 with fail
  rw [← hW]
  try rw [← hg]
  clear hW hg
  have g0 := HG0.out.c 0 _ rfl
  go_wp2_with fail
  refine (HRE.out _ (Below.refl _ _)).mono ?_
  rintro e w1 ⟨rfl, hb⟩
  have HB1 := Lib.hid (HB0.out.trans (hb.mono HB0.out.size))
  clear hb g0
  go_wp2_with fail
  go_ret
  exact ⟨(by first | done | rfl), HB1.out⟩
def paddedB (s : ByteArray) : Bool := decide (1 < (befS s 46).size) && decide (byteI (befS s 46) 0 = 48)
set_option maxHeartbeats 4000000 in
set_option maxRecDepth 100000 in
theorem padded_any (s : ByteArray) (hs : s.size ≤ 1000) (w : World) : Calls Tryz.prog 90 #[.string s] w fun e w' => e = .returned (.bool (paddedB s)) ∧ Below w.heap.size w w' := by
  have hcu := fun w => cut_any s 46 w hs
  have hz := bef_size s 46
  obtain ⟨P, hP⟩ : ∃ x, x = paddedB s := ⟨_, rfl⟩
  have hP2 : P = (decide (1 < (befS s 46).size) && decide (byteI (befS s 46) 0 = 48)) := hP
  rw [← hP]
  obtain ⟨T, hT⟩ : ∃ x, x = befS s 46 := ⟨_, rfl⟩
  obtain ⟨A, hA⟩ : ∃ x, x = aftS s 46 := ⟨_, rfl⟩
  obtain ⟨X, hX⟩ : ∃ x, x = hasS s 46 := ⟨_, rfl⟩
  rw [← hT, ← hA, ← hX] at hcu
  rw [← hT] at hz hP2
  have HCU := Lib.hid hcu
  have HP := Lib.hid hP2
  clear hcu hT hA hX hP hP2
  by_cases h1 : 1 < T.size
  · obtain ⟨c, hc⟩ : ∃ c : Int, c = (T[0].toNat : Int) := ⟨_, rfl⟩
    have hbc : byteI T 0 = c := (byteI_at (by omega)).trans hc.symm
    have hc2 : (T[0].toNat : Int) = c := hc.symm
    have h1' : (1 : Int) < (T.size : Int) := by omega
    have h0' : (0 : Int) < (T.size : Int) := by omega
    have h0 : 0 < T.size := by omega
    have HY := Lib.hid (show P = decide (c = 48) by rw [HP.out, decide_eq_true h1, hbc]; exact Bool.true_and _)
    clear hc hbc
    go_enter Tryz.func90, Tryz.ntmps90
    go_wp2_with fail
    refine (HCU.out _).mono ?_
    rintro e w1 ⟨rfl, hb⟩
    have HB1 := Lib.hid hb
    clear hb
    go_wp2_with fail
    go_ret
    exact ⟨by rw [HY.out]; (first | done | rfl), HB1.out⟩
  · have h1' : ¬ (1 : Int) < (T.size : Int) := by omega
    have HY := Lib.hid (show P = false by rw [HP.out, decide_eq_false h1]; rfl)
    go_enter Tryz.func90, Tryz.ntmps90
    go_wp2_with fail
    refine (HCU.out _).mono ?_
    rintro e w1 ⟨rfl, hb⟩
    have HB1 := Lib.hid hb
    clear hb
    go_wp2_with fail
    go_ret
    exact ⟨by rw [HY.out]; (first | done | rfl), HB1.out⟩
end Go.Proofs.YtaaaddmdcldclaaGreatDoor
