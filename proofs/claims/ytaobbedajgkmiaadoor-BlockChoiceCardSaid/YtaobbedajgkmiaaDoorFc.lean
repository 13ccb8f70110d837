/- block.operations, block.selections: maps of functions, made anew, and looked up. -/
import Derived.Test.YtaobbedajgkmiaaDoorFa
import Derived.Maps.OwnOps
import Derived.Maps.OwnSet
import Derived.Maps.Views
import Derived.Maps.Keyed
import Derived.Maps.StringElems
namespace Go.Proofs.YtaobbedajgkmiaaDoor
open Go.RowKit Go.Shelf Go.Maps Go.WideMaps

set_option linter.unusedVariables false
set_option linter.unusedSimpArgs false
/-- an element of a map as it is -/
def heldF (v : Value) : Option (DataW Value × List MemPlace) := some (.held v, [])
theorem heldF_inv {v : Value} {d : Value} {ps : List MemPlace} (h : heldF v = some (.held d, ps)) : v = d := by
  unfold heldF at h
  simp only [Option.some.injEq, Prod.mk.injEq, DataW.held.injEq] at h
  exact h.1
theorem lawF : Keyed Tryd.prog 9 := string_keyed Tryd.underlying9
abbrev kF_operations_0 : ByteArray := ⟨#[97, 98, 111, 118, 101]⟩
theorem keyF_operations_0 : keyOf Tryd.prog 9 (.string kF_operations_0) = some (.string [97, 98, 111, 118, 101]) := keyOf_string_mk Tryd.underlying9 (by unfold maxLen; decide)
abbrev kF_operations_1 : ByteArray := ⟨#[97, 98, 115]⟩
theorem keyF_operations_1 : keyOf Tryd.prog 9 (.string kF_operations_1) = some (.string [97, 98, 115]) := keyOf_string_mk Tryd.underlying9 (by unfold maxLen; decide)
abbrev kF_operations_2 : ByteArray := ⟨#[97, 100, 100]⟩
theorem keyF_operations_2 : keyOf Tryd.prog 9 (.string kF_operations_2) = some (.string [97, 100, 100]) := keyOf_string_mk Tryd.underlying9 (by unfold maxLen; decide)
abbrev kF_operations_3 : ByteArray := ⟨#[97, 110, 100]⟩
theorem keyF_operations_3 : keyOf Tryd.prog 9 (.string kF_operations_3) = some (.string [97, 110, 100]) := keyOf_string_mk Tryd.underlying9 (by unfold maxLen; decide)
abbrev kF_operations_4 : ByteArray := ⟨#[98, 101, 108, 111, 119]⟩
theorem keyF_operations_4 : keyOf Tryd.prog 9 (.string kF_operations_4) = some (.string [98, 101, 108, 111, 119]) := keyOf_string_mk Tryd.underlying9 (by unfold maxLen; decide)
abbrev kF_operations_5 : ByteArray := ⟨#[100, 105, 118]⟩
theorem keyF_operations_5 : keyOf Tryd.prog 9 (.string kF_operations_5) = some (.string [100, 105, 118]) := keyOf_string_mk Tryd.underlying9 (by unfold maxLen; decide)
abbrev kF_operations_6 : ByteArray := ⟨#[108, 105, 109, 105, 116]⟩
theorem keyF_operations_6 : keyOf Tryd.prog 9 (.string kF_operations_6) = some (.string [108, 105, 109, 105, 116]) := keyOf_string_mk Tryd.underlying9 (by unfold maxLen; decide)
abbrev kF_operations_7 : ByteArray := ⟨#[108, 105, 110, 101]⟩
theorem keyF_operations_7 : keyOf Tryd.prog 9 (.string kF_operations_7) = some (.string [108, 105, 110, 101]) := keyOf_string_mk Tryd.underlying9 (by unfold maxLen; decide)
abbrev kF_operations_8 : ByteArray := ⟨#[109, 97, 120]⟩
theorem keyF_operations_8 : keyOf Tryd.prog 9 (.string kF_operations_8) = some (.string [109, 97, 120]) := keyOf_string_mk Tryd.underlying9 (by unfold maxLen; decide)
abbrev kF_operations_9 : ByteArray := ⟨#[109, 101, 97, 110]⟩
theorem keyF_operations_9 : keyOf Tryd.prog 9 (.string kF_operations_9) = some (.string [109, 101, 97, 110]) := keyOf_string_mk Tryd.underlying9 (by unfold maxLen; decide)
abbrev kF_operations_10 : ByteArray := ⟨#[109, 105, 110]⟩
theorem keyF_operations_10 : keyOf Tryd.prog 9 (.string kF_operations_10) = some (.string [109, 105, 110]) := keyOf_string_mk Tryd.underlying9 (by unfold maxLen; decide)
abbrev kF_operations_11 : ByteArray := ⟨#[109, 117, 108]⟩
theorem keyF_operations_11 : keyOf Tryd.prog 9 (.string kF_operations_11) = some (.string [109, 117, 108]) := keyOf_string_mk Tryd.underlying9 (by unfold maxLen; decide)
abbrev kF_operations_12 : ByteArray := ⟨#[110, 101, 103]⟩
theorem keyF_operations_12 : keyOf Tryd.prog 9 (.string kF_operations_12) = some (.string [110, 101, 103]) := keyOf_string_mk Tryd.underlying9 (by unfold maxLen; decide)
abbrev kF_operations_13 : ByteArray := ⟨#[110, 111, 116]⟩
theorem keyF_operations_13 : keyOf Tryd.prog 9 (.string kF_operations_13) = some (.string [110, 111, 116]) := keyOf_string_mk Tryd.underlying9 (by unfold maxLen; decide)
abbrev kF_operations_14 : ByteArray := ⟨#[111, 114]⟩
theorem keyF_operations_14 : keyOf Tryd.prog 9 (.string kF_operations_14) = some (.string [111, 114]) := keyOf_string_mk Tryd.underlying9 (by unfold maxLen; decide)
abbrev kF_operations_15 : ByteArray := ⟨#[115, 117, 98]⟩
theorem keyF_operations_15 : keyOf Tryd.prog 9 (.string kF_operations_15) = some (.string [115, 117, 98]) := keyOf_string_mk Tryd.underlying9 (by unfold maxLen; decide)
abbrev kF_operations_16 : ByteArray := ⟨#[120, 111, 114]⟩
theorem keyF_operations_16 : keyOf Tryd.prog 9 (.string kF_operations_16) = some (.string [120, 111, 114]) := keyOf_string_mk Tryd.underlying9 (by unfold maxLen; decide)
def opsD : DataW Value := ((((((((((((((((((DataW.map []).put (.string [97, 98, 111, 118, 101]) (.held (.func (.func 46) #[] #[]))).put (.string [97, 98, 115]) (.held (.func (.func 48) #[] #[]))).put (.string [97, 100, 100]) (.held (.func (.func 49) #[] #[]))).put (.string [97, 110, 100]) (.held (.func (.func 51) #[] #[]))).put (.string [98, 101, 108, 111, 119]) (.held (.func (.func 53) #[] #[]))).put (.string [100, 105, 118]) (.held (.func (.func 54) #[] #[]))).put (.string [108, 105, 109, 105, 116]) (.held (.func (.func 56) #[] #[]))).put (.string [108, 105, 110, 101]) (.held (.func (.func 57) #[] #[]))).put (.string [109, 97, 120]) (.held (.func (.func 59) #[] #[]))).put (.string [109, 101, 97, 110]) (.held (.func (.func 61) #[] #[]))).put (.string [109, 105, 110]) (.held (.func (.func 63) #[] #[]))).put (.string [109, 117, 108]) (.held (.func (.func 64) #[] #[]))).put (.string [110, 101, 103]) (.held (.func (.func 66) #[] #[]))).put (.string [110, 111, 116]) (.held (.func (.func 67) #[] #[]))).put (.string [111, 114]) (.held (.func (.func 68) #[] #[]))).put (.string [115, 117, 98]) (.held (.func (.func 69) #[] #[]))).put (.string [120, 111, 114]) (.held (.func (.func 71) #[] #[])))
set_option maxHeartbeats 4000000 in
set_option maxRecDepth 100000 in
theorem ops_any (w : World) : Calls Tryd.prog 36 #[] w fun e w' => ∃ b : Nat, e = .returned (.map (some b)) ∧ w'.ownsMap Tryd.prog 9 heldF b 17 opsD ∧ Below w.heap.size w w' := by
  have hmm := @run_makeMap Tryd.prog
  obtain ⟨mb, hmb⟩ : ∃ b, b = w.heap.size := ⟨_, rfl⟩
  have ho0 : (w.alloc (Obj.map #[] 0)).ownsMap Tryd.prog 9 heldF w.heap.size 0 (.map []) := World.ownsMap_made w Tryd.prog 9 heldF
  have hb0 : Below w.heap.size w (w.alloc (Obj.map #[] 0)) := (Below.refl _ _).alloc (Nat.le_refl _) _
  obtain ⟨w1, hr1, ho1, hg1⟩ := ho0.update (val := .func (.func 46) #[] #[]) lawF Tryd.underlying83 (by unfold maxLen; omega) keyF_operations_0 (d := .held (.func (.func 46) #[] #[])) (ps := []) rfl
  dsimp only [kF_operations_0] at hr1
  have hb1 := Below.grown hb0 hg1 hb0.size (fun k hk => by cases hk; exact Nat.le_refl _)
  clear hg1 ho0 hb0
  obtain ⟨w2, hr2, ho2, hg2⟩ := ho1.update (val := .func (.func 48) #[] #[]) lawF Tryd.underlying83 (by unfold maxLen; omega) keyF_operations_1 (d := .held (.func (.func 48) #[] #[])) (ps := []) rfl
  dsimp only [kF_operations_1] at hr2
  have hb2 := Below.grown hb1 hg2 hb1.size (fun k hk => by cases hk; exact Nat.le_refl _)
  clear hg2 ho1 hb1
  obtain ⟨w3, hr3, ho3, hg3⟩ := ho2.update (val := .func (.func 49) #[] #[]) lawF Tryd.underlying83 (by unfold maxLen; omega) keyF_operations_2 (d := .held (.func (.func 49) #[] #[])) (ps := []) rfl
  dsimp only [kF_operations_2] at hr3
  have hb3 := Below.grown hb2 hg3 hb2.size (fun k hk => by cases hk; exact Nat.le_refl _)
  clear hg3 ho2 hb2
  obtain ⟨w4, hr4, ho4, hg4⟩ := ho3.update (val := .func (.func 51) #[] #[]) lawF Tryd.underlying83 (by unfold maxLen; omega) keyF_operations_3 (d := .held (.func (.func 51) #[] #[])) (ps := []) rfl
  dsimp only [kF_operations_3] at hr4
  have hb4 := Below.grown hb3 hg4 hb3.size (fun k hk => by cases hk; exact Nat.le_refl _)
  clear hg4 ho3 hb3
  obtain ⟨w5, hr5, ho5, hg5⟩ := ho4.update (val := .func (.func 53) #[] #[]) lawF Tryd.underlying83 (by unfold maxLen; omega) keyF_operations_4 (d := .held (.func (.func 53) #[] #[])) (ps := []) rfl
  dsimp only [kF_operations_4] at hr5
  have hb5 := Below.grown hb4 hg5 hb4.size (fun k hk => by cases hk; exact Nat.le_refl _)
  clear hg5 ho4 hb4
  obtain ⟨w6, hr6, ho6, hg6⟩ := ho5.update (val := .func (.func 54) #[] #[]) lawF Tryd.underlying83 (by unfold maxLen; omega) keyF_operations_5 (d := .held (.func (.func 54) #[] #[])) (ps := []) rfl
  dsimp only [kF_operations_5] at hr6
  have hb6 := Below.grown hb5 hg6 hb5.size (fun k hk => by cases hk; exact Nat.le_refl _)
  clear hg6 ho5 hb5
  obtain ⟨w7, hr7, ho7, hg7⟩ := ho6.update (val := .func (.func 56) #[] #[]) lawF Tryd.underlying83 (by unfold maxLen; omega) keyF_operations_6 (d := .held (.func (.func 56) #[] #[])) (ps := []) rfl
  dsimp only [kF_operations_6] at hr7
  have hb7 := Below.grown hb6 hg7 hb6.size (fun k hk => by cases hk; exact Nat.le_refl _)
  clear hg7 ho6 hb6
  obtain ⟨w8, hr8, ho8, hg8⟩ := ho7.update (val := .func (.func 57) #[] #[]) lawF Tryd.underlying83 (by unfold maxLen; omega) keyF_operations_7 (d := .held (.func (.func 57) #[] #[])) (ps := []) rfl
  dsimp only [kF_operations_7] at hr8
  have hb8 := Below.grown hb7 hg8 hb7.size (fun k hk => by cases hk; exact Nat.le_refl _)
  clear hg8 ho7 hb7
  obtain ⟨w9, hr9, ho9, hg9⟩ := ho8.update (val := .func (.func 59) #[] #[]) lawF Tryd.underlying83 (by unfold maxLen; omega) keyF_operations_8 (d := .held (.func (.func 59) #[] #[])) (ps := []) rfl
  dsimp only [kF_operations_8] at hr9
  have hb9 := Below.grown hb8 hg9 hb8.size (fun k hk => by cases hk; exact Nat.le_refl _)
  clear hg9 ho8 hb8
  obtain ⟨w10, hr10, ho10, hg10⟩ := ho9.update (val := .func (.func 61) #[] #[]) lawF Tryd.underlying83 (by unfold maxLen; omega) keyF_operations_9 (d := .held (.func (.func 61) #[] #[])) (ps := []) rfl
  dsimp only [kF_operations_9] at hr10
  have hb10 := Below.grown hb9 hg10 hb9.size (fun k hk => by cases hk; exact Nat.le_refl _)
  clear hg10 ho9 hb9
  obtain ⟨w11, hr11, ho11, hg11⟩ := ho10.update (val := .func (.func 63) #[] #[]) lawF Tryd.underlying83 (by unfold maxLen; omega) keyF_operations_10 (d := .held (.func (.func 63) #[] #[])) (ps := []) rfl
  dsimp only [kF_operations_10] at hr11
  have hb11 := Below.grown hb10 hg11 hb10.size (fun k hk => by cases hk; exact Nat.le_refl _)
  clear hg11 ho10 hb10
  obtain ⟨w12, hr12, ho12, hg12⟩ := ho11.update (val := .func (.func 64) #[] #[]) lawF Tryd.underlying83 (by unfold maxLen; omega) keyF_operations_11 (d := .held (.func (.func 64) #[] #[])) (ps := []) rfl
  dsimp only [kF_operations_11] at hr12
  have hb12 := Below.grown hb11 hg12 hb11.size (fun k hk => by cases hk; exact Nat.le_refl _)
  clear hg12 ho11 hb11
  obtain ⟨w13, hr13, ho13, hg13⟩ := ho12.update (val := .func (.func 66) #[] #[]) lawF Tryd.underlying83 (by unfold maxLen; omega) keyF_operations_12 (d := .held (.func (.func 66) #[] #[])) (ps := []) rfl
  dsimp only [kF_operations_12] at hr13
  have hb13 := Below.grown hb12 hg13 hb12.size (fun k hk => by cases hk; exact Nat.le_refl _)
  clear hg13 ho12 hb12
  obtain ⟨w14, hr14, ho14, hg14⟩ := ho13.update (val := .func (.func 67) #[] #[]) lawF Tryd.underlying83 (by unfold maxLen; omega) keyF_operations_13 (d := .held (.func (.func 67) #[] #[])) (ps := []) rfl
  dsimp only [kF_operations_13] at hr14
  have hb14 := Below.grown hb13 hg14 hb13.size (fun k hk => by cases hk; exact Nat.le_refl _)
  clear hg14 ho13 hb13
  obtain ⟨w15, hr15, ho15, hg15⟩ := ho14.update (val := .func (.func 68) #[] #[]) lawF Tryd.underlying83 (by unfold maxLen; omega) keyF_operations_14 (d := .held (.func (.func 68) #[] #[])) (ps := []) rfl
  dsimp only [kF_operations_14] at hr15
  have hb15 := Below.grown hb14 hg15 hb14.size (fun k hk => by cases hk; exact Nat.le_refl _)
  clear hg15 ho14 hb14
  obtain ⟨w16, hr16, ho16, hg16⟩ := ho15.update (val := .func (.func 69) #[] #[]) lawF Tryd.underlying83 (by unfold maxLen; omega) keyF_operations_15 (d := .held (.func (.func 69) #[] #[])) (ps := []) rfl
  dsimp only [kF_operations_15] at hr16
  have hb16 := Below.grown hb15 hg16 hb15.size (fun k hk => by cases hk; exact Nat.le_refl _)
  clear hg16 ho15 hb15
  obtain ⟨w17, hr17, ho17, hg17⟩ := ho16.update (val := .func (.func 71) #[] #[]) lawF Tryd.underlying83 (by unfold maxLen; omega) keyF_operations_16 (d := .held (.func (.func 71) #[] #[])) (ps := []) rfl
  dsimp only [kF_operations_16] at hr17
  have hb17 := Below.grown hb16 hg17 hb16.size (fun k hk => by cases hk; exact Nat.le_refl _)
  clear hg17 ho16 hb16
  have HO := Lib.hid (show w17.ownsMap Tryd.prog 9 heldF w.heap.size 17 opsD from ho17)
  have HB := Lib.hid hb17
  clear ho17 hb17 hmb
  go_enter Tryd.func36, Tryd.ntmps36
  go_wp2_with fail
  go_ret
  exact ⟨_, rfl, HO.out, HB.out⟩
abbrev kF_selections_0 : ByteArray := ⟨#[99, 104, 111, 111, 115, 101]⟩
theorem keyF_selections_0 : keyOf Tryd.prog 9 (.string kF_selections_0) = some (.string [99, 104, 111, 111, 115, 101]) := keyOf_string_mk Tryd.underlying9 (by unfold maxLen; decide)
abbrev kF_selections_1 : ByteArray := ⟨#[112, 105, 99, 107]⟩
theorem keyF_selections_1 : keyOf Tryd.prog 9 (.string kF_selections_1) = some (.string [112, 105, 99, 107]) := keyOf_string_mk Tryd.underlying9 (by unfold maxLen; decide)
def selD : DataW Value := (((DataW.map []).put (.string [99, 104, 111, 111, 115, 101]) (.held (.func (.func 72) #[] #[]))).put (.string [112, 105, 99, 107]) (.held (.func (.func 73) #[] #[])))
set_option maxHeartbeats 4000000 in
set_option maxRecDepth 100000 in
theorem sel_any (w : World) : Calls Tryd.prog 37 #[] w fun e w' => ∃ b : Nat, e = .returned (.map (some b)) ∧ w'.ownsMap Tryd.prog 9 heldF b 2 selD ∧ Below w.heap.size w w' := by
  have hmm := @run_makeMap Tryd.prog
  obtain ⟨mb, hmb⟩ : ∃ b, b = w.heap.size := ⟨_, rfl⟩
  have ho0 : (w.alloc (Obj.map #[] 0)).ownsMap Tryd.prog 9 heldF w.heap.size 0 (.map []) := World.ownsMap_made w Tryd.prog 9 heldF
  have hb0 : Below w.heap.size w (w.alloc (Obj.map #[] 0)) := (Below.refl _ _).alloc (Nat.le_refl _) _
  obtain ⟨w1, hr1, ho1, hg1⟩ := ho0.update (val := .func (.func 72) #[] #[]) lawF Tryd.underlying87 (by unfold maxLen; omega) keyF_selections_0 (d := .held (.func (.func 72) #[] #[])) (ps := []) rfl
  dsimp only [kF_selections_0] at hr1
  have hb1 := Below.grown hb0 hg1 hb0.size (fun k hk => by cases hk; exact Nat.le_refl _)
  clear hg1 ho0 hb0
  obtain ⟨w2, hr2, ho2, hg2⟩ := ho1.update (val := .func (.func 73) #[] #[]) lawF Tryd.underlying87 (by unfold maxLen; omega) keyF_selections_1 (d := .held (.func (.func 73) #[] #[])) (ps := []) rfl
  dsimp only [kF_selections_1] at hr2
  have hb2 := Below.grown hb1 hg2 hb1.size (fun k hk => by cases hk; exact Nat.le_refl _)
  clear hg2 ho1 hb1
  have HO := Lib.hid (show w2.ownsMap Tryd.prog 9 heldF w.heap.size 2 selD from ho2)
  have HB := Lib.hid hb2
  clear ho2 hb2 hmb
  go_enter Tryd.func37, Tryd.ntmps37
  go_wp2_with fail
  go_ret
  exact ⟨_, rfl, HO.out, HB.out⟩
theorem look_own {w : World} {b n : Nat} {D : DataW Value} {t e : TypeId} (h : w.ownsMap Tryd.prog 9 heldF b n D) (ht : Tryd.prog.underlying t = some (.map 9 e)) (hz : ∀ w, (zeroValue e).run Tryd.prog w = .ok .nilFunc w) (s : ByteArray) (hs : s.size ≤ maxLen) (v : Value) (f : Bool)
    (ha : D.atKey (.string s.data.toList) (.held .nilFunc) = .held v) (hh : Maps.has D (.string s.data.toList) = f) : (Instr.lookup t (.map (some b)) (.string s) true).run Tryd.prog w = .ok (.tuple #[v, .bool f]) w := by
  obtain ⟨u, ps, hrun, hv⟩ := h.look_ok (t := t) (z := .nilFunc) (zd := .held .nilFunc) (zp := []) lawF ht (hz w) rfl (keyOf_string_mk Tryd.underlying9 hs)
  rw [ha] at hv
  rw [heldF_inv hv, hh] at hrun
  exact hrun
theorem zeroFO (w : World) : (zeroValue 81).run Tryd.prog w = .ok .nilFunc w := by kernel_rfl
theorem zeroFS (w : World) : (zeroValue 85).run Tryd.prog w = .ok .nilFunc w := by kernel_rfl
theorem at_op_above : opsD.atKey (.string [97, 98, 111, 118, 101]) (.held .nilFunc) = .held (.func (.func 46) #[] #[]) ∧ Maps.has opsD (.string [97, 98, 111, 118, 101]) = true ∧ selD.atKey (.string [97, 98, 111, 118, 101]) (.held .nilFunc) = .held .nilFunc ∧ Maps.has selD (.string [97, 98, 111, 118, 101]) = false := ⟨by kernel_rfl, by kernel_rfl, by kernel_rfl, by kernel_rfl⟩
theorem at_op_abs : opsD.atKey (.string [97, 98, 115]) (.held .nilFunc) = .held (.func (.func 48) #[] #[]) ∧ Maps.has opsD (.string [97, 98, 115]) = true ∧ selD.atKey (.string [97, 98, 115]) (.held .nilFunc) = .held .nilFunc ∧ Maps.has selD (.string [97, 98, 115]) = false := ⟨by kernel_rfl, by kernel_rfl, by kernel_rfl, by kernel_rfl⟩
theorem at_op_add : opsD.atKey (.string [97, 100, 100]) (.held .nilFunc) = .held (.func (.func 49) #[] #[]) ∧ Maps.has opsD (.string [97, 100, 100]) = true ∧ selD.atKey (.string [97, 100, 100]) (.held .nilFunc) = .held .nilFunc ∧ Maps.has selD (.string [97, 100, 100]) = false := ⟨by kernel_rfl, by kernel_rfl, by kernel_rfl, by kernel_rfl⟩
theorem at_op_and : opsD.atKey (.string [97, 110, 100]) (.held .nilFunc) = .held (.func (.func 51) #[] #[]) ∧ Maps.has opsD (.string [97, 110, 100]) = true ∧ selD.atKey (.string [97, 110, 100]) (.held .nilFunc) = .held .nilFunc ∧ Maps.has selD (.string [97, 110, 100]) = false := ⟨by kernel_rfl, by kernel_rfl, by kernel_rfl, by kernel_rfl⟩
theorem at_op_below : opsD.atKey (.string [98, 101, 108, 111, 119]) (.held .nilFunc) = .held (.func (.func 53) #[] #[]) ∧ Maps.has opsD (.string [98, 101, 108, 111, 119]) = true ∧ selD.atKey (.string [98, 101, 108, 111, 119]) (.held .nilFunc) = .held .nilFunc ∧ Maps.has selD (.string [98, 101, 108, 111, 119]) = false := ⟨by kernel_rfl, by kernel_rfl, by kernel_rfl, by kernel_rfl⟩
theorem at_op_div : opsD.atKey (.string [100, 105, 118]) (.held .nilFunc) = .held (.func (.func 54) #[] #[]) ∧ Maps.has opsD (.string [100, 105, 118]) = true ∧ selD.atKey (.string [100, 105, 118]) (.held .nilFunc) = .held .nilFunc ∧ Maps.has selD (.string [100, 105, 118]) = false := ⟨by kernel_rfl, by kernel_rfl, by kernel_rfl, by kernel_rfl⟩
theorem at_op_limit : opsD.atKey (.string [108, 105, 109, 105, 116]) (.held .nilFunc) = .held (.func (.func 56) #[] #[]) ∧ Maps.has opsD (.string [108, 105, 109, 105, 116]) = true ∧ selD.atKey (.string [108, 105, 109, 105, 116]) (.held .nilFunc) = .held .nilFunc ∧ Maps.has selD (.string [108, 105, 109, 105, 116]) = false := ⟨by kernel_rfl, by kernel_rfl, by kernel_rfl, by kernel_rfl⟩
theorem at_op_line : opsD.atKey (.string [108, 105, 110, 101]) (.held .nilFunc) = .held (.func (.func 57) #[] #[]) ∧ Maps.has opsD (.string [108, 105, 110, 101]) = true ∧ selD.atKey (.string [108, 105, 110, 101]) (.held .nilFunc) = .held .nilFunc ∧ Maps.has selD (.string [108, 105, 110, 101]) = false := ⟨by kernel_rfl, by kernel_rfl, by kernel_rfl, by kernel_rfl⟩
theorem at_op_max : opsD.atKey (.string [109, 97, 120]) (.held .nilFunc) = .held (.func (.func 59) #[] #[]) ∧ Maps.has opsD (.string [109, 97, 120]) = true ∧ selD.atKey (.string [109, 97, 120]) (.held .nilFunc) = .held .nilFunc ∧ Maps.has selD (.string [109, 97, 120]) = false := ⟨by kernel_rfl, by kernel_rfl, by kernel_rfl, by kernel_rfl⟩
theorem at_op_mean : opsD.atKey (.string [109, 101, 97, 110]) (.held .nilFunc) = .held (.func (.func 61) #[] #[]) ∧ Maps.has opsD (.string [109, 101, 97, 110]) = true ∧ selD.atKey (.string [109, 101, 97, 110]) (.held .nilFunc) = .held .nilFunc ∧ Maps.has selD (.string [109, 101, 97, 110]) = false := ⟨by kernel_rfl, by kernel_rfl, by kernel_rfl, by kernel_rfl⟩
theorem at_op_min : opsD.atKey (.string [109, 105, 110]) (.held .nilFunc) = .held (.func (.func 63) #[] #[]) ∧ Maps.has opsD (.string [109, 105, 110]) = true ∧ selD.atKey (.string [109, 105, 110]) (.held .nilFunc) = .held .nilFunc ∧ Maps.has selD (.string [109, 105, 110]) = false := ⟨by kernel_rfl, by kernel_rfl, by kernel_rfl, by kernel_rfl⟩
theorem at_op_mul : opsD.atKey (.string [109, 117, 108]) (.held .nilFunc) = .held (.func (.func 64) #[] #[]) ∧ Maps.has opsD (.string [109, 117, 108]) = true ∧ selD.atKey (.string [109, 117, 108]) (.held .nilFunc) = .held .nilFunc ∧ Maps.has selD (.string [109, 117, 108]) = false := ⟨by kernel_rfl, by kernel_rfl, by kernel_rfl, by kernel_rfl⟩
theorem at_op_neg : opsD.atKey (.string [110, 101, 103]) (.held .nilFunc) = .held (.func (.func 66) #[] #[]) ∧ Maps.has opsD (.string [110, 101, 103]) = true ∧ selD.atKey (.string [110, 101, 103]) (.held .nilFunc) = .held .nilFunc ∧ Maps.has selD (.string [110, 101, 103]) = false := ⟨by kernel_rfl, by kernel_rfl, by kernel_rfl, by kernel_rfl⟩
theorem at_op_not : opsD.atKey (.string [110, 111, 116]) (.held .nilFunc) = .held (.func (.func 67) #[] #[]) ∧ Maps.has opsD (.string [110, 111, 116]) = true ∧ selD.atKey (.string [110, 111, 116]) (.held .nilFunc) = .held .nilFunc ∧ Maps.has selD (.string [110, 111, 116]) = false := ⟨by kernel_rfl, by kernel_rfl, by kernel_rfl, by kernel_rfl⟩
theorem at_op_or : opsD.atKey (.string [111, 114]) (.held .nilFunc) = .held (.func (.func 68) #[] #[]) ∧ Maps.has opsD (.string [111, 114]) = true ∧ selD.atKey (.string [111, 114]) (.held .nilFunc) = .held .nilFunc ∧ Maps.has selD (.string [111, 114]) = false := ⟨by kernel_rfl, by kernel_rfl, by kernel_rfl, by kernel_rfl⟩
theorem at_op_sub : opsD.atKey (.string [115, 117, 98]) (.held .nilFunc) = .held (.func (.func 69) #[] #[]) ∧ Maps.has opsD (.string [115, 117, 98]) = true ∧ selD.atKey (.string [115, 117, 98]) (.held .nilFunc) = .held .nilFunc ∧ Maps.has selD (.string [115, 117, 98]) = false := ⟨by kernel_rfl, by kernel_rfl, by kernel_rfl, by kernel_rfl⟩
theorem at_op_xor : opsD.atKey (.string [120, 111, 114]) (.held .nilFunc) = .held (.func (.func 71) #[] #[]) ∧ Maps.has opsD (.string [120, 111, 114]) = true ∧ selD.atKey (.string [120, 111, 114]) (.held .nilFunc) = .held .nilFunc ∧ Maps.has selD (.string [120, 111, 114]) = false := ⟨by kernel_rfl, by kernel_rfl, by kernel_rfl, by kernel_rfl⟩
theorem at_op_choose : opsD.atKey (.string [99, 104, 111, 111, 115, 101]) (.held .nilFunc) = .held .nilFunc ∧ Maps.has opsD (.string [99, 104, 111, 111, 115, 101]) = false ∧ selD.atKey (.string [99, 104, 111, 111, 115, 101]) (.held .nilFunc) = .held (.func (.func 72) #[] #[]) ∧ Maps.has selD (.string [99, 104, 111, 111, 115, 101]) = true := ⟨by kernel_rfl, by kernel_rfl, by kernel_rfl, by kernel_rfl⟩
theorem at_op_pick : opsD.atKey (.string [112, 105, 99, 107]) (.held .nilFunc) = .held .nilFunc ∧ Maps.has opsD (.string [112, 105, 99, 107]) = false ∧ selD.atKey (.string [112, 105, 99, 107]) (.held .nilFunc) = .held (.func (.func 73) #[] #[]) ∧ Maps.has selD (.string [112, 105, 99, 107]) = true := ⟨by kernel_rfl, by kernel_rfl, by kernel_rfl, by kernel_rfl⟩
end Go.Proofs.YtaobbedajgkmiaaDoor
