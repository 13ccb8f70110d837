/- Contracts: plenumref21.Check and Duration; Duration for any arguments. -/
import Derived.Test.YthaigchklogjlaaDoorQp
import Derived.Test.YthaigchklogjlaaDoorQk
import Derived.Test.YthaigchklogjlaaDoorQi
import Derived.Deep.QuietTactic
import Derived.BigQuiet
namespace Go.Proofs.YthaigchklogjlaaDoor
open Go.RowKit Go.Shelf

set_option linter.unusedVariables false
set_option linter.unusedSimpArgs false
theorem lib_stage {w : World} {B : Nat} (h : LibAt w B) : InS w (some ⟨B + 67, 0, none⟩) 5 4 (flat bndL [⟨⟨#[115, 116, 97, 103, 101, 115]⟩, 1, 15, 1⟩, ⟨⟨#[117, 112]⟩, (-1000000000000), 1000000000000, 0⟩, ⟨⟨#[100, 111, 119, 110]⟩, (-1000000000000), 1000000000000, 0⟩, ⟨⟨#[117, 112, 100, 101, 108, 97, 121]⟩, 0, 86400, 0⟩, ⟨⟨#[100, 111, 119, 110, 100, 101, 108, 97, 121]⟩, 0, 86400, 0⟩]) := by
  have h1 := h 67 (Obj.cells (flat bndL [⟨⟨#[115, 116, 97, 103, 101, 115]⟩, 1, 15, 1⟩, ⟨⟨#[117, 112]⟩, (-1000000000000), 1000000000000, 0⟩, ⟨⟨#[100, 111, 119, 110]⟩, (-1000000000000), 1000000000000, 0⟩, ⟨⟨#[117, 112, 100, 101, 108, 97, 121]⟩, 0, 86400, 0⟩, ⟨⟨#[100, 111, 119, 110, 100, 101, 108, 97, 121]⟩, 0, 86400, 0⟩]).toArray 69) (by kernel_rfl)
  refine ⟨by decide +kernel, by decide, .inr ⟨B + 67, 0, rfl, ?_, fun j u hu => ?_⟩⟩
  · rcases Nat.lt_or_ge (B + 67) w.heap.size with h2 | h2
    · exact h2
    · rw [Array.getElem?_eq_none h2] at h1; cases h1
  · rw [Nat.zero_add]
    exact cellO h1 j u (by simpa using hu)
theorem rrow_stage (B : Nat) : (row18L B (rowR 29)).toArray = #[.string ⟨#[115, 116, 97, 103, 101]⟩, .slice (some ⟨B + 67, 0, none⟩) 5 5, .slice (some ⟨B + 68, 0, none⟩) 1 1, .slice (some ⟨B + 69, 0, none⟩) 1 1, .int .i64 2, .int .i64 1] := by kernel_rfl
set_option maxHeartbeats 4000000 in
set_option maxRecDepth 100000 in
theorem rcheck_stage (pa : Option Addr) (pc : Nat) (ps : List Int) (F : Bool) (w : World) (hps : InS w pa ps.length 1 (flat iL ps)) (hF : F = true ↔ ∀ (k : Nat) (x : BndD) (y : Int), ([⟨⟨#[115, 116, 97, 103, 101, 115]⟩, 1, 15, 1⟩, ⟨⟨#[117, 112]⟩, (-1000000000000), 1000000000000, 0⟩, ⟨⟨#[100, 111, 119, 110]⟩, (-1000000000000), 1000000000000, 0⟩, ⟨⟨#[117, 112, 100, 101, 108, 97, 121]⟩, 0, 86400, 0⟩, ⟨⟨#[100, 111, 119, 110, 100, 101, 108, 97, 121]⟩, 0, 86400, 0⟩] : List BndD)[k]? = some x → ps[k]? = some y → inR x.lo y x.hi = true) :
    Calls Tryd.prog 15 #[.string ⟨#[115, 116, 97, 103, 101]⟩, .slice pa ps.length pc] w fun e w' => e = .returned (.int .i64 (begE [⟨⟨#[115, 116, 97, 103, 101, 115]⟩, 1, 15, 1⟩, ⟨⟨#[117, 112]⟩, (-1000000000000), 1000000000000, 0⟩, ⟨⟨#[100, 111, 119, 110]⟩, (-1000000000000), 1000000000000, 0⟩, ⟨⟨#[117, 112, 100, 101, 108, 97, 121]⟩, 0, 86400, 0⟩, ⟨⟨#[100, 111, 119, 110, 100, 101, 108, 97, 121]⟩, 0, 86400, 0⟩] ps F)) ∧ Below w.heap.size w w' := by
  have HPS := Lib.hid hps
  have HF := Lib.hid hF
  clear hps hF
  by_cases hl : ps.length = 5
  · have HLN := Lib.hid hl
    have HLN2 := Lib.hid (show ps.length = ([⟨⟨#[115, 116, 97, 103, 101, 115]⟩, 1, 15, 1⟩, ⟨⟨#[117, 112]⟩, (-1000000000000), 1000000000000, 0⟩, ⟨⟨#[100, 111, 119, 110]⟩, (-1000000000000), 1000000000000, 0⟩, ⟨⟨#[117, 112, 100, 101, 108, 97, 121]⟩, 0, 86400, 0⟩, ⟨⟨#[100, 111, 119, 110, 100, 101, 108, 97, 121]⟩, 0, 86400, 0⟩] : List BndD).length from hl)
    rw [hl]
    clear hl
    go_enter Tryd.func15, Tryd.ntmps15
    go_wp2_with fail
    refine (find18 29 (by decide) ⟨#[115, 116, 97, 103, 101]⟩ (by kernel_rfl) (by decide +kernel) w).mono ?_
    rintro e w4 ⟨B, hBq, rfl, hlib, hb⟩
    rw [rrow_stage B]
    have HLB4 := Lib.hid hlib
    have HB4 := Lib.hid hb
    clear hlib hb hBq
    obtain ⟨w5, tb, hW5, htb, R5, B5, sz5⟩ := box1 w4 #[.string ⟨#[115, 116, 97, 103, 101]⟩, .slice (some ⟨B + 67, 0, none⟩) 5 5, .slice (some ⟨B + 68, 0, none⟩) 1 1, .slice (some ⟨B + 69, 0, none⟩) 1 1, .int .i64 2, .int .i64 1] 57
    have HB5 := Lib.hid (HB4.out.trans (B5.mono HB4.out.size))
    have HLB := Lib.hid (HLB4.out.keep B5)
    have HCD := Lib.hid (R5.c 1 _ rfl)
    have z1 := R5.c 1 _ rfl
    clear R5 B5 sz5 HLB4 HB4
    go_upto_region 4 with fail
    rw [← hW5]
    try rw [← htb]
    clear hW5 htb
    go_wp2_with fail
    go_loopw [7] (fun i wr => ∃ j : Nat, j ≤ 5 ∧ i = .int .i64 j ∧ Hid (Below w5.heap.size w5 wr ∧ ∀ q x y, q < j → ([⟨⟨#[115, 116, 97, 103, 101, 115]⟩, 1, 15, 1⟩, ⟨⟨#[117, 112]⟩, (-1000000000000), 1000000000000, 0⟩, ⟨⟨#[100, 111, 119, 110]⟩, (-1000000000000), 1000000000000, 0⟩, ⟨⟨#[117, 112, 100, 101, 108, 97, 121]⟩, 0, 86400, 0⟩, ⟨⟨#[100, 111, 119, 110, 100, 101, 108, 97, 121]⟩, 0, 86400, 0⟩] : List BndD)[q]? = some x → ps[q]? = some y → inR x.lo y x.hi = true)) (fun i _ => 5 - (intOf i).toNat)
    case atStart => exact ⟨0, Nat.zero_le _, rfl, Lib.hid ⟨Below.refl _ _, fun q x y h => by omega⟩⟩
    case round =>
      obtain ⟨j, hj, rfl, hH⟩ := hrel
      have HBR := Lib.hid hH.out.1
      have HAL := Lib.hid hH.out.2
      clear hH
      by_cases hlt : j < 5
      · obtain ⟨x, hx⟩ : ∃ x, ([⟨⟨#[115, 116, 97, 103, 101, 115]⟩, 1, 15, 1⟩, ⟨⟨#[117, 112]⟩, (-1000000000000), 1000000000000, 0⟩, ⟨⟨#[100, 111, 119, 110]⟩, (-1000000000000), 1000000000000, 0⟩, ⟨⟨#[117, 112, 100, 101, 108, 97, 121]⟩, 0, 86400, 0⟩, ⟨⟨#[100, 111, 119, 110, 100, 101, 108, 97, 121]⟩, 0, 86400, 0⟩] : List BndD)[j]? = some x := ⟨_, List.getElem?_eq_getElem (by simpa using hlt)⟩
        obtain ⟨y, hy⟩ : ∃ y, ps[j]? = some y := ⟨_, List.getElem?_eq_getElem (by have := HLN.out; omega)⟩
        obtain ⟨ab, ao, rfl, hal, hac⟩ := (show InS wr pa ps.length 1 (flat iL ps) from HPS.out.keep (HB5.out.trans (HBR.out.mono HB5.out.size))).at iL_len (by have := HLN.out; omega)
        have m0 := hac j _ hy 0 _ rfl
        simp only [Nat.mul_one, Nat.add_zero] at m0
        obtain ⟨bb, bo, ebo, hbl, hbc⟩ := (show InS wr (some ⟨B + 67, 0, none⟩) ([⟨⟨#[115, 116, 97, 103, 101, 115]⟩, 1, 15, 1⟩, ⟨⟨#[117, 112]⟩, (-1000000000000), 1000000000000, 0⟩, ⟨⟨#[100, 111, 119, 110]⟩, (-1000000000000), 1000000000000, 0⟩, ⟨⟨#[117, 112, 100, 101, 108, 97, 121]⟩, 0, 86400, 0⟩, ⟨⟨#[100, 111, 119, 110, 100, 101, 108, 97, 121]⟩, 0, 86400, 0⟩] : List BndD).length 4 (flat bndL [⟨⟨#[115, 116, 97, 103, 101, 115]⟩, 1, 15, 1⟩, ⟨⟨#[117, 112]⟩, (-1000000000000), 1000000000000, 0⟩, ⟨⟨#[100, 111, 119, 110]⟩, (-1000000000000), 1000000000000, 0⟩, ⟨⟨#[117, 112, 100, 101, 108, 97, 121]⟩, 0, 86400, 0⟩, ⟨⟨#[100, 111, 119, 110, 100, 101, 108, 97, 121]⟩, 0, 86400, 0⟩]) from (lib_stage HLB.out).keep HBR.out).at bndL_len (by decide)
        injection ebo with ebo
        injection ebo with e1 e2
        subst e1 e2
        have l1 := hbc j _ hx 1 _ rfl
        have l2 := hbc j _ hx 2 _ rfl
        rw [Nat.zero_add] at l1 l2
        have z1 := cell_below HCD.out HBR.out
        have HXY := Lib.hid (And.intro hx hy)
        have HCC := Lib.hid (And.intro m0 (And.intro l1 (And.intro l2 z1)))
        have k1 : (0 : Int) ≤ (j : Int) := by omega
        have k2 : (j : Int) < (5 : Int) := by omega
        have k3 : IntKind.i64.wrap ((j : Int) + 1) = (j : Int) + 1 := IntWalk.i64_in _ (by omega)
        obtain ⟨nm, lo, hi, df⟩ := x
        simp only at l1 l2 HXY HCC
        clear hx hy hac hbc hal hbl
        by_cases h1 : y < lo
        · go_wp2_with fail
          go_quiet (fail)
          go_wp2_with fail
          have hF0 : F = false := by
            cases hFF : F with
            | false => rfl
            | true =>
              have h : inR lo y hi = true := HF.out.1 hFF j _ _ HXY.out.1 HXY.out.2
              rw [inR_no (by omega)] at h
              cases h
          go_ret
          exact ⟨by rw [begE_no HLN2.out hF0]; rfl, HB5.out.trans ((HBR.out.trans ((below_drewN wr.heap.size wr nq).mono HBR.out.size)).mono HB5.out.size)⟩
        · by_cases h2 : hi < y
          · go_wp2_with fail
            go_quiet (fail)
            go_wp2_with fail
            have hF0 : F = false := by
              cases hFF : F with
              | false => rfl
              | true =>
                have h : inR lo y hi = true := HF.out.1 hFF j _ _ HXY.out.1 HXY.out.2
                rw [inR_no (by omega)] at h
                cases h
            go_ret
            exact ⟨by rw [begE_no HLN2.out hF0]; rfl, HB5.out.trans ((HBR.out.trans ((below_drewN wr.heap.size wr nq).mono HBR.out.size)).mono HB5.out.size)⟩
          · go_wp2_with fail
            go_quiet (fail)
            go_wp2_with fail
            have HN2 := Lib.hid (show Below w5.heap.size w5 (wr.drewN nq) ∧ ∀ q x y, q < j + 1 → ([⟨⟨#[115, 116, 97, 103, 101, 115]⟩, 1, 15, 1⟩, ⟨⟨#[117, 112]⟩, (-1000000000000), 1000000000000, 0⟩, ⟨⟨#[100, 111, 119, 110]⟩, (-1000000000000), 1000000000000, 0⟩, ⟨⟨#[117, 112, 100, 101, 108, 97, 121]⟩, 0, 86400, 0⟩, ⟨⟨#[100, 111, 119, 110, 100, 101, 108, 97, 121]⟩, 0, 86400, 0⟩] : List BndD)[q]? = some x → ps[q]? = some y → inR x.lo y x.hi = true from ⟨HBR.out.trans ((below_drewN wr.heap.size wr nq).mono HBR.out.size), fun q x y hq hx hy => by
              by_cases hqj : q = j
              · subst hqj
                rw [HXY.out.1] at hx
                rw [HXY.out.2] at hy
                cases hx
                cases hy
                exact inR_yes (by omega) (by omega)
              · exact HAL.out q x y (by omega) hx hy⟩)
            go_roundw
            case rel => exact ⟨j + 1, by omega, by go_num, HN2⟩
            case measure => (simp [intOf]) <;> omega
      · obtain rfl : j = 5 := by omega
        have hF1 : F = true := HF.out.2 fun q x y hx hy => HAL.out q x y (by have := (List.getElem?_eq_some_iff.1 hx).1; simpa using this) hx hy
        go_wp2_with fail
        go_ret
        exact ⟨by rw [begE_yes HLN2.out hF1]; rfl, HB5.out.trans (HBR.out.mono HB5.out.size)⟩
  · have hE : begE [⟨⟨#[115, 116, 97, 103, 101, 115]⟩, 1, 15, 1⟩, ⟨⟨#[117, 112]⟩, (-1000000000000), 1000000000000, 0⟩, ⟨⟨#[100, 111, 119, 110]⟩, (-1000000000000), 1000000000000, 0⟩, ⟨⟨#[117, 112, 100, 101, 108, 97, 121]⟩, 0, 86400, 0⟩, ⟨⟨#[100, 111, 119, 110, 100, 101, 108, 97, 121]⟩, 0, 86400, 0⟩] ps F = 1 := begE_len (fun h => hl h)
    rw [hE]
    obtain ⟨M, hM⟩ : ∃ M, M = ps.length := ⟨_, rfl⟩
    have m63 : M ≤ 9223372036854775807 := by rw [hM]; exact HPS.out.2.1
    rw [← hM] at hl ⊢
    have hl2 : ¬ (M : Int) = 5 := by omega
    clear hM hE hl
    go_enter Tryd.func15, Tryd.ntmps15
    go_wp2_with fail
    refine (find18 29 (by decide) ⟨#[115, 116, 97, 103, 101]⟩ (by kernel_rfl) (by decide +kernel) w).mono ?_
    rintro e w4 ⟨B, hBq, rfl, hlib, hb⟩
    rw [rrow_stage B]
    have HLB4 := Lib.hid hlib
    have HB4 := Lib.hid hb
    clear hlib hb hBq
    obtain ⟨w5, tb, hW5, htb, R5, B5, sz5⟩ := box1 w4 #[.string ⟨#[115, 116, 97, 103, 101]⟩, .slice (some ⟨B + 67, 0, none⟩) 5 5, .slice (some ⟨B + 68, 0, none⟩) 1 1, .slice (some ⟨B + 69, 0, none⟩) 1 1, .int .i64 2, .int .i64 1] 57
    have HB5 := Lib.hid (HB4.out.trans (B5.mono HB4.out.size))
    have HLB := Lib.hid (HLB4.out.keep B5)
    have HCD := Lib.hid (R5.c 1 _ rfl)
    have z1 := R5.c 1 _ rfl
    clear R5 B5 sz5 HLB4 HB4
    go_upto_region 4 with fail
    rw [← hW5]
    try rw [← htb]
    clear hW5 htb
    go_wp2_with fail
    go_ret
    exact ⟨rfl, HB5.out⟩
theorem lib_steps {w : World} {B : Nat} (h : LibAt w B) : InS w (some ⟨B + 70, 0, none⟩) 2 4 (flat bndL [⟨⟨#[99, 111, 117, 110, 116]⟩, 1, 15, 1⟩, ⟨⟨#[108, 101, 97, 115, 116]⟩, 0, 86400, 0⟩]) := by
  have h1 := h 70 (Obj.cells (flat bndL [⟨⟨#[99, 111, 117, 110, 116]⟩, 1, 15, 1⟩, ⟨⟨#[108, 101, 97, 115, 116]⟩, 0, 86400, 0⟩]).toArray 69) (by kernel_rfl)
  refine ⟨by decide +kernel, by decide, .inr ⟨B + 70, 0, rfl, ?_, fun j u hu => ?_⟩⟩
  · rcases Nat.lt_or_ge (B + 70) w.heap.size with h2 | h2
    · exact h2
    · rw [Array.getElem?_eq_none h2] at h1; cases h1
  · rw [Nat.zero_add]
    exact cellO h1 j u (by simpa using hu)
theorem rrow_steps (B : Nat) : (row18L B (rowR 30)).toArray = #[.string ⟨#[115, 116, 101, 112, 115]⟩, .slice (some ⟨B + 70, 0, none⟩) 2 2, .slice (some ⟨B + 71, 0, none⟩) 2 2, .slice (some ⟨B + 72, 0, none⟩) 1 1, .int .i64 2, .int .i64 1] := by kernel_rfl
set_option maxHeartbeats 4000000 in
set_option maxRecDepth 100000 in
theorem rcheck_steps (pa : Option Addr) (pc : Nat) (ps : List Int) (F : Bool) (w : World) (hps : InS w pa ps.length 1 (flat iL ps)) (hF : F = true ↔ ∀ (k : Nat) (x : BndD) (y : Int), ([⟨⟨#[99, 111, 117, 110, 116]⟩, 1, 15, 1⟩, ⟨⟨#[108, 101, 97, 115, 116]⟩, 0, 86400, 0⟩] : List BndD)[k]? = some x → ps[k]? = some y → inR x.lo y x.hi = true) :
    Calls Tryd.prog 15 #[.string ⟨#[115, 116, 101, 112, 115]⟩, .slice pa ps.length pc] w fun e w' => e = .returned (.int .i64 (begE [⟨⟨#[99, 111, 117, 110, 116]⟩, 1, 15, 1⟩, ⟨⟨#[108, 101, 97, 115, 116]⟩, 0, 86400, 0⟩] ps F)) ∧ Below w.heap.size w w' := by
  have HPS := Lib.hid hps
  have HF := Lib.hid hF
  clear hps hF
  by_cases hl : ps.length = 2
  · have HLN := Lib.hid hl
    have HLN2 := Lib.hid (show ps.length = ([⟨⟨#[99, 111, 117, 110, 116]⟩, 1, 15, 1⟩, ⟨⟨#[108, 101, 97, 115, 116]⟩, 0, 86400, 0⟩] : List BndD).length from hl)
    rw [hl]
    clear hl
    go_enter Tryd.func15, Tryd.ntmps15
    go_wp2_with fail
    refine (find18 30 (by decide) ⟨#[115, 116, 101, 112, 115]⟩ (by kernel_rfl) (by decide +kernel) w).mono ?_
    rintro e w4 ⟨B, hBq, rfl, hlib, hb⟩
    rw [rrow_steps B]
    have HLB4 := Lib.hid hlib
    have HB4 := Lib.hid hb
    clear hlib hb hBq
    obtain ⟨w5, tb, hW5, htb, R5, B5, sz5⟩ := box1 w4 #[.string ⟨#[115, 116, 101, 112, 115]⟩, .slice (some ⟨B + 70, 0, none⟩) 2 2, .slice (some ⟨B + 71, 0, none⟩) 2 2, .slice (some ⟨B + 72, 0, none⟩) 1 1, .int .i64 2, .int .i64 1] 57
    have HB5 := Lib.hid (HB4.out.trans (B5.mono HB4.out.size))
    have HLB := Lib.hid (HLB4.out.keep B5)
    have HCD := Lib.hid (R5.c 1 _ rfl)
    have z1 := R5.c 1 _ rfl
    clear R5 B5 sz5 HLB4 HB4
    go_upto_region 4 with fail
    rw [← hW5]
    try rw [← htb]
    clear hW5 htb
    go_wp2_with fail
    go_loopw [7] (fun i wr => ∃ j : Nat, j ≤ 2 ∧ i = .int .i64 j ∧ Hid (Below w5.heap.size w5 wr ∧ ∀ q x y, q < j → ([⟨⟨#[99, 111, 117, 110, 116]⟩, 1, 15, 1⟩, ⟨⟨#[108, 101, 97, 115, 116]⟩, 0, 86400, 0⟩] : List BndD)[q]? = some x → ps[q]? = some y → inR x.lo y x.hi = true)) (fun i _ => 2 - (intOf i).toNat)
    case atStart => exact ⟨0, Nat.zero_le _, rfl, Lib.hid ⟨Below.refl _ _, fun q x y h => by omega⟩⟩
    case round =>
      obtain ⟨j, hj, rfl, hH⟩ := hrel
      have HBR := Lib.hid hH.out.1
      have HAL := Lib.hid hH.out.2
      clear hH
      by_cases hlt : j < 2
      · obtain ⟨x, hx⟩ : ∃ x, ([⟨⟨#[99, 111, 117, 110, 116]⟩, 1, 15, 1⟩, ⟨⟨#[108, 101, 97, 115, 116]⟩, 0, 86400, 0⟩] : List BndD)[j]? = some x := ⟨_, List.getElem?_eq_getElem (by simpa using hlt)⟩
        obtain ⟨y, hy⟩ : ∃ y, ps[j]? = some y := ⟨_, List.getElem?_eq_getElem (by have := HLN.out; omega)⟩
        obtain ⟨ab, ao, rfl, hal, hac⟩ := (show InS wr pa ps.length 1 (flat iL ps) from HPS.out.keep (HB5.out.trans (HBR.out.mono HB5.out.size))).at iL_len (by have := HLN.out; omega)
        have m0 := hac j _ hy 0 _ rfl
        simp only [Nat.mul_one, Nat.add_zero] at m0
        obtain ⟨bb, bo, ebo, hbl, hbc⟩ := (show InS wr (some ⟨B + 70, 0, none⟩) ([⟨⟨#[99, 111, 117, 110, 116]⟩, 1, 15, 1⟩, ⟨⟨#[108, 101, 97, 115, 116]⟩, 0, 86400, 0⟩] : List BndD).length 4 (flat bndL [⟨⟨#[99, 111, 117, 110, 116]⟩, 1, 15, 1⟩, ⟨⟨#[108, 101, 97, 115, 116]⟩, 0, 86400, 0⟩]) from (lib_steps HLB.out).keep HBR.out).at bndL_len (by decide)
        injection ebo with ebo
        injection ebo with e1 e2
        subst e1 e2
        have l1 := hbc j _ hx 1 _ rfl
        have l2 := hbc j _ hx 2 _ rfl
        rw [Nat.zero_add] at l1 l2
        have z1 := cell_below HCD.out HBR.out
        have HXY := Lib.hid (And.intro hx hy)
        have HCC := Lib.hid (And.intro m0 (And.intro l1 (And.intro l2 z1)))
        have k1 : (0 : Int) ≤ (j : Int) := by omega
        have k2 : (j : Int) < (2 : Int) := by omega
        have k3 : IntKind.i64.wrap ((j : Int) + 1) = (j : Int) + 1 := IntWalk.i64_in _ (by omega)
        obtain ⟨nm, lo, hi, df⟩ := x
        simp only at l1 l2 HXY HCC
        clear hx hy hac hbc hal hbl
        by_cases h1 : y < lo
        · go_wp2_with fail
          go_quiet (fail)
          go_wp2_with fail
          have hF0 : F = false := by
            cases hFF : F with
            | false => rfl
            | true =>
              have h : inR lo y hi = true := HF.out.1 hFF j _ _ HXY.out.1 HXY.out.2
              rw [inR_no (by omega)] at h
              cases h
          go_ret
          exact ⟨by rw [begE_no HLN2.out hF0]; rfl, HB5.out.trans ((HBR.out.trans ((below_drewN wr.heap.size wr nq).mono HBR.out.size)).mono HB5.out.size)⟩
        · by_cases h2 : hi < y
          · go_wp2_with fail
            go_quiet (fail)
            go_wp2_with fail
            have hF0 : F = false := by
              cases hFF : F with
              | false => rfl
              | true =>
                have h : inR lo y hi = true := HF.out.1 hFF j _ _ HXY.out.1 HXY.out.2
                rw [inR_no (by omega)] at h
                cases h
            go_ret
            exact ⟨by rw [begE_no HLN2.out hF0]; rfl, HB5.out.trans ((HBR.out.trans ((below_drewN wr.heap.size wr nq).mono HBR.out.size)).mono HB5.out.size)⟩
          · go_wp2_with fail
            go_quiet (fail)
            go_wp2_with fail
            have HN2 := Lib.hid (show Below w5.heap.size w5 (wr.drewN nq) ∧ ∀ q x y, q < j + 1 → ([⟨⟨#[99, 111, 117, 110, 116]⟩, 1, 15, 1⟩, ⟨⟨#[108, 101, 97, 115, 116]⟩, 0, 86400, 0⟩] : List BndD)[q]? = some x → ps[q]? = some y → inR x.lo y x.hi = true from ⟨HBR.out.trans ((below_drewN wr.heap.size wr nq).mono HBR.out.size), fun q x y hq hx hy => by
              by_cases hqj : q = j
              · subst hqj
                rw [HXY.out.1] at hx
                rw [HXY.out.2] at hy
                cases hx
                cases hy
                exact inR_yes (by omega) (by omega)
              · exact HAL.out q x y (by omega) hx hy⟩)
            go_roundw
            case rel => exact ⟨j + 1, by omega, by go_num, HN2⟩
            case measure => (simp [intOf]) <;> omega
      · obtain rfl : j = 2 := by omega
        have hF1 : F = true := HF.out.2 fun q x y hx hy => HAL.out q x y (by have := (List.getElem?_eq_some_iff.1 hx).1; simpa using this) hx hy
        go_wp2_with fail
        go_ret
        exact ⟨by rw [begE_yes HLN2.out hF1]; rfl, HB5.out.trans (HBR.out.mono HB5.out.size)⟩
  · have hE : begE [⟨⟨#[99, 111, 117, 110, 116]⟩, 1, 15, 1⟩, ⟨⟨#[108, 101, 97, 115, 116]⟩, 0, 86400, 0⟩] ps F = 1 := begE_len (fun h => hl h)
    rw [hE]
    obtain ⟨M, hM⟩ : ∃ M, M = ps.length := ⟨_, rfl⟩
    have m63 : M ≤ 9223372036854775807 := by rw [hM]; exact HPS.out.2.1
    rw [← hM] at hl ⊢
    have hl2 : ¬ (M : Int) = 2 := by omega
    clear hM hE hl
    go_enter Tryd.func15, Tryd.ntmps15
    go_wp2_with fail
    refine (find18 30 (by decide) ⟨#[115, 116, 101, 112, 115]⟩ (by kernel_rfl) (by decide +kernel) w).mono ?_
    rintro e w4 ⟨B, hBq, rfl, hlib, hb⟩
    rw [rrow_steps B]
    have HLB4 := Lib.hid hlib
    have HB4 := Lib.hid hb
    clear hlib hb hBq
    obtain ⟨w5, tb, hW5, htb, R5, B5, sz5⟩ := box1 w4 #[.string ⟨#[115, 116, 101, 112, 115]⟩, .slice (some ⟨B + 70, 0, none⟩) 2 2, .slice (some ⟨B + 71, 0, none⟩) 2 2, .slice (some ⟨B + 72, 0, none⟩) 1 1, .int .i64 2, .int .i64 1] 57
    have HB5 := Lib.hid (HB4.out.trans (B5.mono HB4.out.size))
    have HLB := Lib.hid (HLB4.out.keep B5)
    have HCD := Lib.hid (R5.c 1 _ rfl)
    have z1 := R5.c 1 _ rfl
    clear R5 B5 sz5 HLB4 HB4
    go_upto_region 4 with fail
    rw [← hW5]
    try rw [← htb]
    clear hW5 htb
    go_wp2_with fail
    go_ret
    exact ⟨rfl, HB5.out⟩
theorem rcheck_other (s : ByteArray) (h1 : ¬ s = ⟨#[115, 116, 97, 103, 101]⟩) (h2 : ¬ s = ⟨#[115, 116, 101, 112, 115]⟩) (v : Value) (w : World) : Calls Tryd.prog 15 #[.string s, v] w fun e w' => e = .returned (.int .i64 3) ∧ Below w.heap.size w w' := by
  have e1 : (s.toList == [115, 116, 97, 103, 101]) = false := by have h := eqs_no h1; rw [toList_eq ⟨#[115, 116, 97, 103, 101]⟩] at h; exact h
  have e2 : (s.toList == [115, 116, 101, 112, 115]) = false := by have h := eqs_no h2; rw [toList_eq ⟨#[115, 116, 101, 112, 115]⟩] at h; exact h
  clear h1 h2
  go_enter Tryd.func15, Tryd.ntmps15
  go_wp2_with fail
  go_ret
  exact ⟨rfl, Below.refl _ _⟩
end Go.Proofs.YthaigchklogjlaaDoor
