/- Contracts of lexer.isDatePart. -/
import Derived.Test.YtaaaddmdcldclaaGreatDoorNj
namespace Go.Proofs.YtaaaddmdcldclaaGreatDoor
open Go.RowKit Go.Shelf

def starB (s : ByteArray) : Bool := s.toList == ([42] : List UInt8)
def digsB (s : ByteArray) : Bool := decide (runF (fun k => digB (byteI s k)) s.size 0 = s.size)
def dpartB (s : ByteArray) (n : Nat) : Bool := starB s || (decide (s.size = n) && digsB s)

set_option maxHeartbeats 4000000 in
set_option maxRecDepth 100000 in
theorem dpartc_any (s : ByteArray) (k b : Nat) (hk : k < s.size) (w : World) (hcb : w.cell? ⟨b, 0, none⟩ = some (.string s)) : Calls Tryz.prog 105 #[.int .i64 k, .pointer (some ⟨b, 0, none⟩)] w fun e w' => e = .returned (.bool (digB (byteI s k))) ∧ Below w.heap.size w w' := by
  have HCB := Lib.hid hcb
  have HL := Lib.hid (World.block_lt_of_cell? _ _ hcb)
  obtain ⟨c, hc⟩ : ∃ c : Int, c = (s[k].toNat : Int) := ⟨_, rfl⟩
  rw [byteI_at hk, ← hc]
  have hc2 : (s[k].toNat : Int) = c := hc.symm
  have k0 : (0 : Int) ≤ (k : Int) := by omega
  have hd1 := fun w => dig_any c w
  obtain ⟨F, hF⟩ : ∃ F, F = digB c := ⟨_, rfl⟩
  rw [← hF] at hd1 ⊢
  have HD1 := Lib.hid hd1
  clear hc hd1 hF
  go_enter Tryz.func105, Tryz.ntmps105
  go_wp2_with fail
  refine (HD1.out _).mono ?_
  rintro e w1 ⟨rfl, hb⟩
  have HB := Lib.hid hb
  clear hb
  go_wp2_with fail
  go_ret
  exact ⟨(by first | done | rfl), HB.out⟩
theorem eg_dpart : ∀ args w, (callFunc 105 args).run Tryz.prog w = .ok (.enter 105 args) w := enters_of Tryz.func105 (by kernel_rfl) rfl

set_option maxHeartbeats 4000000 in
set_option maxRecDepth 100000 in
theorem dpart_any (s : ByteArray) (n : Nat) (hs : s.size ≤ 1000000) (w : World) : Calls Tryz.prog 86 #[.string s, .int .i64 n] w fun e w' => e = .returned (.bool (dpartB s n)) ∧ Below w.heap.size w w' := by
  obtain ⟨W, g, hW, hg, R1, B, sz⟩ := box1 w #[.string s] 9
  have HB0 := Lib.hid B
  have HG0 := Lib.hid R1
  obtain ⟨V, hV⟩ : ∃ V, V = runF (fun k => digB (byteI s k)) s.size 0 := ⟨_, rfl⟩
  have hre := fun (W' : World) (hb : Below W.heap.size W W') => runEnd_any 105 #[.pointer (some ⟨g, 0, none⟩)] (fun k => digB (byteI s k)) s 0 W' (Nat.zero_le _) (by omega) eg_dpart (fun W2 k hk hb2 => dpartc_any s k g hk W2 ((HG0.out.keep (hb.trans (hb2.mono hb.size))).c 0 _ rfl))
  rw [Nat.sub_zero, ← hV] at hre
  have HRE := Lib.hid hre
  obtain ⟨F, hF⟩ : ∃ F, F = (s.toList == ([42] : List UInt8)) := ⟨_, rfl⟩
  have hst : (s.toList == ([42] : List UInt8)) = F := hF.symm
  have HP := Lib.hid (show dpartB s n = (F || (decide (s.size = n) && decide (V = s.size))) by rw [hF, hV]; rfl)
  clear R1 B sz hre hV hF
  cases F
  · by_cases hn : s.size = n
    · subst hn
      go_enter Tryz.func86, Tryz.ntmps86
      go_upto_region 1 with fail
      rw [← hW]
      try rw [← hg]
      clear hW hg
      have g0 := HG0.out.c 0 _ rfl
      go_wp2_with fail
      refine (HRE.out _ (by first | exact Below.refl _ _ | exact (Below.refl _ _).drew)).mono ?_
      rintro e w1 ⟨rfl, hb⟩
      have HB1 := Lib.hid (HB0.out.trans (hb.mono HB0.out.size))
      clear hb g0
      by_cases hv : V = s.size
      · have HY := Lib.hid (show dpartB s s.size = true by rw [HP.out, decide_eq_true hv]; simp)
        go_wp2_with fail
        go_ret
        exact ⟨by rw [HY.out]; (first | done | rfl | (simp [hv])), HB1.out⟩
      · have HY := Lib.hid (show dpartB s s.size = false by rw [HP.out, decide_eq_false hv]; simp)
        go_wp2_with fail
        go_ret
        exact ⟨by rw [HY.out]; (first | done | rfl | (simp; omega)), HB1.out⟩
    · have HY := Lib.hid (show dpartB s n = false by rw [HP.out, decide_eq_false hn]; rfl)
      have hn2 : ((s.size : Int) == (n : Int)) = false := by rw [beq_eq_false_iff_ne]; omega
      have hn3 : ¬ ((s.size : Int) = (n : Int)) := by omega
      go_enter Tryz.func86, Tryz.ntmps86
      go_upto_region 1 with fail
      rw [← hW]
      try rw [← hg]
      clear hW hg
      have g0 := HG0.out.c 0 _ rfl
      go_wp2_with fail
      go_ret
      exact ⟨by rw [HY.out]; (first | done | rfl), HB0.out⟩
  · have HY := Lib.hid (show dpartB s n = true by rw [HP.out]; rfl)
    go_enter Tryz.func86, Tryz.ntmps86
    go_upto_region 1 with fail
    rw [← hW]
    try rw [← hg]
    clear hW hg
    have g0 := HG0.out.c 0 _ rfl
    go_wp2_with fail
    go_ret
    exact ⟨by rw [HY.out]; (first | done | rfl), HB0.out⟩
end Go.Proofs.YtaaaddmdcldclaaGreatDoor
