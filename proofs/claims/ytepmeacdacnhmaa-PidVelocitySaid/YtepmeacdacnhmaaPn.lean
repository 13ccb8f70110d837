/- Contract of numbersOf where three values fit; isBit. -/
import Derived.Test.YtepmeacdacnhmaaPm
import Derived.Test.YtepmeacdacnhmaaSl
import Derived.BigQuiet
namespace Go.Proofs.Ytepmeacdacnhmaa
open Go.RowKit

theorem isBit0 (w : World) : Calls Try.prog 39 #[.int .i64 0] w fun e w' => e = .returned (.bool true) ∧ w = w' := by
  go_enter Try.func39, Try.ntmps39
  go_wp2
  go_ret
  exact ⟨rfl, rfl⟩
theorem isBit1 (w : World) : Calls Try.prog 39 #[.int .i64 1] w fun e w' => e = .returned (.bool true) ∧ w = w' := by
  go_enter Try.func39, Try.ntmps39
  go_wp2
  go_ret
  exact ⟨rfl, rfl⟩
theorem infoI64 : (Try.prog.info? 2).map (fun i => (i.zero, i.size, i.bytes)) = some (some (.int .i64 0), 1, 8) := by kernel_rfl
abbrev numsL (a b : Int) : List Value := [.int .i64 a, .int .i64 b, .int .i64 1]
theorem own_at {w : World} {B T sz n : Nat} {v : Value} {L : List Value} (h : w.ownsRow B T sz v n L) (o : Obj) : (w.alloc o).ownsRow B T sz v n L := own_keep h ((Below.refl _ _).alloc (Nat.le_refl _) o)
set_option maxHeartbeats 4000000 in
set_option maxRecDepth 100000 in
theorem nums_any (kb ib : Nat) (a b : Int) (w : World) (hk : RowAt w kb [.int .i64 1, .int .i64 1, .int .i64 2]) (hi : RowAt w ib [.int .i64 1, .int .i64 a, .int .i64 1, .int .i64 b, .int .i64 2, .int .i64 1]) :
    Calls Try.prog 27 #[.slice (some ⟨kb, 0, none⟩) 3 3, .slice (some ⟨ib, 0, none⟩) 3 3] w fun e w' => ∃ v, e = .returned (.tuple #[v, .bool true]) ∧ w'.ownsRow w.heap.size 2 1 v 3 (numsL a b) ∧ Below w.heap.size w w' := by
  have HK := Lib.hid hk
  have HI := Lib.hid hi
  obtain ⟨i0, hif, hz0, hz1, hz2⟩ := info_parts infoI64
  clear hk hi
  go_enter Try.func27, Try.ntmps27
  go_wp2_with fail
  go_loopw [6, 16] (fun v i wr => ∃ j : Nat, j ≤ 3 ∧ i = .int .i64 j ∧ Hid (wr.ownsRow w.heap.size 2 1 v j ((numsL a b).take j) ∧ Below w.heap.size w wr)) (fun _ i _ => 3 - (intOf i).toNat)
  case atStart => exact ⟨0, by omega, rfl, Lib.hid ⟨World.ownsRow_nil _ _ _ _, Below.refl _ _⟩⟩
  case round =>
    obtain ⟨j, hj, rfl, hH⟩ := hrel
    have HO := Lib.hid hH.out.1
    have HB := Lib.hid hH.out.2
    clear hH
    have h4 : j = 0 ∨ j = 1 ∨ j = 2 ∨ j = 3 := by omega
    clear hj
    rcases h4 with rfl | rfl | rfl | rfl
    · have k0 := (HK.out.keep HB.out).c 0 _ rfl
      have c0 := (HI.out.keep HB.out).c 0 _ rfl
      have c1 := (HI.out.keep HB.out).c 1 _ rfl
      have klt := (HK.out.keep HB.out).lt
      have KB := Lib.hid ((HK.out.keep HB.out).keep ((Below.refl _ _).alloc (Nat.le_refl _) (Obj.cells #[.int .i64 1, .int .i64 a] 43)))
      have k1 := KB.out.c 0 _ rfl
      go_upto_region 7 with fail
      go_quiet ((fail))
      (try simp only [Exit.then])
      go_wp2_with (at_builtin; refine wpList_append_own _ rfl _ _ 24 rfl w.heap.size 2 i0 (.int .i64 0) 1 8 Try.underlying24 hif hz0 hz1 hz2 rfl (by decide) _ _ _ rfl (own_at (own_keep (own_at HO.out _) (below_drewN _ _ _)) _) ⟨_, 0, none⟩ 1 1 [.int .i64 a] rfl rfl ?d01 ?d02 ?d03 ?d04 ?d05 ?_)
      case d01 =>
        intro q u hu
        rw [add_plain, Nat.zero_add]
        have hr := (row_fresh (World.drewN (wr.alloc (Obj.cells #[.int .i64 1, .int .i64 a] 43)) nq) #[.int .i64 a] 2).c q u hu
        rw [show (World.drewN (wr.alloc (Obj.cells #[.int .i64 1, .int .i64 a] 43)) nq).heap.size = wr.heap.size + 1 from World.size_alloc _ _] at hr
        exact hr
      case d02 =>
        intro u hu
        simp at hu
        subst hu
        rfl
      case d03 => unfold maxLen; omega
      case d04 => omega
      case d05 => have := HB.out.size; simp; omega
      intro v5 w5 hown hgrow _
      have HO5 := Lib.hid (show w5.ownsRow w.heap.size 2 1 v5 (0 + 1) ((numsL a b).take (0 + 1)) from hown)
      have HB5 := Lib.hid ((((HB.out.alloc HB.out.size (Obj.cells #[.int .i64 1, .int .i64 a] 43)).trans (below_drewN _ _ nq)).alloc (by have := HB.out.size; simp; omega) (Obj.cells #[.int .i64 a] 2)).grown hgrow (by have := HB.out.size; simp; omega) (fun k hk => (HO.out.lt k hk).1))
      clear hown hgrow k0 c0 c1 k1
      go_wp2_with fail
      go_roundw
      case rel => exact ⟨0 + 1, by omega, by go_num, Lib.hid ⟨HO5.out, HB5.out⟩⟩
      case measure => (simp [intOf]) <;> omega
    · have k0 := (HK.out.keep HB.out).c 1 _ rfl
      have c0 := (HI.out.keep HB.out).c 2 _ rfl
      have c1 := (HI.out.keep HB.out).c 3 _ rfl
      have klt := (HK.out.keep HB.out).lt
      have KB := Lib.hid ((HK.out.keep HB.out).keep ((Below.refl _ _).alloc (Nat.le_refl _) (Obj.cells #[.int .i64 1, .int .i64 b] 43)))
      have k1 := KB.out.c 1 _ rfl
      go_upto_region 7 with fail
      go_quiet ((fail))
      (try simp only [Exit.then])
      go_wp2_with (at_builtin; refine wpList_append_own _ rfl _ _ 24 rfl w.heap.size 2 i0 (.int .i64 0) 1 8 Try.underlying24 hif hz0 hz1 hz2 rfl (by decide) _ _ _ rfl (own_at (own_keep (own_at HO.out _) (below_drewN _ _ _)) _) ⟨_, 0, none⟩ 1 1 [.int .i64 b] rfl rfl ?d11 ?d12 ?d13 ?d14 ?d15 ?_)
      case d11 =>
        intro q u hu
        rw [add_plain, Nat.zero_add]
        have hr := (row_fresh (World.drewN (wr.alloc (Obj.cells #[.int .i64 1, .int .i64 b] 43)) nq) #[.int .i64 b] 2).c q u hu
        rw [show (World.drewN (wr.alloc (Obj.cells #[.int .i64 1, .int .i64 b] 43)) nq).heap.size = wr.heap.size + 1 from World.size_alloc _ _] at hr
        exact hr
      case d12 =>
        intro u hu
        simp at hu
        subst hu
        rfl
      case d13 => unfold maxLen; omega
      case d14 => omega
      case d15 => have := HB.out.size; simp; omega
      intro v5 w5 hown hgrow _
      have HO5 := Lib.hid (show w5.ownsRow w.heap.size 2 1 v5 (1 + 1) ((numsL a b).take (1 + 1)) from hown)
      have HB5 := Lib.hid ((((HB.out.alloc HB.out.size (Obj.cells #[.int .i64 1, .int .i64 b] 43)).trans (below_drewN _ _ nq)).alloc (by have := HB.out.size; simp; omega) (Obj.cells #[.int .i64 b] 2)).grown hgrow (by have := HB.out.size; simp; omega) (fun k hk => (HO.out.lt k hk).1))
      clear hown hgrow k0 c0 c1 k1
      go_wp2_with fail
      go_roundw
      case rel => exact ⟨1 + 1, by omega, by go_num, Lib.hid ⟨HO5.out, HB5.out⟩⟩
      case measure => (simp [intOf]) <;> omega
    · have k0 := (HK.out.keep HB.out).c 2 _ rfl
      have c0 := (HI.out.keep HB.out).c 4 _ rfl
      have c1 := (HI.out.keep HB.out).c 5 _ rfl
      have klt := (HK.out.keep HB.out).lt
      have KB := Lib.hid ((HK.out.keep HB.out).keep ((Below.refl _ _).alloc (Nat.le_refl _) (Obj.cells #[.int .i64 2, .int .i64 1] 43)))
      have k1 := KB.out.c 2 _ rfl
      go_upto_region 7 with fail
      go_quiet ((go_at_call 39; exact Calls.quiet_of_same ((isBit1 _).mono fun _ _ h => ⟨h.1, h.2.symm⟩)))
      (try simp only [Exit.then])
      go_wp2_with (at_builtin; refine wpList_append_own _ rfl _ _ 24 rfl w.heap.size 2 i0 (.int .i64 0) 1 8 Try.underlying24 hif hz0 hz1 hz2 rfl (by decide) _ _ _ rfl (own_at (own_keep (own_at HO.out _) (below_drewN _ _ _)) _) ⟨_, 0, none⟩ 1 1 [.int .i64 1] rfl rfl ?d21 ?d22 ?d23 ?d24 ?d25 ?_)
      case d21 =>
        intro q u hu
        rw [add_plain, Nat.zero_add]
        have hr := (row_fresh (World.drewN (wr.alloc (Obj.cells #[.int .i64 2, .int .i64 1] 43)) nq) #[.int .i64 1] 2).c q u hu
        rw [show (World.drewN (wr.alloc (Obj.cells #[.int .i64 2, .int .i64 1] 43)) nq).heap.size = wr.heap.size + 1 from World.size_alloc _ _] at hr
        exact hr
      case d22 =>
        intro u hu
        simp at hu
        subst hu
        rfl
      case d23 => unfold maxLen; omega
      case d24 => omega
      case d25 => have := HB.out.size; simp; omega
      intro v5 w5 hown hgrow _
      have HO5 := Lib.hid (show w5.ownsRow w.heap.size 2 1 v5 (2 + 1) ((numsL a b).take (2 + 1)) from hown)
      have HB5 := Lib.hid ((((HB.out.alloc HB.out.size (Obj.cells #[.int .i64 2, .int .i64 1] 43)).trans (below_drewN _ _ nq)).alloc (by have := HB.out.size; simp; omega) (Obj.cells #[.int .i64 1] 2)).grown hgrow (by have := HB.out.size; simp; omega) (fun k hk => (HO.out.lt k hk).1))
      clear hown hgrow k0 c0 c1 k1
      go_wp2_with fail
      go_roundw
      case rel => exact ⟨2 + 1, by omega, by go_num, Lib.hid ⟨HO5.out, HB5.out⟩⟩
      case measure => (simp [intOf]) <;> omega
    · have HO2 := Lib.hid HO.out
      go_wp2_with fail
      go_ret2
      exact ⟨_, rfl, HO2.out, HB.out⟩
end Go.Proofs.Ytepmeacdacnhmaa
