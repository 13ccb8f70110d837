/- The contract of add. -/
import Derived.Test.YtlmilalibgehpaaD
import Derived.Deep.CutRange
namespace Go.Proofs.Ytlmilalibgehpaa
open Go.RowKit

theorem check_cases (x : WrD) : checkW x = 0 ∨ checkW x = 1 ∨ checkW x = 6 ∨ checkW x = 11 := by
  unfold checkW
  split
  · exact .inr (.inl rfl)
  · split
    · exact .inr (.inr (.inl rfl))
    · split
      · exact .inr (.inr (.inl rfl))
      · split
        · exact .inr (.inr (.inr rfl))
        · exact .inl rfl
abbrev A2 (wb : World) (m b p : Nat) (xl xq xk xn yl yq yk yn : Int) (w' : World) : Prop := w'.cell? ⟨m, 0, none⟩ = some (.int .i64 xl) ∧ w'.cell? ⟨m, 1, none⟩ = some (.int .i64 xq) ∧ w'.cell? ⟨m, 2, none⟩ = some (.int .i64 xk) ∧ w'.cell? ⟨m, 3, none⟩ = some (.int .i64 xn) ∧ w'.cell? ⟨b, p * 4, none⟩ = some (.int .i64 yl) ∧ w'.cell? ⟨b, p * 4 + 1, none⟩ = some (.int .i64 yq) ∧ w'.cell? ⟨b, p * 4 + 2, none⟩ = some (.int .i64 yk) ∧ w'.cell? ⟨b, p * 4 + 3, none⟩ = some (.int .i64 yn) ∧ Below wb.heap.size wb w'
theorem a2_of {wb w' : World} {m b p : Nat} {xl xq xk xn yl yq yk yn : Int} (s : A2 wb m b p xl xq xk xn yl yq yk yn wb) (hb : Below wb.heap.size wb w') : A2 wb m b p xl xq xk xn yl yq yk yn w' := by
  obtain ⟨s0, s1, s2, s3, s4, s5, s6, s7, _⟩ := s
  have hm : m < wb.heap.size := World.block_lt_of_cell? _ _ s0
  have hq : b < wb.heap.size := World.block_lt_of_cell? _ _ s4
  exact ⟨(hb.cell (p := ⟨m, 0, none⟩) hm).trans s0, (hb.cell (p := ⟨m, 1, none⟩) hm).trans s1, (hb.cell (p := ⟨m, 2, none⟩) hm).trans s2, (hb.cell (p := ⟨m, 3, none⟩) hm).trans s3, (hb.cell (p := ⟨b, p * 4, none⟩) hq).trans s4, (hb.cell (p := ⟨b, p * 4 + 1, none⟩) hq).trans s5, (hb.cell (p := ⟨b, p * 4 + 2, none⟩) hq).trans s6, (hb.cell (p := ⟨b, p * 4 + 3, none⟩) hq).trans s7, hb⟩
theorem a2_bel {wb w' : World} {m b p : Nat} {xl xq xk xn yl yq yk yn : Int} (s : A2 wb m b p xl xq xk xn yl yq yk yn w') : Below wb.heap.size wb w' := s.2.2.2.2.2.2.2.2
theorem a2_keep {wb w1 w2 : World} {m b p : Nat} {xl xq xk xn yl yq yk yn : Int} (c0 : A2 wb m b p xl xq xk xn yl yq yk yn wb) (hb : Below w1.heap.size w1 w2) (s : A2 wb m b p xl xq xk xn yl yq yk yn w1) : A2 wb m b p xl xq xk xn yl yq yk yn w2 := a2_of c0 ((a2_bel s).trans (hb.mono (a2_bel s).size))
abbrev A1 (wb : World) (m : Nat) (xl xq xk xn : Int) (w' : World) : Prop := w'.cell? ⟨m, 0, none⟩ = some (.int .i64 xl) ∧ w'.cell? ⟨m, 1, none⟩ = some (.int .i64 xq) ∧ w'.cell? ⟨m, 2, none⟩ = some (.int .i64 xk) ∧ w'.cell? ⟨m, 3, none⟩ = some (.int .i64 xn) ∧ Below wb.heap.size wb w'
theorem a1_of {wb w' : World} {m : Nat} {xl xq xk xn : Int} (s : A1 wb m xl xq xk xn wb) (hb : Below wb.heap.size wb w') : A1 wb m xl xq xk xn w' := by
  obtain ⟨s0, s1, s2, s3, _⟩ := s
  have hm : m < wb.heap.size := World.block_lt_of_cell? _ _ s0
  exact ⟨(hb.cell (p := ⟨m, 0, none⟩) hm).trans s0, (hb.cell (p := ⟨m, 1, none⟩) hm).trans s1, (hb.cell (p := ⟨m, 2, none⟩) hm).trans s2, (hb.cell (p := ⟨m, 3, none⟩) hm).trans s3, hb⟩

set_option maxHeartbeats 4000000 in
set_option maxRecDepth 100000 in
theorem add_any (b : Nat) (S : Nat → WrD) (a : Option Addr) (cap : Nat) (xs : List WrD) (w0 w : World) (hmax : xs.length ≤ 200) (hS : RowAt w b (slotC S)) (hin : InS w0 a xs.length 4 (flat wrL xs)) (hK : Below w0.heap.size w0 w) (hb : w0.heap.size ≤ b) : Calls Try.prog 36 #[.pointer (some ⟨b, 0, none⟩), .slice a xs.length cap] w fun e w' => e = .returned (.tuple #[]) ∧ RowAt w' b (slotC (slotsF S xs)) ∧ KB b w w' := by
  obtain ⟨N, hN⟩ : ∃ N, N = xs.length := ⟨_, rfl⟩
  rw [← hN]
  have HN := Lib.hid hN
  have HI := Lib.hid hin
  have HS := Lib.hid hS
  have HK := Lib.hid hK
  have H0 := Lib.hid hb
  have HM := Lib.hid hmax
  clear hN hin hS hK hb hmax
  go_enter Try.func36, Try.ntmps36
  go_wp2_with fail
  go_loopw [8] (fun i wr => ∃ j : Nat, j ≤ N ∧ i = .int .i64 j ∧ Hid (RowAt wr b (slotC (slotsF S (xs.take j))) ∧ KB b w wr)) (fun i _ => N - (intOf i).toNat)
  case atStart => exact ⟨0, by omega, rfl, Lib.hid ⟨HS.out, KB.refl _ _⟩⟩
  case round =>
    obtain ⟨j, hj, rfl, hH⟩ := hrel
    by_cases hlt : j < N
    · have hjx : j < xs.length := by rw [← HN.out]; exact hlt
      have HKr := Lib.hid (HK.out.trans (hH.out.2.to_below H0.out HK.out.size))
      obtain ⟨d, o, rfl, hbl, hcell⟩ := (HI.out.keep HKr.out).at wrL_len (by omega)
      obtain ⟨x, hx⟩ : ∃ x, xs[j]? = some x := ⟨_, List.getElem?_eq_getElem hjx⟩
      have HT := Lib.hid (show slotsF S (xs.take (j + 1)) = addS (slotsF S (xs.take j)) x by
        rw [List.take_add_one, hx]; unfold slotsF; rw [List.foldl_append]; rfl)
      obtain ⟨T, hT⟩ : ∃ T, T = slotsF S (xs.take j) := ⟨_, rfl⟩
      have HR := Lib.hid hH.out.1
      have HKB := Lib.hid hH.out.2
      rw [← hT] at HT HR
      obtain ⟨xl, xq, xk, xn⟩ := x
      have q0 := hcell j _ hx 0 _ rfl
      have q1 := hcell j _ hx 1 _ rfl
      have q2 := hcell j _ hx 2 _ rfl
      have q3 := hcell j _ hx 3 _ rfl
      rw [Nat.add_zero] at q0
      have k1 : (0 : Int) ≤ (j : Int) := by omega
      have k2 : (j : Int) < (N : Int) := by omega
      have k3 : N ≤ 200 := by rw [HN.out]; exact HM.out
      have hbm : b ≠ wr.heap.size := Nat.ne_of_lt HR.out.lt
      have hfr := row_fresh wr #[.int .i64 xl, .int .i64 xq, .int .i64 xk, .int .i64 xn] 25
      have ha := (Below.refl wr.heap.size wr).alloc (Nat.le_refl _) (Obj.cells #[.int .i64 xl, .int .i64 xq, .int .i64 xk, .int .i64 xn] 25)
      have HR1 := Lib.hid (HR.out.keep ha)
      have HF1 := Lib.hid hfr
      have HK1 := Lib.hid (HKB.out.below ha)
      have hck := fun w => check_any xl xq xk xn w
      clear hcell hx hjx hT hH hbl ha hfr HKr
      by_cases he : checkW ⟨xl, xq, xk, xn⟩ = 0
      · obtain ⟨l1, l2⟩ := check_level he
        obtain ⟨p, hp⟩ : ∃ p : Nat, (xl - 1).toNat = p := ⟨_, rfl⟩
        have hpl : (p : Int) = xl - 1 := by have l1 : 1 ≤ xl := l1; omega
        have hp16 : p < 16 := by have l2 : xl ≤ 16 := l2; omega
        obtain ⟨⟨yl, yq, yk, yn⟩, hy⟩ : ∃ y, T p = y := ⟨_, rfl⟩
        rw [he] at hck
        have HCK := Lib.hid hck
        have HCM := Lib.hid (fun w => compare_any xl xq xk xn yl yq yk yn w)
        have hat := fun i v h => HR1.out.c (p * 4 + i) v ((slotC_at T p i hp16 (by
          have := (List.getElem?_eq_some_iff.1 h).1; exact this)).trans h)
        rw [hy] at hat
        have z0 := hat 0 _ rfl
        have z1 := hat 1 _ rfl
        have z2 := hat 2 _ rfl
        have z3 := hat 3 _ rfl
        rw [Nat.add_zero] at z0
        have HC := Lib.hid (show A2 _ wr.heap.size b p xl xq xk xn yl yq yk yn (wr.alloc (Obj.cells #[.int .i64 xl, .int .i64 xq, .int .i64 xk, .int .i64 xn] 25)) from ⟨HF1.out.c 0 _ rfl, HF1.out.c 1 _ rfl, HF1.out.c 2 _ rfl, HF1.out.c 3 _ rfl, z0, z1, z2, z3, Below.refl _ _⟩)
        have m0 := HF1.out.c 0 _ rfl
        have m1 := HF1.out.c 1 _ rfl
        have m2 := HF1.out.c 2 _ rfl
        have m3 := HF1.out.c 3 _ rfl
        have HY := Lib.hid hy
        have HE := Lib.hid he
        have HPL := Lib.hid hp
        have w1 : IntKind.i64.wrap (xl - 1) = (p : Int) := by rw [IntWalk.i64_in _ ⟨by omega, by omega⟩]; omega
        have w2 : (0 : Int) ≤ (p : Int) := by omega
        have w3 : (p : Int) < 16 := by omega
        have w4 : ((p : Int)).toNat = p := by omega
        have HP16 := Lib.hid hp16
        clear hck hat hy he hpl l1 l2 hp
        obtain ⟨C, hC⟩ : ∃ C, C = cmpW ⟨xl, xq, xk, xn⟩ ⟨yl, yq, yk, yn⟩ := ⟨_, rfl⟩
        have hcm := HCM.out
        rw [← hC] at hcm
        have HCC := Lib.hid hcm
        have HCE := Lib.hid hC
        clear hcm hC HCM
        go_wp2_with fail
        obtain ⟨wb, hwb⟩ : ∃ v, v = wr.alloc (Obj.cells #[.int .i64 xl, .int .i64 xq, .int .i64 xk, .int .i64 xn] 25) := ⟨_, rfl⟩
        obtain ⟨m, hm⟩ : ∃ v, v = wr.heap.size := ⟨_, rfl⟩
        rw [← hwb] at HC HR1 HF1 HK1 z0 z1 z2 z3 m0 m1 m2 m3 ⊢
        rw [← hm] at HC HF1 hbm m0 m1 m2 m3 ⊢
        clear hwb hm
        have HCD := Lib.hid (a2_of HC.out (Below.refl _ _).drew)
        go_region_held3 (fun w' => w'.cell? ⟨m, 0, none⟩ = some (.int .i64 xl) ∧ w'.cell? ⟨m, 1, none⟩ = some (.int .i64 xq) ∧ w'.cell? ⟨m, 2, none⟩ = some (.int .i64 xk) ∧ w'.cell? ⟨m, 3, none⟩ = some (.int .i64 xn) ∧ w'.cell? ⟨b, p * 4, none⟩ = some (.int .i64 yl) ∧ w'.cell? ⟨b, p * 4 + 1, none⟩ = some (.int .i64 yq) ∧ w'.cell? ⟨b, p * 4 + 2, none⟩ = some (.int .i64 yk) ∧ w'.cell? ⟨b, p * 4 + 3, none⟩ = some (.int .i64 yn) ∧ Below wb.heap.size wb w')
          (first | (with_reducible exact HC.out) | (with_reducible exact HCD.out) | (with_reducible exact a2_keep HC.out hb2 (by assumption)) | go_keep)
          (first | (go_at_call 12; refine (HCK.out _).mono ?_; rintro e x1 ⟨rfl, hb2⟩; have HS1 : Hid (A2 wb m b p xl xq xk xn yl yq yk yn x1) := a2_keep HC.out hb2 (by assumption)) | (go_at_call 39; refine (HCC.out _).mono ?_; rintro e x2 ⟨rfl, hb2⟩; have HS2 : Hid (A2 wb m b p xl xq xk xn yl yq yk yn x2) := a2_keep HC.out hb2 (by assumption)))
        rename_i hHeld
        clear hHeld z0 z1 z2 z3 m0 m1 m2 m3
        have hG := a2_bel HS2.out
        have HR3 := Lib.hid (HR1.out.keep hG)
        have HF3 := Lib.hid (HF1.out.keep hG)
        have HK3 := Lib.hid (HK1.out.below hG)
        obtain ⟨m0, m1, m2, m3, z0, z1, z2, z3, _⟩ := HS2.out
        clear hG HS1 HC HCD HR1 HF1 HK1
        by_cases hpos : 0 < C
        · have hz := HR3.out.fz
          have HT2 := Lib.hid (show slotsF S (xs.take (j + 1)) = setS T p ⟨xl, xq, xk, xn⟩ from HT.out.trans (addS_new HPL.out HE.out (by rw [HY.out, ← HCE.out]; exact hpos)))
          go_wp2_with fail
          go_region_held3 (fun w' => w'.cell? ⟨m, 0, none⟩ = some (.int .i64 xl) ∧ w'.cell? ⟨m, 1, none⟩ = some (.int .i64 xq) ∧ w'.cell? ⟨m, 2, none⟩ = some (.int .i64 xk) ∧ w'.cell? ⟨m, 3, none⟩ = some (.int .i64 xn)) (first | go_keep) ((fail))
          rename_i hHeld
          clear hHeld
          have HN9 := Lib.hid ((slot_set HR3.out p HP16.out ⟨xl, xq, xk, xn⟩).drew)
          have HK9 := Lib.hid ((HK3.out.cells (p * 4) (wrL ⟨xl, xq, xk, xn⟩)).below (Below.refl _ _).drew)
          go_wp2_with fail
          go_roundw
          case rel => exact ⟨j + 1, by omega, by go_num, Lib.hid ⟨by rw [HT2.out]; exact HN9.out, HK9.out⟩⟩
          case measure => simp [intOf]; omega
        · have HT2 := Lib.hid (show slotsF S (xs.take (j + 1)) = T from HT.out.trans (addS_low HPL.out (by rw [HY.out, ← HCE.out]; exact hpos)))
          go_wp2_with fail
          go_roundw
          case rel => exact ⟨j + 1, by omega, by go_num, Lib.hid ⟨by rw [HT2.out]; exact HR3.out, HK3.out⟩⟩
          case measure => simp [intOf]; omega
      · have HT2 := Lib.hid (show slotsF S (xs.take (j + 1)) = T from HT.out.trans (addS_bad he))
        have hcs : checkW ⟨xl, xq, xk, xn⟩ = 1 ∨ checkW ⟨xl, xq, xk, xn⟩ = 6 ∨ checkW ⟨xl, xq, xk, xn⟩ = 11 := by
          rcases check_cases ⟨xl, xq, xk, xn⟩ with h | h
          · exact absurd h he
          · exact h
        have m0 := HF1.out.c 0 _ rfl
        have m1 := HF1.out.c 1 _ rfl
        have m2 := HF1.out.c 2 _ rfl
        have m3 := HF1.out.c 3 _ rfl
        clear he
        rcases hcs with hE | hE | hE
        all_goals
          rw [hE] at hck
          have HCK := Lib.hid hck
          clear hck hE
          go_wp2_with fail
          obtain ⟨wb, hwb⟩ : ∃ v, v = wr.alloc (Obj.cells #[.int .i64 xl, .int .i64 xq, .int .i64 xk, .int .i64 xn] 25) := ⟨_, rfl⟩
          obtain ⟨m, hm⟩ : ∃ v, v = wr.heap.size := ⟨_, rfl⟩
          rw [← hwb] at HR1 HF1 HK1 m0 m1 m2 m3 ⊢
          rw [← hm] at HF1 hbm m0 m1 m2 m3 ⊢
          clear hwb hm
          have HC := Lib.hid (show A1 wb m xl xq xk xn wb from ⟨m0, m1, m2, m3, Below.refl _ _⟩)
          have HCD := Lib.hid (a1_of HC.out (Below.refl _ _).drew)
          refine wp_region_held_drew (S := fun w' => w'.cell? ⟨m, 0, none⟩ = some (.int .i64 xl) ∧ w'.cell? ⟨m, 1, none⟩ = some (.int .i64 xq) ∧ w'.cell? ⟨m, 2, none⟩ = some (.int .i64 xk) ∧ w'.cell? ⟨m, 3, none⟩ = some (.int .i64 xn) ∧ Below wb.heap.size wb w') (by kernel_rfl) HCD.out (fun hHeld => ?_)
          refine wpAnyH_take (i := 0) (v := .agg #[.int .i64 xl, .int .i64 xq, .int .i64 xk, .int .i64 xn]) rfl (by kernel_rfl) (by kernel_rfl) (by kernel_rfl) (fun _ _ _ h => h) (Or.inl ⟨by rfl, ?_⟩) hHeld ?_
          · intro w hSw
            (try dsimp only at hSw)
            go_simp
          (try simp only [Act.put, List.getElem_toArray, List.getElem_cons_zero, List.setIfInBounds_toArray, List.set_cons_zero, List.set_cons_succ])
          refine wpAnyH_ready (rs := [1]) (by kernel_rfl) (by simp) ?_
          refine AllReadyH.cons rfl (fun K hK => ?_) AllReadyH.nil
          go_simp
          refine (HCK.out _).mono ?_
          rintro e x1 ⟨rfl, hb2⟩
          have HS1 : Hid (A1 wb m xl xq xk xn x1) := a1_of HC.out (by first | exact hb2 | exact (Below.refl _ _).drew.trans hb2)
          clear hb2
          try go_simp
          refine hK.out _ _ HS1.out (fun hHeld => ?_)
          clear hK K
          (try simp only [Act.put, List.getElem_toArray, List.getElem_cons_zero, List.getElem_cons_succ, List.setIfInBounds_toArray, List.set_cons_zero, List.set_cons_succ])
          refine wpAnyH_take (i := 2) (v := .bool false) rfl (by kernel_rfl) (by kernel_rfl) (by kernel_rfl) (fun _ _ _ h => h) (Or.inl ⟨by rfl, ?_⟩) hHeld ?_
          · intro w hSw
            (try dsimp only at hSw)
            go_simp
          (try simp only [Act.put, List.getElem_toArray, List.getElem_cons_zero, List.getElem_cons_succ, List.setIfInBounds_toArray, List.set_cons_zero, List.set_cons_succ])
          refine wpAnyH_take (i := 3) (v := .bool false) rfl (by kernel_rfl) (by kernel_rfl) (by kernel_rfl) (fun _ _ _ h => h) (Or.inl ⟨by rfl, ?_⟩) hHeld ?_
          · intro w hSw
            (try dsimp only at hSw)
            go_simp
          (try simp only [Act.put, List.getElem_toArray, List.getElem_cons_zero, List.getElem_cons_succ, List.setIfInBounds_toArray, List.set_cons_zero, List.set_cons_succ])
          refine wpAnyH_take (i := 4) (v := undef) rfl (by kernel_rfl) (by kernel_rfl) (by kernel_rfl) (fun _ _ _ h => h) (Or.inr ⟨by kernel_rfl, rfl⟩) hHeld ?_
          (try simp only [Act.put, List.getElem_toArray, List.getElem_cons_zero, List.getElem_cons_succ, List.setIfInBounds_toArray, List.set_cons_zero, List.set_cons_succ])
          refine wpAnyH_take (i := 5) (v := undef) rfl (by kernel_rfl) (by kernel_rfl) (by kernel_rfl) (fun _ _ _ h => h) (Or.inr ⟨by kernel_rfl, rfl⟩) hHeld ?_
          (try simp only [Act.put, List.getElem_toArray, List.getElem_cons_zero, List.getElem_cons_succ, List.setIfInBounds_toArray, List.set_cons_zero, List.set_cons_succ])
          refine wpAnyH_take (i := 6) (v := undef) rfl (by kernel_rfl) (by kernel_rfl) (by kernel_rfl) (fun _ _ _ h => h) (Or.inr ⟨by kernel_rfl, rfl⟩) hHeld ?_
          (try simp only [Act.put, List.getElem_toArray, List.getElem_cons_zero, List.getElem_cons_succ, List.setIfInBounds_toArray, List.set_cons_zero, List.set_cons_succ])
          refine wpAnyH_take (i := 7) (v := undef) rfl (by kernel_rfl) (by kernel_rfl) (by kernel_rfl) (fun _ _ _ h => h) (Or.inr ⟨by kernel_rfl, rfl⟩) hHeld ?_
          (try simp only [Act.put, List.getElem_toArray, List.getElem_cons_zero, List.getElem_cons_succ, List.setIfInBounds_toArray, List.set_cons_zero, List.set_cons_succ])
          refine wpAnyH_take (i := 8) (v := undef) rfl (by kernel_rfl) (by kernel_rfl) (by kernel_rfl) (fun _ _ _ h => h) (Or.inr ⟨by kernel_rfl, rfl⟩) hHeld ?_
          (try simp only [Act.put, List.getElem_toArray, List.getElem_cons_zero, List.getElem_cons_succ, List.setIfInBounds_toArray, List.set_cons_zero, List.set_cons_succ])
          refine wpAnyH_take (i := 9) (v := undef) rfl (by kernel_rfl) (by kernel_rfl) (by kernel_rfl) (fun _ _ _ h => h) (Or.inr ⟨by kernel_rfl, rfl⟩) hHeld ?_
          (try simp only [Act.put, List.getElem_toArray, List.getElem_cons_zero, List.getElem_cons_succ, List.setIfInBounds_toArray, List.set_cons_zero, List.set_cons_succ])
          refine wpAnyH_take (i := 10) (v := undef) rfl (by kernel_rfl) (by kernel_rfl) (by kernel_rfl) (fun _ _ _ h => h) (Or.inr ⟨by kernel_rfl, rfl⟩) hHeld ?_
          (try simp only [Act.put, List.getElem_toArray, List.getElem_cons_zero, List.getElem_cons_succ, List.setIfInBounds_toArray, List.set_cons_zero, List.set_cons_succ])
          refine wpAnyH_take (i := 11) (v := undef) rfl (by kernel_rfl) (by kernel_rfl) (by kernel_rfl) (fun _ _ _ h => h) (Or.inr ⟨by kernel_rfl, rfl⟩) hHeld ?_
          (try simp only [Act.put, List.getElem_toArray, List.getElem_cons_zero, List.getElem_cons_succ, List.setIfInBounds_toArray, List.set_cons_zero, List.set_cons_succ])
          refine wpAnyH_take (i := 12) (v := undef) rfl (by kernel_rfl) (by kernel_rfl) (by kernel_rfl) (fun _ _ _ h => h) (Or.inr ⟨by kernel_rfl, rfl⟩) hHeld ?_
          (try simp only [Act.put, List.getElem_toArray, List.getElem_cons_zero, List.getElem_cons_succ, List.setIfInBounds_toArray, List.set_cons_zero, List.set_cons_succ])
          refine wpAnyH_take (i := 13) (v := undef) rfl (by kernel_rfl) (by kernel_rfl) (by kernel_rfl) (fun _ _ _ h => h) (Or.inr ⟨by kernel_rfl, rfl⟩) hHeld ?_
          (try simp only [Act.put, List.getElem_toArray, List.getElem_cons_zero, List.getElem_cons_succ, List.setIfInBounds_toArray, List.set_cons_zero, List.set_cons_succ])
          refine wpAnyH_take (i := 14) (v := .bool false) rfl (by kernel_rfl) (by kernel_rfl) (by kernel_rfl) (fun _ _ _ h => h) (Or.inl ⟨by rfl, ?_⟩) hHeld ?_
          · intro w hSw
            (try dsimp only at hSw)
            go_simp
          (try simp only [Act.put, List.getElem_toArray, List.getElem_cons_zero, List.getElem_cons_succ, List.setIfInBounds_toArray, List.set_cons_zero, List.set_cons_succ])
          refine wpAnyH_done (by kernel_rfl) ?_ _
          (try simp only [Act.put, List.getElem_toArray, List.getElem_cons_zero, List.getElem_cons_succ, List.setIfInBounds_toArray, List.set_cons_zero, List.set_cons_succ])
          have hG : Below wb.heap.size wb x1 := HS1.out.2.2.2.2
          have HR3 := Lib.hid (HR1.out.keep hG)
          have HK3 := Lib.hid (HK1.out.below hG)
          clear hHeld hG m0 m1 m2 m3 HC HCD HS1
          go_wp2_with fail
          go_roundw
          case rel => exact ⟨j + 1, by omega, by go_num, Lib.hid ⟨by rw [HT2.out]; exact HR3.out, HK3.out⟩⟩
          case measure => simp [intOf]; omega
    · obtain rfl : j = N := by omega
      have HEND := Lib.hid (show RowAt wr b (slotC (slotsF S xs)) ∧ KB b w wr from by
        have h := hH.out
        rwa [HN.out, List.take_length] at h)
      go_wp2_with fail
      first | go_ret | go_end0
      exact ⟨rfl, HEND.out⟩
end Go.Proofs.Ytlmilalibgehpaa
