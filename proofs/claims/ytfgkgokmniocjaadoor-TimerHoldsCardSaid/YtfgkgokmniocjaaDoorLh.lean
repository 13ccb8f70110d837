/- The law Holds of timer. Asked: MaxLen's cell holds some number. -/
import Derived.Test.YtfgkgokmniocjaaDoorCi
namespace Go.Proofs.YtfgkgokmniocjaaDoor
open Go.RowKit Go.Shelf

set_option linter.unusedVariables false
theorem outs_at {w : World} {g M i : Nat} {ko : Int} {Ov : Nat → Int} (h : RowAt w g (flat valL (outsV ko Ov M))) (hi : i < M) : w.cell? ⟨g, i * 2, none⟩ = some (.int .i64 ko) ∧ w.cell? ⟨g, i * 2 + 1, none⟩ = some (.int .i64 (Ov i)) := by
  have e : (outsV ko Ov M)[i]? = some ⟨ko, Ov i⟩ := by unfold outsV; rw [List.getElem?_map, List.getElem?_range hi]; rfl
  exact ⟨h.c (i * 2) _ (by have := flat_at valL_len _ i _ e 0 (by decide); rw [Nat.add_zero] at this; exact this), h.c (i * 2 + 1) _ (flat_at valL_len _ i _ e 1 (by decide))⟩
theorem insV_take (K : Int) (zs : List Int) (j : Nat) (x : Int) (h : zs[j]? = some x) : insV K (zs.take (j + 1)) = insV K (zs.take j) ++ [[⟨K, x⟩]] := by
  unfold insV
  rw [List.take_add_one, h, List.map_append]
  rfl
theorem stHyst_bit (hi lo dt : Int) (xs : List Int) : ∀ k, stHyst hi lo dt xs k = 0 ∨ stHyst hi lo dt xs k = 1
  | 0 => .inl rfl
  | k + 1 => by
    have h := stHyst_bit hi lo dt xs k
    show hystN lo hi (xs.getD k 0) (stHyst hi lo dt xs k) = 0 ∨ hystN lo hi (xs.getD k 0) (stHyst hi lo dt xs k) = 1
    unfold hystN
    split
    · exact .inr rfl
    · split
      · exact .inl rfl
      · exact h
set_option maxHeartbeats 16000000 in
set_option maxRecDepth 100000 in
theorem holds_law (up down : Int) (a : Option Addr) (c : Nat) (xs : List Int) (dt : Int) (w : World) (hm : MaxAt w) (hin : InS w a xs.length 1 (flat iL xs)) :
    Calls Tryd.prog 9 #[.int .i64 up, .int .i64 down, .slice a xs.length c, .int .i64 dt] w fun e w' => e = .returned (.bool true) ∧ Below w.heap.size w w' := by
  have KAW := Lib.hid (awake_yes w hm)
  have HM := Lib.hid hm
  have HIN := Lib.hid hin
  obtain ⟨M, hM⟩ : ∃ M, M = xs.length := ⟨_, rfl⟩
  have HML := Lib.hid hM
  have m63 : M ≤ 9223372036854775807 := by rw [hM]; exact hin.2.1
  rw [← hM]
  clear hm hin hM
  by_cases hearly : (80 < M) ∨ (¬ 80 < M ∧ dt < 1) ∨ (¬ 80 < M ∧ ¬ dt < 1 ∧ 1000 < dt) ∨ (¬ 80 < M ∧ ¬ dt < 1 ∧ ¬ 1000 < dt ∧ up < -1000000000000) ∨ (¬ 80 < M ∧ ¬ dt < 1 ∧ ¬ 1000 < dt ∧ ¬ up < -1000000000000 ∧ 1000000000000 < up) ∨ (¬ 80 < M ∧ ¬ dt < 1 ∧ ¬ 1000 < dt ∧ ¬ up < -1000000000000 ∧ ¬ 1000000000000 < up ∧ down < -1000000000000) ∨ (¬ 80 < M ∧ ¬ dt < 1 ∧ ¬ 1000 < dt ∧ ¬ up < -1000000000000 ∧ ¬ 1000000000000 < up ∧ ¬ down < -1000000000000 ∧ up ≤ down)
  · rcases hearly with x0 | ⟨x0, x1⟩ | ⟨x0, x1, x2⟩ | ⟨x0, x1, x2, x3⟩ | ⟨x0, x1, x2, x3, x4⟩ | ⟨x0, x1, x2, x3, x4, x5⟩ | ⟨x0, x1, x2, x3, x4, x5, x6⟩
    all_goals
      go_enter Tryd.func9, Tryd.ntmps9
      go_wp2_with fail
      refine KAW.out.mono ?_
      rintro e w1 ⟨rfl, hb⟩
      have HB1 := Lib.hid hb
      clear hb
      go_wp2_with fail
      go_ret
      exact ⟨rfl, HB1.out⟩
  · have m80 : M ≤ 80 := by omega
    have d1 : 1 ≤ dt := by omega
    have d2 : dt ≤ 1000 := by omega
    have u1 : -1000000000000 ≤ up := by omega
    have u2 : up ≤ 1000000000000 := by omega
    have w1 : -1000000000000 ≤ down := by omega
    have w2 : down < up := by omega
    clear hearly m63
    obtain ⟨iv, hif, hz0, hz1, hz2⟩ := info_parts infoSV
    have HIF := Lib.hid hif
    have HZ0 := Lib.hid hz0
    have HZ1 := Lib.hid hz1
    have HZ2 := Lib.hid hz2
    clear hif hz0 hz1 hz2
    go_enter Tryd.func9, Tryd.ntmps9
    go_wp2_with fail
    refine KAW.out.mono ?_
    rintro e wa ⟨rfl, hb⟩
    have HB1 := Lib.hid hb
    obtain ⟨BB, hBB⟩ : ∃ b, b = wa.heap.size := ⟨_, rfl⟩
    have HWB := Lib.hid (show w.heap.size ≤ BB by have := hb.size; omega)
    have HL0 := Lib.hid (ll_nil wa BB (by omega))
    have HBW0 := Lib.hid (hb.trans ((((Below.refl wa.heap.size wa).alloc (Nat.le_refl _) (Obj.cells #[] 23))).mono hb.size))
    have HBB0 := Lib.hid (show BB ≤ (wa.alloc (Obj.cells #[] 23)).heap.size by rw [World.size_alloc]; omega)
    clear hb hBB KAW
    go_wp2_with fail
    go_loopw [9, 10] (fun v i wr => ∃ j : Nat, j ≤ M ∧ i = .int .i64 j ∧ Hid (LL wr BB v j (insV 1 (xs.take j)) ∧ Below w.heap.size w wr ∧ BB ≤ wr.heap.size)) (fun _ i _ => M - (intOf i).toNat)
    case atStart => exact ⟨0, Nat.zero_le _, rfl, Lib.hid ⟨HL0.out, HBW0.out, HBB0.out⟩⟩
    case round =>
      obtain ⟨j, hj, rfl, hH⟩ := hrel
      have HL := Lib.hid hH.out.1
      have HBW := Lib.hid hH.out.2.1
      have HBB := Lib.hid hH.out.2.2
      clear hH
      by_cases hlt : j < M
      · obtain ⟨lb, lo, rfl, hll, hlc⟩ := (show InS wr a xs.length 1 (flat iL xs) from HIN.out.keep HBW.out).at iL_len (by have := HML.out; omega)
        obtain ⟨x, hx⟩ : ∃ x, xs[j]? = some x := ⟨_, List.getElem?_eq_getElem (by have := HML.out; omega)⟩
        have l0 := hlc j _ hx 0 _ rfl
        simp only [Nat.mul_one, Nat.add_zero] at l0
        have HX := Lib.hid (insV_take 1 xs j x hx)
        have k1 : (0 : Int) ≤ (j : Int) := by omega
        have k2 : (j : Int) < (M : Int) := by omega
        clear hx hlc hll
        have hif := HIF.out
        have hz0 := HZ0.out
        have hz1 := HZ1.out
        have hz2 := HZ2.out
        obtain ⟨rs, hrl, hown0, hxl, hrs⟩ := HL.out
        have nal1 : Below wr.heap.size wr (wr.alloc (Obj.cells #[.int .i64 1, .int .i64 x] 26)) := (Below.refl _ _).alloc (Nat.le_refl _) _
        have hnew : (wr.alloc (Obj.cells #[.int .i64 1, .int .i64 x] 26)).ownsRow BB 26 2 (.slice (some ⟨wr.heap.size, 0, none⟩) 1 1) 1 [.int .i64 1, .int .i64 x] := World.ownsRow_lit wr #[.int .i64 1, .int .i64 x] 1 HBB.out (by unfold maxLen; omega) rfl
        have HRS := Lib.hid hrs
        have HNEW := Lib.hid hnew
        have HXL := Lib.hid hxl
        have HRL := Lib.hid hrl
        clear hrs hnew hxl hrl
        go_wp2_with (at_builtin; refine wpList_append_own _ rfl _ _ 39 rfl BB 23 iv (.slice none 0 0) 1 24 Tryd.underlying39 hif hz0 hz1 hz2 rfl (by decide) _ _ _ rfl (own_at (own_at hown0 _) _) ⟨wr.heap.size + 1, 0, none⟩ 1 1 [.slice (some ⟨wr.heap.size, 0, none⟩) 1 1] rfl rfl ?d1 ?d2 ?d3 ?d4 ?d5 ?_)
        try
          case d1 =>
            intro q u hu
            rw [add_plain, Nat.zero_add]
            have h := (row_fresh (wr.alloc (Obj.cells #[.int .i64 1, .int .i64 x] 26)) #[.slice (some ⟨wr.heap.size, 0, none⟩) 1 1] 23).c q u hu
            rwa [World.size_alloc] at h
        try
          case d2 =>
            first
              | rfl
              | (intro u hu; simp at hu; subst hu; rfl)
        case d3 => unfold maxLen; omega
        case d4 => omega
        case d5 => have := HBB.out; (try rw [World.size_alloc, World.size_alloc]); omega
        intro v5 w7 hown hgrow _
        have nal2 : Below (wr.alloc (Obj.cells #[.int .i64 1, .int .i64 x] 26)).heap.size (wr.alloc (Obj.cells #[.int .i64 1, .int .i64 x] 26)) ((wr.alloc (Obj.cells #[.int .i64 1, .int .i64 x] 26)).alloc (Obj.cells #[.slice (some ⟨wr.heap.size, 0, none⟩) 1 1] 23)) := (Below.refl _ _).alloc (Nat.le_refl _) _
        have nal : Below wr.heap.size wr ((wr.alloc (Obj.cells #[.int .i64 1, .int .i64 x] 26)).alloc (Obj.cells #[.slice (some ⟨wr.heap.size, 0, none⟩) 1 1] 23)) := nal1.trans (nal2.mono nal1.size)
        have hown0' := own_keep hown0 nal
        have vlt := fun q e => (hown0.lt q e).1
        have HLN := Lib.hid (show LL w7 BB v5 (j + 1) (insV 1 (xs.take j) ++ [[⟨1, x⟩]]) from
          ll_snoc HRL.out HXL.out hown (fun k r vs h1 h2 => let t := HRS.out k r vs h1 h2; ⟨t.1, (own_keep t.2 nal).kept hgrow (own_types (own_keep t.2 nal) hown0' (by decide))⟩) rfl ((own_keep HNEW.out nal2).kept hgrow (own_types (own_keep HNEW.out nal2) hown0' (by decide))))
        have HBB7 := Lib.hid (show BB ≤ w7.heap.size from Nat.le_trans (by have := HBB.out; have := nal.size; omega) hgrow.size)
        have HBN := Lib.hid ((HBW.out.trans (nal.mono HBW.out.size)).grown hgrow (by have := HBW.out.size; have := nal.size; omega) (fun q e => Nat.le_trans HWB.out (vlt q e)))
        clear hown hgrow nal nal1 nal2 vlt hif hz0 hz1 hz2 hown0 hown0'
        have HLM := Lib.hid (show LL w7 BB v5 (j + 1) (insV 1 (xs.take (j + 1))) by rw [HX.out]; exact HLN.out)
        clear l0
        go_wp2_with fail
        go_roundw
        case rel => exact ⟨j + 1, by omega, by go_num, Lib.hid ⟨HLM.out, HBN.out, HBB7.out⟩⟩
        case measure => (simp [intOf]) <;> omega
      · obtain rfl : j = M := by omega
        have HF := HL.out
        rw [List.take_of_length_le (by have := HML.out; omega)] at HF
        obtain ⟨oa, rs, oc, rfl, hrl, hio⟩ := ll_in HF
        obtain ⟨WP, p, hWP, hp, RP, BP, sz⟩ := box1 wr #[.int .i64 up, .int .i64 down] 2
        have HP := Lib.hid RP
        have HBP := Lib.hid (HBW.out.trans (BP.mono HBW.out.size))
        have kr := runHyst up down dt xs ⟨u1, u2⟩ ⟨w1, by omega⟩ w2 d1 (by omega) (by have := HML.out; omega) (some ⟨p, 0, none⟩) 2 oa oc rs WP (HM.out.keep HBP.out) ⟨rfl, (show 2 ≤ 9223372036854775807 by decide), .inr ⟨p, 0, rfl, HP.out.lt, fun q u hu => by rw [Nat.zero_add]; exact HP.out.c q u hu⟩⟩ (hio.keep BP)
        rw [hrl] at kr
        try rw [hrl]
        have KR := Lib.hid kr
        clear kr hio RP BP sz HF HL HBW HBB HL0 HBW0 HBB0 HB1 hrl
        go_wp2_with fail
        rw [← hWP]
        try rw [← hp]
        clear hWP hp
        refine KR.out.mono ?_
        rintro e wb ⟨v, rfl, ho, hb⟩
        have HBQ := Lib.hid (HBP.out.trans (hb.mono HBP.out.size))
        by_cases hM0 : j = 0
        · subst hM0
          obtain ⟨va, vc, rfl, _⟩ := ins_own ho
          clear ho hb KR HP HBP
          go_wp2_with fail
          go_loopw [13, 14] (fun h i wr => i = .int .i64 0 ∧ Hid (Below w.heap.size w wr)) (fun _ i _ => 0)
          case atStart => exact ⟨rfl, HBQ⟩
          case round =>
            obtain ⟨rfl, HBZ⟩ := hrel
            go_wp2_with fail
            go_ret
            exact ⟨rfl, HBZ.out⟩
        · obtain ⟨g, cap, rfl, hg, HO⟩ := own_row ho (by omega)
          have HG := Lib.hid HO
          clear ho hb KR HP HBP HO
          go_wp2_with fail
          go_loopw [13, 14] (fun h i wr => ∃ (k : Nat) (B : Bool), k ≤ j ∧ h = .bool B ∧ i = .int .i64 k ∧ Hid (stHyst up down dt xs k = bitN B ∧ Below wb.heap.size wb wr)) (fun _ i _ => j - (intOf i).toNat)
          case atStart => exact ⟨0, false, Nat.zero_le _, rfl, rfl, Lib.hid ⟨rfl, Below.refl _ _⟩⟩
          case round =>
            obtain ⟨k, B, hk, rfl, rfl, hH⟩ := hrel
            have HSB := Lib.hid hH.out.1
            have HBR := Lib.hid hH.out.2
            clear hH
            by_cases hlt2 : k < j
            · obtain ⟨lb, lo, rfl, hll, hlc⟩ := (show InS wr a xs.length 1 (flat iL xs) from (HIN.out.keep HBQ.out).keep HBR.out).at iL_len (by have := HML.out; omega)
              obtain ⟨x, hx⟩ : ∃ x, xs[k]? = some x := ⟨_, List.getElem?_eq_getElem (by have := HML.out; omega)⟩
              have l0 := hlc k _ hx 0 _ rfl
              simp only [Nat.mul_one, Nat.add_zero] at l0
              have hxd : xs.getD k 0 = x := by rw [List.getD_eq_getElem?_getD, hx]; rfl
              have ho := outs_at (HG.out.keep HBR.out) hlt2
              have hov : ovHyst up down dt xs k = hystN down up x (stHyst up down dt xs k) := by unfold ovHyst; rw [hxd]
              have hnx : stHyst up down dt xs (k + 1) = ovHyst up down dt xs k := rfl
              have k1 : (0 : Int) ≤ (k : Int) := by omega
              have k2 : (k : Int) < (j : Int) := by omega
              have lg := (HG.out.keep HBR.out).lt
              rw [HSB.out] at hov
              obtain ⟨V, hV⟩ : ∃ v, v = ovHyst up down dt xs k := ⟨_, rfl⟩
              rw [← hV] at hov ho hnx
              have HNX := Lib.hid hnx
              have HOV := Lib.hid hov
              obtain ⟨o0, o1⟩ := ho
              clear hx hxd hlc hll hov hnx hV
              rcases (by omega : up < x ∨ (¬ up < x ∧ x < down) ∨ (¬ up < x ∧ ¬ x < down)) with c1 | ⟨c1, c2⟩ | ⟨c1, c2⟩
              · obtain rfl : V = bitN true := by rw [HOV.out]; unfold hystN; rw [if_pos c1]; rfl
                have c9 : ¬ x < down := by omega
                have KX := Lib.hid (lbit_any true)
                have HC := Lib.hid (And.intro o0 o1)
                go_wp2_with fail
                go_region_held3 (fun w' => w'.cell? ⟨g, k * 2, none⟩ = some (.int .i64 2) ∧ w'.cell? ⟨g, k * 2 + 1, none⟩ = some (.int .i64 (bitN true)))
                  (first | (with_reducible exact ⟨q1, q2⟩) | (with_reducible exact HC.out) | go_keep)
                  ((refine (KX.out _).mono ?_; rintro e x1 ⟨rfl, hb2⟩; have q1 := (hb2.cell (p := ⟨g, k * 2, none⟩) lg).trans HC.out.1; have q2 := (hb2.cell (p := ⟨g, k * 2 + 1, none⟩) lg).trans HC.out.2))
                all_goals
                  rename_i hHeld
                  clear hHeld
                  have HB9 := Lib.hid (show Below wr.heap.size wr x1.drew by first | exact ((Below.refl wr.heap.size wr).drew.trans hb2).drew | exact (hb2.drew))
                  have HB8 := Lib.hid (show Below wr.heap.size wr x1 by first | exact (Below.refl wr.heap.size wr).drew.trans hb2 | exact hb2)
                  clear hb2 q1 q2 o0 o1
                  go_wp2_with fail
                  go_roundw
                  case rel => exact ⟨k + 1, true, by omega, rfl, by go_num, Lib.hid ⟨HNX.out, by first | exact HBR.out.trans (HB9.out.mono HBR.out.size) | exact HBR.out.trans (HB8.out.mono HBR.out.size)⟩⟩
                  case measure => (simp [intOf]) <;> omega
              · obtain rfl : V = bitN false := by rw [HOV.out]; unfold hystN; rw [if_neg c1, if_pos c2]; rfl
                have KX := Lib.hid (lbit_any false)
                have HC := Lib.hid (And.intro o0 o1)
                go_wp2_with fail
                go_region_held3 (fun w' => w'.cell? ⟨g, k * 2, none⟩ = some (.int .i64 2) ∧ w'.cell? ⟨g, k * 2 + 1, none⟩ = some (.int .i64 (bitN false)))
                  (first | (with_reducible exact ⟨q1, q2⟩) | (with_reducible exact HC.out) | go_keep)
                  ((refine (KX.out _).mono ?_; rintro e x1 ⟨rfl, hb2⟩; have q1 := (hb2.cell (p := ⟨g, k * 2, none⟩) lg).trans HC.out.1; have q2 := (hb2.cell (p := ⟨g, k * 2 + 1, none⟩) lg).trans HC.out.2))
                all_goals
                  rename_i hHeld
                  clear hHeld
                  have HB9 := Lib.hid (show Below wr.heap.size wr x1.drew by first | exact ((Below.refl wr.heap.size wr).drew.trans hb2).drew | exact (hb2.drew))
                  have HB8 := Lib.hid (show Below wr.heap.size wr x1 by first | exact (Below.refl wr.heap.size wr).drew.trans hb2 | exact hb2)
                  clear hb2 q1 q2 o0 o1
                  go_wp2_with fail
                  go_roundw
                  case rel => exact ⟨k + 1, false, by omega, rfl, by go_num, Lib.hid ⟨HNX.out, by first | exact HBR.out.trans (HB9.out.mono HBR.out.size) | exact HBR.out.trans (HB8.out.mono HBR.out.size)⟩⟩
                  case measure => (simp [intOf]) <;> omega
              · cases B
                · obtain rfl : V = bitN false := by rw [HOV.out]; unfold hystN; rw [if_neg c1, if_neg c2]
                  have KX := Lib.hid (lbit_any false)
                  have HC := Lib.hid (And.intro o0 o1)
                  go_wp2_with fail
                  go_region_held3 (fun w' => w'.cell? ⟨g, k * 2, none⟩ = some (.int .i64 2) ∧ w'.cell? ⟨g, k * 2 + 1, none⟩ = some (.int .i64 (bitN false)))
                    (first | (with_reducible exact ⟨q1, q2⟩) | (with_reducible exact HC.out) | go_keep)
                    ((refine (KX.out _).mono ?_; rintro e x1 ⟨rfl, hb2⟩; have q1 := (hb2.cell (p := ⟨g, k * 2, none⟩) lg).trans HC.out.1; have q2 := (hb2.cell (p := ⟨g, k * 2 + 1, none⟩) lg).trans HC.out.2))
                  all_goals
                    rename_i hHeld
                    clear hHeld
                    have HB9 := Lib.hid (show Below wr.heap.size wr x1.drew by first | exact ((Below.refl wr.heap.size wr).drew.trans hb2).drew | exact (hb2.drew))
                    have HB8 := Lib.hid (show Below wr.heap.size wr x1 by first | exact (Below.refl wr.heap.size wr).drew.trans hb2 | exact hb2)
                    clear hb2 q1 q2 o0 o1
                    go_wp2_with fail
                    go_roundw
                    case rel => exact ⟨k + 1, false, by omega, rfl, by go_num, Lib.hid ⟨HNX.out, by first | exact HBR.out.trans (HB9.out.mono HBR.out.size) | exact HBR.out.trans (HB8.out.mono HBR.out.size)⟩⟩
                    case measure => (simp [intOf]) <;> omega
                · obtain rfl : V = bitN true := by rw [HOV.out]; unfold hystN; rw [if_neg c1, if_neg c2]
                  have KX := Lib.hid (lbit_any true)
                  have HC := Lib.hid (And.intro o0 o1)
                  go_wp2_with fail
                  go_region_held3 (fun w' => w'.cell? ⟨g, k * 2, none⟩ = some (.int .i64 2) ∧ w'.cell? ⟨g, k * 2 + 1, none⟩ = some (.int .i64 (bitN true)))
                    (first | (with_reducible exact ⟨q1, q2⟩) | (with_reducible exact HC.out) | go_keep)
                    ((refine (KX.out _).mono ?_; rintro e x1 ⟨rfl, hb2⟩; have q1 := (hb2.cell (p := ⟨g, k * 2, none⟩) lg).trans HC.out.1; have q2 := (hb2.cell (p := ⟨g, k * 2 + 1, none⟩) lg).trans HC.out.2))
                  all_goals
                    rename_i hHeld
                    clear hHeld
                    have HB9 := Lib.hid (show Below wr.heap.size wr x1.drew by first | exact ((Below.refl wr.heap.size wr).drew.trans hb2).drew | exact (hb2.drew))
                    have HB8 := Lib.hid (show Below wr.heap.size wr x1 by first | exact (Below.refl wr.heap.size wr).drew.trans hb2 | exact hb2)
                    clear hb2 q1 q2 o0 o1
                    go_wp2_with fail
                    go_roundw
                    case rel => exact ⟨k + 1, true, by omega, rfl, by go_num, Lib.hid ⟨HNX.out, by first | exact HBR.out.trans (HB9.out.mono HBR.out.size) | exact HBR.out.trans (HB8.out.mono HBR.out.size)⟩⟩
                    case measure => (simp [intOf]) <;> omega
            · obtain rfl : k = j := by omega
              go_wp2_with fail
              go_ret
              exact ⟨rfl, HBQ.out.trans (HBR.out.mono HBQ.out.size)⟩
end Go.Proofs.YtfgkgokmniocjaaDoor
