/- Contracts of Breaks and the specification's Breaks. -/
import Derived.Test.YtojbhbifbennfaaPm
import Derived.Test.YtojbhbifbennfaaE
namespace Go.Proofs.Ytojbhbifbennfaa
open Go.RowKit Go.Shelf

def sL (x : Int × Int) : List Value := [.int .i64 x.1, .int .i64 x.2]
theorem sL_len (x : Int × Int) : (sL x).length = 2 := rfl
theorem breaks_cons (P : Nat) (dd : Int) (os : List Int) (j : Nat) (be le o : Int) (h : os[j]? = some o) : breaksI P dd (os.drop j) j be le = if j = 0 ∨ normO P o = be then breaksI P dd (os.drop (j + 1)) (j + 1) (normO P o) le else if normO P o = -1 then breaksI P dd (os.drop (j + 1)) (j + 1) (normO P o) j else if be ≠ -1 ∨ (le ≠ -1 ∧ (j : Int) - le < dd) then (j : Int) else breaksI P dd (os.drop (j + 1)) (j + 1) (normO P o) le := by
  rw [drop_cons h]; rfl
theorem rbreaks_cons (P : Nat) (dd : Int) (os : List Int) (j : Nat) (la si o : Int) (h : os[j]? = some o) : rbreaksI P dd (os.drop j) j la si = if (normO P o ≠ -1 ∧ la ≠ -1 ∧ normO P o ≠ la ∧ (si + 1 < 2 ∨ si < dd)) ∨ (normO P o ≠ -1 ∧ normO P o = la ∧ 2 ≤ si + 1 ∧ si < dd) then (j : Int) else if normO P o ≠ -1 then rbreaksI P dd (os.drop (j + 1)) (j + 1) (normO P o) 0 else rbreaksI P dd (os.drop (j + 1)) (j + 1) la (si + 1) := by
  rw [drop_cons h]; rfl
theorem breaks_end (P : Nat) (dd : Int) (os : List Int) (be le : Int) : breaksI P dd (os.drop os.length) os.length be le = -1 := by rw [List.drop_length]; rfl
theorem rbreaks_end (P : Nat) (dd : Int) (os : List Int) (la si : Int) : rbreaksI P dd (os.drop os.length) os.length la si = -1 := by rw [List.drop_length]; rfl

set_option maxHeartbeats 8000000 in
set_option maxRecDepth 100000 in
theorem breaks_any (nm : Value) (pa : Option Addr) (P pc : Nat) (dd : Int) (a : Option Addr) (cap : Nat) (xs : List (Int × Int)) (w : World) (hin : InS w a xs.length 2 (flat sL xs)) : Calls Try.prog 29 #[.agg #[nm, .slice pa P pc, .int .i64 dd], .slice a xs.length cap] w fun e w' => e = .returned (.int .i64 (breaksI P dd (xs.map Prod.fst) 0 (-1) (-1))) ∧ Below w.heap.size w w' := by
  obtain ⟨N, hN⟩ : ∃ N, N = xs.length := ⟨_, rfl⟩
  have HN := Lib.hid hN
  have HI := Lib.hid hin
  have hmx : N ≤ 9223372036854775807 := by have := hin.2.1; omega
  obtain ⟨W, g, hW, hg, R1, B, sz⟩ := box1 w #[nm, .slice pa P pc, .int .i64 dd] 33
  have HB0 := Lib.hid B
  have HG0 := Lib.hid R1
  rw [← hN]
  clear R1 B sz hN hin
  go_enter Try.func29, Try.ntmps29
  go_wp2_with fail
  rw [← hW]
  try rw [← hg]
  clear hW hg
  go_loopw [5, 6, 12] (fun be le i wr => ∃ (j : Nat) (b l : Int), j ≤ N ∧ i = .int .i64 j ∧ be = .int .i64 b ∧ le = .int .i64 l ∧ -1 ≤ l ∧ l ≤ j ∧ Hid (breaksI P dd (xs.map Prod.fst) 0 (-1) (-1) = breaksI P dd ((xs.map Prod.fst).drop j) j b l ∧ Below W.heap.size W wr)) (fun _ _ i _ => N - (intOf i).toNat)
  case atStart => exact ⟨0, -1, -1, by omega, rfl, rfl, rfl, by omega, by omega, Lib.hid ⟨rfl, Below.refl _ _⟩⟩
  case round =>
    obtain ⟨j, be, le, hj, rfl, rfl, rfl, hl0, hl1, hH⟩ := hrel
    by_cases hlt : j < N
    · obtain ⟨⟨o, l⟩, hx⟩ : ∃ x, xs[j]? = some x := ⟨_, List.getElem?_eq_getElem (by rw [← HN.out]; exact hlt)⟩
      have hxo : (xs.map Prod.fst)[j]? = some o := by rw [List.getElem?_map, hx]; rfl
      have HBW := Lib.hid (HB0.out.trans (hH.out.2.mono HB0.out.size))
      obtain ⟨b, of, rfl, hbl, hcell⟩ := (HI.out.keep HBW.out).at sL_len (by have := HN.out; omega)
      have c0 := hcell j _ hx 0 _ rfl
      have c1 := hcell j _ hx 1 _ rfl
      rw [Nat.add_zero] at c0
      have HGW := Lib.hid (HG0.out.keep hH.out.2)
      have HBI := Lib.hid hH.out.2
      have k1 : (0 : Int) ≤ (j : Int) := by omega
      have k2 : (j : Int) < (N : Int) := by omega
      have k3 : IntKind.i64.wrap ((j : Int) + 1) = ((j + 1 : Nat) : Int) := by rw [IntWalk.i64_in _ ⟨by omega, by omega⟩]; rfl
      have HQ := Lib.hid hH.out.1
      have HXO := Lib.hid hxo
      obtain ⟨Z, hZ⟩ : ∃ Z, Z = mB o P := ⟨_, rfl⟩
      have hme := fun w => member_any nm pa P pc dd o w
      rw [← hZ] at hme
      have HME := Lib.hid hme
      have NW := Lib.hid (row_fresh wr #[.int .i64 o, .int .i64 l] 37)
      have HZ := Lib.hid hZ
      clear hx hxo hcell hbl hH hme hZ
      have n_0 := NW.out.c 0 _ rfl
      have n_1 := NW.out.c 1 _ rfl
      have HGX := Lib.hid (HGW.out.keep ((Below.refl _ _).alloc (Nat.le_refl _) (Obj.cells #[.int .i64 o, .int .i64 l] 37)))
      have x_0 := HGX.out.c 0 _ rfl
      have x_1 := HGX.out.c 1 _ rfl
      have x_2 := HGX.out.c 2 _ rfl
      go_wp2_with fail
      refine (HME.out _).mono ?_
      rintro e w2 ⟨rfl, hb⟩
      have HB5 := Lib.hid ((HBI.out.alloc HBI.out.size (Obj.cells #[.int .i64 o, .int .i64 l] 37)).trans (hb.mono (by have := HBI.out.size; rw [World.size_alloc]; omega)))
      have HG5 := Lib.hid (HG0.out.keep HB5.out)
      clear hb n_0 n_1 x_0 x_1 x_2 c0 c1
      have g_0 := HG5.out.c 0 _ rfl
      have g_1 := HG5.out.c 1 _ rfl
      have g_2 := HG5.out.c 2 _ rfl
      cases Z
      · have HNO := Lib.hid (show normO P o = -1 by unfold normO; rw [← HZ.out]; rfl)
        by_cases h0 : j = 0 ∨ be = -1
        · have HQ6 := Lib.hid (HQ.out.trans ((breaks_cons P dd _ j be le o HXO.out).trans (by rw [HNO.out, if_pos (by omega)])))
          by_cases h7 : j = 0
          · have t1 : ((j : Int) == 0) = true := by rw [beq_iff_eq]; omega
            have HQ5 := Lib.hid (show breaksI P dd (xs.map Prod.fst) 0 (-1) (-1) = breaksI P dd ((xs.map Prod.fst).drop (j + 1)) (j + 1) (-1) le from HQ6.out)
            go_wp2_with fail
            go_roundw
            case rel => exact ⟨j + 1, (-1), le, by omega, by go_num, rfl, rfl, by omega, by omega, Lib.hid ⟨HQ5.out, HB5.out⟩⟩
            case measure => (simp [intOf]) <;> omega
          · have h8 : be = -1 := by omega
            have t1 : ((j : Int) == 0) = false := by rw [beq_eq_false_iff_ne]; omega
            have t2 : ((-1 : Int) == be) = true := by rw [beq_iff_eq]; omega
            clear h8
            have HQ5 := Lib.hid (show breaksI P dd (xs.map Prod.fst) 0 (-1) (-1) = breaksI P dd ((xs.map Prod.fst).drop (j + 1)) (j + 1) (-1) le from HQ6.out)
            go_wp2_with fail
            go_roundw
            case rel => exact ⟨j + 1, (-1), le, by omega, by go_num, rfl, rfl, by omega, by omega, Lib.hid ⟨HQ5.out, HB5.out⟩⟩
            case measure => (simp [intOf]) <;> omega
        · have HQ6 := Lib.hid (HQ.out.trans ((breaks_cons P dd _ j be le o HXO.out).trans (by rw [HNO.out, if_neg (by omega), if_pos rfl])))
          have t1 : ((j : Int) == 0) = false := by rw [beq_eq_false_iff_ne]; omega
          have t2 : ((-1 : Int) == be) = false := by rw [beq_eq_false_iff_ne]; omega
          have HQ5 := Lib.hid (show breaksI P dd (xs.map Prod.fst) 0 (-1) (-1) = breaksI P dd ((xs.map Prod.fst).drop (j + 1)) (j + 1) (-1) (j : Int) from HQ6.out)
          go_wp2_with fail
          go_roundw
          case rel => exact ⟨j + 1, (-1), (j : Int), by omega, by go_num, rfl, rfl, by omega, by omega, Lib.hid ⟨HQ5.out, HB5.out⟩⟩
          case measure => (simp [intOf]) <;> omega
      · have HMB := Lib.hid (show 0 ≤ o ∧ o < P by have h := HZ.out.symm; unfold mB at h; simpa using h)
        have HNO := Lib.hid (show normO P o = o by unfold normO; rw [← HZ.out]; rfl)
        have ho1 : ¬ o = -1 := by have := HMB.out; omega
        have t3 : (o == -1) = false := by rw [beq_eq_false_iff_ne]; exact ho1
        by_cases h0 : j = 0 ∨ o = be
        · have HQ6 := Lib.hid (HQ.out.trans ((breaks_cons P dd _ j be le o HXO.out).trans (by rw [HNO.out, if_pos (by omega)])))
          by_cases h7 : j = 0
          · have t1 : ((j : Int) == 0) = true := by rw [beq_iff_eq]; omega
            clear ho1
            have HQ5 := Lib.hid (show breaksI P dd (xs.map Prod.fst) 0 (-1) (-1) = breaksI P dd ((xs.map Prod.fst).drop (j + 1)) (j + 1) o le from HQ6.out)
            go_wp2_with fail
            go_roundw
            case rel => exact ⟨j + 1, o, le, by omega, by go_num, rfl, rfl, by omega, by omega, Lib.hid ⟨HQ5.out, HB5.out⟩⟩
            case measure => (simp [intOf]) <;> omega
          · have h8 : be = o := by omega
            have t1 : ((j : Int) == 0) = false := by rw [beq_eq_false_iff_ne]; omega
            have t2 : (o == be) = true := by rw [beq_iff_eq]; omega
            clear ho1 h0 h7 h8
            have HQ5 := Lib.hid (show breaksI P dd (xs.map Prod.fst) 0 (-1) (-1) = breaksI P dd ((xs.map Prod.fst).drop (j + 1)) (j + 1) o le from HQ6.out)
            go_wp2_with fail
            go_roundw
            case rel => exact ⟨j + 1, o, le, by omega, by go_num, rfl, rfl, by omega, by omega, Lib.hid ⟨HQ5.out, HB5.out⟩⟩
            case measure => (simp [intOf]) <;> omega
        · have t1 : ((j : Int) == 0) = false := by rw [beq_eq_false_iff_ne]; omega
          have t2 : (o == be) = false := by rw [beq_eq_false_iff_ne]; omega
          by_cases h1 : be = -1
          · have t5 : (be != -1) = false := by simpa using h1
            by_cases h2 : le = -1
            · have t4 : (le != -1) = false := by simpa using h2
              have HQ6 := Lib.hid (HQ.out.trans ((breaks_cons P dd _ j be le o HXO.out).trans (by rw [HNO.out, if_neg (by omega), if_neg ho1, if_neg (by omega)])))
              clear ho1 h0 h1 h2
              have HQ5 := Lib.hid (show breaksI P dd (xs.map Prod.fst) 0 (-1) (-1) = breaksI P dd ((xs.map Prod.fst).drop (j + 1)) (j + 1) o le from HQ6.out)
              go_wp2_with fail
              go_roundw
              case rel => exact ⟨j + 1, o, le, by omega, by go_num, rfl, rfl, by omega, by omega, Lib.hid ⟨HQ5.out, HB5.out⟩⟩
              case measure => (simp [intOf]) <;> omega
            · have t4 : (le != -1) = true := by simpa using h2
              have w4 : IntKind.i64.wrap ((j : Int) - le) = (j : Int) - le := IntWalk.i64_in _ ⟨by omega, by omega⟩
              by_cases h3 : (j : Int) - le < dd
              · have HQ6 := Lib.hid (HQ.out.trans ((breaks_cons P dd _ j be le o HXO.out).trans (by rw [HNO.out, if_neg (by omega), if_neg ho1, if_pos (.inr ⟨h2, h3⟩)])))
                have HBE := Lib.hid (HB0.out.trans (HB5.out.mono HB0.out.size))
                clear ho1 h0 h1 h2
                go_wp2_with fail
                go_ret
                exact ⟨by rw [HQ6.out]; (first | done | rfl), HBE.out⟩
              · have HQ6 := Lib.hid (HQ.out.trans ((breaks_cons P dd _ j be le o HXO.out).trans (by rw [HNO.out, if_neg (by omega), if_neg ho1, if_neg (by omega)])))
                clear ho1 h0 h1 h2
                have HQ5 := Lib.hid (show breaksI P dd (xs.map Prod.fst) 0 (-1) (-1) = breaksI P dd ((xs.map Prod.fst).drop (j + 1)) (j + 1) o le from HQ6.out)
                go_wp2_with fail
                go_roundw
                case rel => exact ⟨j + 1, o, le, by omega, by go_num, rfl, rfl, by omega, by omega, Lib.hid ⟨HQ5.out, HB5.out⟩⟩
                case measure => (simp [intOf]) <;> omega
          · have t5 : (be != -1) = true := by simpa using h1
            have HQ6 := Lib.hid (HQ.out.trans ((breaks_cons P dd _ j be le o HXO.out).trans (by rw [HNO.out, if_neg (by omega), if_neg ho1, if_pos (.inl h1)])))
            have HBE := Lib.hid (HB0.out.trans (HB5.out.mono HB0.out.size))
            clear ho1 h0 h1
            go_wp2_with fail
            go_ret
            exact ⟨by rw [HQ6.out]; (first | done | rfl), HBE.out⟩
    · obtain rfl : j = N := by omega
      have HQ := Lib.hid (show breaksI P dd (xs.map Prod.fst) 0 (-1) (-1) = -1 from hH.out.1.trans (by have h := breaks_end P dd (xs.map Prod.fst) be le; rw [List.length_map, ← HN.out] at h; exact h))
      have HBE := Lib.hid (HB0.out.trans (hH.out.2.mono HB0.out.size))
      clear hH
      go_wp2_with fail
      go_ret
      exact ⟨by rw [HQ.out]; (first | done | rfl), HBE.out⟩

set_option maxHeartbeats 8000000 in
set_option maxRecDepth 100000 in
theorem rbreaks_any (nm : Value) (pa : Option Addr) (P pc : Nat) (dd : Int) (a : Option Addr) (cap : Nat) (xs : List (Int × Int)) (w : World) (hin : InS w a xs.length 2 (flat sL xs)) : Calls Try.prog 30 #[.agg #[nm, .slice pa P pc, .int .i64 dd], .slice a xs.length cap] w fun e w' => e = .returned (.int .i64 (rbreaksI P dd (xs.map Prod.fst) 0 (-1) 0)) ∧ Below w.heap.size w w' := by
  obtain ⟨N, hN⟩ : ∃ N, N = xs.length := ⟨_, rfl⟩
  have HN := Lib.hid hN
  have HI := Lib.hid hin
  have hmx : N ≤ 9223372036854775807 := by have := hin.2.1; omega
  obtain ⟨W, g, hW, hg, R1, B, sz⟩ := box1 w #[nm, .slice pa P pc, .int .i64 dd] 33
  have HB0 := Lib.hid B
  have HG0 := Lib.hid R1
  rw [← hN]
  clear R1 B sz hN hin
  go_enter Try.func30, Try.ntmps30
  go_wp2_with fail
  rw [← hW]
  try rw [← hg]
  clear hW hg
  go_loopw [5, 6, 7] (fun la si i wr => ∃ (l s : Int) (j : Nat), j ≤ N ∧ i = .int .i64 j ∧ la = .int .i64 l ∧ si = .int .i64 s ∧ -1 ≤ l ∧ 0 ≤ s ∧ s ≤ j ∧ Hid (rbreaksI P dd (xs.map Prod.fst) 0 (-1) 0 = rbreaksI P dd ((xs.map Prod.fst).drop j) j l s ∧ Below W.heap.size W wr)) (fun _ _ i _ => N - (intOf i).toNat)
  case atStart => exact ⟨-1, 0, 0, by omega, rfl, rfl, rfl, by omega, by omega, by omega, Lib.hid ⟨rfl, Below.refl _ _⟩⟩
  case round =>
    obtain ⟨la, si, j, hj, rfl, rfl, rfl, hl0, hs0, hs1, hH⟩ := hrel
    by_cases hlt : j < N
    · obtain ⟨⟨o, l⟩, hx⟩ : ∃ x, xs[j]? = some x := ⟨_, List.getElem?_eq_getElem (by rw [← HN.out]; exact hlt)⟩
      have hxo : (xs.map Prod.fst)[j]? = some o := by rw [List.getElem?_map, hx]; rfl
      have HBW := Lib.hid (HB0.out.trans (hH.out.2.mono HB0.out.size))
      obtain ⟨b, of, rfl, hbl, hcell⟩ := (HI.out.keep HBW.out).at sL_len (by have := HN.out; omega)
      have c0 := hcell j _ hx 0 _ rfl
      have c1 := hcell j _ hx 1 _ rfl
      rw [Nat.add_zero] at c0
      have HGW := Lib.hid (HG0.out.keep hH.out.2)
      have HBI := Lib.hid hH.out.2
      have k1 : (0 : Int) ≤ (j : Int) := by omega
      have k2 : (j : Int) < (N : Int) := by omega
      have k3 : IntKind.i64.wrap ((j : Int) + 1) = ((j + 1 : Nat) : Int) := by rw [IntWalk.i64_in _ ⟨by omega, by omega⟩]; rfl
      have HQ := Lib.hid hH.out.1
      have HXO := Lib.hid hxo
      have w4 : IntKind.i64.wrap (si + 1) = si + 1 := IntWalk.i64_in _ ⟨by omega, by omega⟩
      have w5 : IntKind.i64.wrap (si + 1 - 1) = si := by rw [show si + 1 - 1 = si by omega]; exact IntWalk.i64_in _ ⟨by omega, by omega⟩
      clear hx hxo hcell hbl hH c1
      have g_0 := HGW.out.c 0 _ rfl
      have g_1 := HGW.out.c 1 _ rfl
      have g_2 := HGW.out.c 2 _ rfl
      by_cases hm : 0 ≤ o ∧ o < P
      · have HNO := Lib.hid (show normO P o = o by unfold normO mB; rw [decide_eq_true hm.1, decide_eq_true hm.2]; rfl)
        have m1 := hm.1
        have m2 := hm.2
        have ho1 : ¬ o = -1 := by omega
        clear hm
        by_cases h1 : la = -1
        · have l2 : ¬ 0 ≤ la := by omega
          have HQ6 := Lib.hid (HQ.out.trans ((rbreaks_cons P dd _ j la si o HXO.out).trans (by rw [HNO.out, if_neg (by omega), if_pos ho1])))
          have t2 : (o == la) = false := by rw [beq_eq_false_iff_ne]; omega
          clear ho1
          have HQ5 := Lib.hid (show rbreaksI P dd (xs.map Prod.fst) 0 (-1) 0 = rbreaksI P dd ((xs.map Prod.fst).drop (j + 1)) (j + 1) o 0 from HQ6.out)
          go_wp2_with fail
          go_roundw
          case rel => exact ⟨o, 0, j + 1, by omega, by go_num, rfl, rfl, by omega, by omega, by omega, Lib.hid ⟨HQ5.out, HBI.out⟩⟩
          case measure => (simp [intOf]) <;> omega
        · have l1 : 0 ≤ la := by omega
          by_cases h2 : o = la
          · have t2 : (o != la) = false := by simpa using h2
            have t3 : (o == la) = true := by simpa using h2
            by_cases h3 : 2 ≤ si + 1
            · by_cases h4 : si < dd
              · have HQ6 := Lib.hid (HQ.out.trans ((rbreaks_cons P dd _ j la si o HXO.out).trans (by rw [HNO.out, if_pos (.inr ⟨ho1, h2, h3, h4⟩)])))
                clear ho1 h1 h2
                have HBE := Lib.hid (HB0.out.trans (HBI.out.mono HB0.out.size))
                go_wp2_with fail
                go_ret
                exact ⟨by rw [HQ6.out]; (first | done | rfl), HBE.out⟩
              · have HQ6 := Lib.hid (HQ.out.trans ((rbreaks_cons P dd _ j la si o HXO.out).trans (by rw [HNO.out, if_neg (by omega), if_pos ho1])))
                clear ho1 h1 h2
                have HQ5 := Lib.hid (show rbreaksI P dd (xs.map Prod.fst) 0 (-1) 0 = rbreaksI P dd ((xs.map Prod.fst).drop (j + 1)) (j + 1) o 0 from HQ6.out)
                go_wp2_with fail
                go_roundw
                case rel => exact ⟨o, 0, j + 1, by omega, by go_num, rfl, rfl, by omega, by omega, by omega, Lib.hid ⟨HQ5.out, HBI.out⟩⟩
                case measure => (simp [intOf]) <;> omega
            · have HQ6 := Lib.hid (HQ.out.trans ((rbreaks_cons P dd _ j la si o HXO.out).trans (by rw [HNO.out, if_neg (by omega), if_pos ho1])))
              clear ho1 h1 h2
              have HQ5 := Lib.hid (show rbreaksI P dd (xs.map Prod.fst) 0 (-1) 0 = rbreaksI P dd ((xs.map Prod.fst).drop (j + 1)) (j + 1) o 0 from HQ6.out)
              go_wp2_with fail
              go_roundw
              case rel => exact ⟨o, 0, j + 1, by omega, by go_num, rfl, rfl, by omega, by omega, by omega, Lib.hid ⟨HQ5.out, HBI.out⟩⟩
              case measure => (simp [intOf]) <;> omega
          · have t2 : (o != la) = true := by simpa using h2
            have t3 : (o == la) = false := by rw [beq_eq_false_iff_ne]; exact h2
            by_cases h3 : si + 1 < 2
            · have HQ6 := Lib.hid (HQ.out.trans ((rbreaks_cons P dd _ j la si o HXO.out).trans (by rw [HNO.out, if_pos (.inl ⟨ho1, h1, h2, .inl h3⟩)])))
              clear ho1 h1 h2
              have HBE := Lib.hid (HB0.out.trans (HBI.out.mono HB0.out.size))
              go_wp2_with fail
              go_ret
              exact ⟨by rw [HQ6.out]; (first | done | rfl), HBE.out⟩
            · by_cases h4 : si < dd
              · have HQ6 := Lib.hid (HQ.out.trans ((rbreaks_cons P dd _ j la si o HXO.out).trans (by rw [HNO.out, if_pos (.inl ⟨ho1, h1, h2, .inr h4⟩)])))
                clear ho1 h1 h2
                have HBE := Lib.hid (HB0.out.trans (HBI.out.mono HB0.out.size))
                go_wp2_with fail
                go_ret
                exact ⟨by rw [HQ6.out]; (first | done | rfl), HBE.out⟩
              · have HQ6 := Lib.hid (HQ.out.trans ((rbreaks_cons P dd _ j la si o HXO.out).trans (by rw [HNO.out, if_neg (by omega), if_pos ho1])))
                clear ho1 h1 h2
                have HQ5 := Lib.hid (show rbreaksI P dd (xs.map Prod.fst) 0 (-1) 0 = rbreaksI P dd ((xs.map Prod.fst).drop (j + 1)) (j + 1) o 0 from HQ6.out)
                go_wp2_with fail
                go_roundw
                case rel => exact ⟨o, 0, j + 1, by omega, by go_num, rfl, rfl, by omega, by omega, by omega, Lib.hid ⟨HQ5.out, HBI.out⟩⟩
                case measure => (simp [intOf]) <;> omega
      · have HNO := Lib.hid (show normO P o = -1 by
          unfold normO mB
          rw [if_neg]
          intro h
          simp only [Bool.and_eq_true, decide_eq_true_eq] at h
          exact hm h)
        have HQ6 := Lib.hid (HQ.out.trans ((rbreaks_cons P dd _ j la si o HXO.out).trans (by rw [HNO.out, if_neg (by omega), if_neg (by omega)])))
        by_cases h1 : o < 0
        · clear hm
          have HQ5 := Lib.hid (show rbreaksI P dd (xs.map Prod.fst) 0 (-1) 0 = rbreaksI P dd ((xs.map Prod.fst).drop (j + 1)) (j + 1) la (si + 1) from HQ6.out)
          go_wp2_with fail
          go_roundw
          case rel => exact ⟨la, (si + 1), j + 1, by omega, by go_num, rfl, rfl, by omega, by omega, by omega, Lib.hid ⟨HQ5.out, HBI.out⟩⟩
          case measure => (simp [intOf]) <;> omega
        · have h2 : (P : Int) ≤ o := by omega
          clear hm
          have HQ5 := Lib.hid (show rbreaksI P dd (xs.map Prod.fst) 0 (-1) 0 = rbreaksI P dd ((xs.map Prod.fst).drop (j + 1)) (j + 1) la (si + 1) from HQ6.out)
          go_wp2_with fail
          go_roundw
          case rel => exact ⟨la, (si + 1), j + 1, by omega, by go_num, rfl, rfl, by omega, by omega, by omega, Lib.hid ⟨HQ5.out, HBI.out⟩⟩
          case measure => (simp [intOf]) <;> omega
    · obtain rfl : j = N := by omega
      have HQ := Lib.hid (show rbreaksI P dd (xs.map Prod.fst) 0 (-1) 0 = -1 from hH.out.1.trans (by have h := rbreaks_end P dd (xs.map Prod.fst) la si; rw [List.length_map, ← HN.out] at h; exact h))
      have HBE := Lib.hid (HB0.out.trans (hH.out.2.mono HB0.out.size))
      clear hH
      go_wp2_with fail
      go_ret
      exact ⟨by rw [HQ.out]; (first | done | rfl), HBE.out⟩
end Go.Proofs.Ytojbhbifbennfaa
