/- Contract of checkMembers. -/
import Derived.Test.YtojbhbifbennfaaCg
namespace Go.Proofs.Ytojbhbifbennfaa
open Go.RowKit Go.Shelf Go.Maps Go.WideMaps

def memE (ps : List PtD) (ns : List ByteArray) : Int := if (ns.any fun s => !knownB ps s) = true then 3 else if (ns.any fun s => !fitB ps s) = true then 11 else 0
theorem fitD_old {H : Type} {ps : List PtD} {k : Nat} {x : PtD} (hx : ps[k]? = some x) (h : Maps.has (fitD (H := H) ps k) (keyB x.nm) = true) : fitD (H := H) ps (k + 1) = fitD ps k := by
  rw [fitD, hx]; exact if_pos h
theorem fitD_new {H : Type} {ps : List PtD} {k : Nat} {x : PtD} (hx : ps[k]? = some x) (h : Maps.has (fitD (H := H) ps k) (keyB x.nm) = false) : fitD (H := H) ps (k + 1) = (fitD ps k).put (keyB x.nm) (.lit (.bool (okP x))) := by
  rw [fitD, hx]; exact if_neg (by rw [h]; simp)

set_option maxHeartbeats 4000000 in
set_option maxRecDepth 100000 in
theorem checkMembers_any (a na : Option Addr) (cap ncap : Nat) (ps : List PtD) (ns : List ByteArray) (w : World) (hpz : ∀ p ∈ ps, p.nm.size ≤ maxLen) (hnz : ∀ s ∈ ns, s.size ≤ maxLen) (hin : InS w a ps.length 12 (flat ptL ps)) (hins : InS w na ns.length 1 (flat stL ns)) : Calls Try.prog 47 #[.slice a ps.length cap, .slice na ns.length ncap] w fun e w' => e = .returned (.int .i64 (memE ps ns)) ∧ Below w.heap.size w w' := by
  obtain ⟨N, hN⟩ : ∃ N, N = ps.length := ⟨_, rfl⟩
  obtain ⟨M, hM⟩ : ∃ M, M = ns.length := ⟨_, rfl⟩
  have HN := Lib.hid hN
  have HMN := Lib.hid hM
  have HI := Lib.hid hin
  have HJ := Lib.hid hins
  have HPZ := Lib.hid hpz
  have HNZ := Lib.hid hnz
  have hmx : N ≤ 9223372036854775807 := by have := hin.2.1; omega
  rw [← hN, ← hM]
  clear hN hin hM hins hpz hnz
  have hmm := @run_makeMap Try.prog
  go_enter Try.func47, Try.ntmps47
  go_wp2_with fail
  go_loopw [14] (fun i wr => ∃ j : Nat, j ≤ N ∧ i = .int .i64 j ∧ Hid (FitsAt wr (w.heap.size + 1) w.heap.size j ps j ∧ Below w.heap.size w wr ∧ w.heap.size + 2 ≤ wr.heap.size)) (fun i _ => N - (intOf i).toNat)
  case atStart =>
    refine ⟨0, Nat.zero_le _, rfl, Lib.hid ⟨⟨?_, ?_⟩, ?_, ?_⟩⟩
    · have := (row_fresh (w.alloc (Obj.map #[] 0)) #[.map (some w.heap.size)] 116).c 0 _ rfl
      rw [World.size_alloc] at this; exact this
    · exact (World.ownsMap_made _ _ _ _).alloc _
    · exact ((Below.refl _ _).alloc (Nat.le_refl _) _).alloc (by rw [World.size_alloc]; omega) _
    · rw [World.size_alloc, World.size_alloc]
      omega
  case round =>
    obtain ⟨j, hj, rfl, hH⟩ := hrel
    have HF := Lib.hid hH.out.1
    have HBR := Lib.hid hH.out.2.1
    have hsz := hH.out.2.2
    clear hH
    by_cases hlt : j < N
    · obtain ⟨b, o, rfl, hbl, hcell⟩ := (HI.out.keep HBR.out).at ptL_len (by have := HN.out; omega)
      obtain ⟨x, hx⟩ : ∃ x, ps[j]? = some x := ⟨_, List.getElem?_eq_getElem (by rw [← HN.out]; exact hlt)⟩
      have HKEY := Lib.hid (keyB_ok (HPZ.out x (List.mem_of_getElem? hx)))
      obtain ⟨nm, k, r, u, lo, hi, st, sa, sn, sc, dk, dn, on, off⟩ := x
      have HKEY : Hid (keyOf Try.prog 9 (.string nm) = some (keyB nm)) := HKEY
      have c0 := hcell j _ hx 0 _ rfl
      have c1 := hcell j _ hx 1 _ rfl
      have c2 := hcell j _ hx 2 _ rfl
      have c3 := hcell j _ hx 3 _ rfl
      have c4 := hcell j _ hx 4 _ rfl
      have c5 := hcell j _ hx 5 _ rfl
      have c6 := hcell j _ hx 6 _ rfl
      have c7 := hcell j _ hx 7 _ rfl
      have c8 := hcell j _ hx 8 _ rfl
      have c9 := hcell j _ hx 9 _ rfl
      have c10 := hcell j _ hx 10 _ rfl
      have c11 := hcell j _ hx 11 _ rfl
      rw [Nat.add_zero] at c0
      have HAT := Lib.hid (fitD_says (H := Unit) ps j nm).2
      obtain ⟨V, hV⟩ : ∃ V, V = fitB (ps.take j) nm := ⟨_, rfl⟩
      rw [← hV] at HAT
      have k1 : (0 : Int) ≤ (j : Int) := by omega
      have k2 : (j : Int) < (N : Int) := by omega
      have HX := Lib.hid hx
      have NW := Lib.hid (row_fresh wr #[.string nm, .int .i64 k, .int .i64 r, .string u, .int .i64 lo, .int .i64 hi, .int .i64 st, .slice sa sn sc, .int .i64 dk, .int .i64 dn, .int .i64 on, .int .i64 off] 91)
      have HFA := Lib.hid (HF.out.keep (bel_fresh (w := wr) (Obj.cells #[.string nm, .int .i64 k, .int .i64 r, .string u, .int .i64 lo, .int .i64 hi, .int .i64 st, .slice sa sn sc, .int .i64 dk, .int .i64 dn, .int .i64 on, .int .i64 off] 91)) (by omega) (by omega))
      have HO := Lib.hid HFA.out.own
      have b0 := HFA.out.box
      have HBA := Lib.hid (HBR.out.trans ((bel_fresh (w := wr) (Obj.cells #[.string nm, .int .i64 k, .int .i64 r, .string u, .int .i64 lo, .int .i64 hi, .int .i64 st, .slice sa sn sc, .int .i64 dk, .int .i64 dn, .int .i64 on, .int .i64 off] 91)).mono HBR.out.size))
      have hsa : w.heap.size + 2 ≤ (wr.alloc (Obj.cells #[.string nm, .int .i64 k, .int .i64 r, .string u, .int .i64 lo, .int .i64 hi, .int .i64 st, .slice sa sn sc, .int .i64 dk, .int .i64 dn, .int .i64 on, .int .i64 off] 91)).heap.size := by rw [World.size_alloc]; omega
      have HSA := Lib.hid hsa
      clear hcell hbl hx hV hsa
      have n_0 := NW.out.c 0 _ rfl
      have n_1 := NW.out.c 1 _ rfl
      have n_2 := NW.out.c 2 _ rfl
      have n_3 := NW.out.c 3 _ rfl
      have n_4 := NW.out.c 4 _ rfl
      have n_5 := NW.out.c 5 _ rfl
      have n_6 := NW.out.c 6 _ rfl
      have n_7 := NW.out.c 7 _ rfl
      have n_8 := NW.out.c 8 _ rfl
      have n_9 := NW.out.c 9 _ rfl
      have n_10 := NW.out.c 10 _ rfl
      have n_11 := NW.out.c 11 _ rfl
      cases hk : Maps.has (fitD (H := Unit) ps j) (keyB nm) with
      | true =>
        have HK := Lib.hid hk
        have HSU := Lib.hid (fitD_old HX.out hk)
        clear hk
        go_wp2_with (at_lookup; refine wpList_lookup_ok_bool _ rfl _ _ 116 rfl 9 4 lawS Try.underlying116 Try.underlying4 (zeroBool _) w.heap.size j _ rfl HO.out _ _ rfl HKEY.out _ HAT.out ?_; rw [HK.out])
        go_roundw
        case rel => exact ⟨j + 1, by omega, by go_num, Lib.hid ⟨⟨HFA.out.box, by rw [HSU.out]; exact HFA.out.own.mono (by omega)⟩, HBA.out, HSA.out⟩⟩
        case measure => (simp [intOf]) <;> omega
      | false =>
        have HK := Lib.hid hk
        clear hk
        by_cases hr : r = 2
        · subst hr
          have HSU := Lib.hid (show fitD (H := Unit) ps (j + 1) = (fitD ps j).put (keyB nm) (.lit (.bool (k == 2))) from (fitD_new HX.out HK.out).trans (by rw [show okP ⟨nm, k, 2, u, lo, hi, st, sa, sn, sc, dk, dn, on, off⟩ = (k == 2) from by (first | rfl | simp [okP])]))
          go_wp2_with (first | (at_lookup; refine wpList_lookup_ok_bool _ rfl _ _ 116 rfl 9 4 lawS Try.underlying116 Try.underlying4 (zeroBool _) w.heap.size j _ rfl HO.out _ _ rfl HKEY.out _ HAT.out ?_; rw [HK.out]) | (at_mapUpdate; refine wpList_mapUpdate_own _ rfl _ _ _ 116 rfl 9 4 lawS Try.underlying116 (plainElem (H := Unit) Try.prog 4) w.heap.size j _ rfl HO.out (by unfold maxLen; omega) _ _ _ rfl rfl HKEY.out _ [] (plainElem_bool Try.underlying4 (k == 2)) ?_; intro w1 hown1 hgrow1))
          go_roundw
          case rel =>
            refine ⟨j + 1, by omega, by go_num, Lib.hid ⟨⟨?_, ?_⟩, ?_, ?_⟩⟩
            · rw [World.cell?_of_block (a := ⟨w.heap.size + 1, 0, none⟩) (hgrow1.block (w.heap.size + 1) (by have := HSA.out; omega) (by simp))]; exact HFA.out.box
            · rw [HSU.out]; exact hown1
            · exact HBA.out.grown hgrow1 HBA.out.size (fun j hj => by cases hj; exact Nat.le_refl _)
            · exact Nat.le_trans HSA.out hgrow1.size
          case measure => (simp [intOf]) <;> omega
        · have HSU := Lib.hid (show fitD (H := Unit) ps (j + 1) = (fitD ps j).put (keyB nm) (.lit (.bool false)) from (fitD_new HX.out HK.out).trans (by rw [show okP ⟨nm, k, r, u, lo, hi, st, sa, sn, sc, dk, dn, on, off⟩ = false from by (first | rfl | simp [okP, hr])]))
          go_wp2_with (first | (at_lookup; refine wpList_lookup_ok_bool _ rfl _ _ 116 rfl 9 4 lawS Try.underlying116 Try.underlying4 (zeroBool _) w.heap.size j _ rfl HO.out _ _ rfl HKEY.out _ HAT.out ?_; rw [HK.out]) | (at_mapUpdate; refine wpList_mapUpdate_own _ rfl _ _ _ 116 rfl 9 4 lawS Try.underlying116 (plainElem (H := Unit) Try.prog 4) w.heap.size j _ rfl HO.out (by unfold maxLen; omega) _ _ _ rfl rfl HKEY.out _ [] (plainElem_bool Try.underlying4 false) ?_; intro w1 hown1 hgrow1))
          go_roundw
          case rel =>
            refine ⟨j + 1, by omega, by go_num, Lib.hid ⟨⟨?_, ?_⟩, ?_, ?_⟩⟩
            · rw [World.cell?_of_block (a := ⟨w.heap.size + 1, 0, none⟩) (hgrow1.block (w.heap.size + 1) (by have := HSA.out; omega) (by simp))]; exact HFA.out.box
            · rw [HSU.out]; exact hown1
            · exact HBA.out.grown hgrow1 HBA.out.size (fun j hj => by cases hj; exact Nat.le_refl _)
            · exact Nat.le_trans HSA.out hgrow1.size
          case measure => (simp [intOf]) <;> omega
    · obtain rfl : j = N := by omega
      have hcu : ∀ W, Below w.heap.size w W → w.heap.size + 2 ≤ W.heap.size → FitsAt W (w.heap.size + 1) w.heap.size j ps j → Calls Try.prog 75 #[.slice na M ncap, .func (.func 76) #[] #[.pointer (some ⟨w.heap.size + 1, 0, none⟩)]] W fun e w' => e = .returned (.bool (ns.any fun s => !knownB ps s)) ∧ Below W.heap.size W w' := by
        intro W hb hz hf
        rw [HMN.out]
        exact mcon_any 76 _ _ na ncap ns W eg_mem1 (fun W2 x hx hb2 => unknown_any (w.heap.size + 1) w.heap.size j ps x W2 (HNZ.out x hx) (by have h2 := hf.keep hb2 (by omega) (by omega); rw [HN.out] at h2 ⊢; exact h2)) (HJ.out.keep hb)
      have hcv : ∀ W, Below w.heap.size w W → w.heap.size + 2 ≤ W.heap.size → FitsAt W (w.heap.size + 1) w.heap.size j ps j → Calls Try.prog 75 #[.slice na M ncap, .func (.func 77) #[] #[.pointer (some ⟨w.heap.size + 1, 0, none⟩)]] W fun e w' => e = .returned (.bool (ns.any fun s => !fitB ps s)) ∧ Below W.heap.size W w' := by
        intro W hb hz hf
        rw [HMN.out]
        exact mcon_any 77 _ _ na ncap ns W eg_mem2 (fun W2 x hx hb2 => unfit_any (w.heap.size + 1) w.heap.size j ps x W2 (HNZ.out x hx) (by have h2 := hf.keep hb2 (by omega) (by omega); rw [HN.out] at h2 ⊢; exact h2)) (HJ.out.keep hb)
      obtain ⟨U, hU⟩ : ∃ U, U = (ns.any fun s => !knownB ps s) := ⟨_, rfl⟩
      obtain ⟨V, hV⟩ : ∃ V, V = (ns.any fun s => !fitB ps s) := ⟨_, rfl⟩
      rw [← hU] at hcu
      rw [← hV] at hcv
      have HCU := Lib.hid hcu
      have HCV := Lib.hid hcv
      have HSZ := Lib.hid hsz
      have HME := Lib.hid (show memE ps ns = if U = true then 3 else if V = true then 11 else 0 by unfold memE; rw [hU, hV])
      clear hcu hcv hU hV
      go_wp2_with fail
      refine (HCU.out _ HBR.out HSZ.out HF.out).mono ?_
      rintro e w1 ⟨rfl, hb⟩
      have HB1 := Lib.hid (HBR.out.trans (hb.mono HBR.out.size))
      have HF1 := Lib.hid (HF.out.keep hb (by have := HSZ.out; omega) (by have := HSZ.out; omega))
      have HS1 := Lib.hid (Nat.le_trans HSZ.out hb.size)
      clear hb
      cases U with
      | true =>
        go_wp2_with fail
        go_ret
        exact ⟨by rw [HME.out]; (first | done | rfl), HB1.out⟩
      | false =>
        go_wp2_with fail
        refine (HCV.out _ HB1.out HS1.out HF1.out).mono ?_
        rintro e w2 ⟨rfl, hb⟩
        have HB2 := Lib.hid (HB1.out.trans (hb.mono HB1.out.size))
        clear hb
        cases V with
        | true =>
          go_wp2_with fail
          go_ret
          exact ⟨by rw [HME.out]; (first | done | rfl), HB2.out⟩
        | false =>
          go_wp2_with fail
          go_ret
          exact ⟨by rw [HME.out]; (first | done | rfl), HB2.out⟩
end Go.Proofs.Ytojbhbifbennfaa
