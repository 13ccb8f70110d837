/- Contract of run. -/
import Derived.Test.YtojbhbifbennfaaLw
import Derived.Test.YtojbhbifbennfaaLb
namespace Go.Proofs.Ytojbhbifbennfaa
open Go.RowKit Go.Shelf Go.Deep

theorem heap_setCells_other (s : Nat) : ∀ (M : List Value) (o : Nat) (w : World) (k : Nat), k ≠ s → (w.setCells s o M).heap[k]? = w.heap[k]?
  | [], _, _, _, _ => rfl
  | v :: r, o, w, k, h => (heap_setCells_other s r (o + 1) _ k h).trans (blk_setCell_other w ⟨s, o, none⟩ v k h)
theorem grown_set (w : World) (s : Nat) (M : List Value) : w.grownBy (w.setCells s 0 M) (some s) := by
  have h := Lib.below_setCells_w (Nat.le_refl s) M 0 w
  exact ⟨h.os, h.tape, h.output, h.size, fun k _ hne => heap_setCells_other s M 0 w k (fun e => hne (by rw [e]))⟩
theorem RowAt.grown {w w' : World} {b : Nat} {L : List Value} {row : Option Nat} (t : RowAt w b L) (hg : w.grownBy w' row) (hne : some b ≠ row) : RowAt w' b L :=
  ⟨fun i v h => (World.cell?_of_block (a := ⟨b, i, none⟩) (hg.block b t.lt hne)).trans (t.c i v h), fun o => (World.frozen?_of_block (a := ⟨b, o, none⟩) (hg.block b t.lt hne)).trans (t.fz o), Nat.lt_of_lt_of_le t.lt hg.size⟩
theorem own_row {w : World} {B T sz n s : Nat} {v : Value} {L : List Value} (h : w.ownsRow B T sz v n L) (hs : s < B) : some s ≠ v.ownBlock := fun e => by have := (h.lt s e.symm).1; omega
theorem own_set {w : World} {B T sz n s : Nat} {v : Value} {L : List Value} (h : w.ownsRow B T sz v n L) (hs : s < B) (M : List Value) : (w.setCells s 0 M).ownsRow B T sz v n L := h.kept (grown_set w s M) (.inr (fun e => own_row h hs e.symm))
abbrev RnS (wb : World) (g x b q : Nat) (nm : Value) (pa : Option Addr) (P pc : Nat) (dd o l : Int) (xa : Option Addr) (xn xc : Nat) (w' : World) : Prop := w'.cell? ⟨g, 0, none⟩ = some (nm) ∧ w'.cell? ⟨g, 1, none⟩ = some (.slice pa P pc) ∧ w'.cell? ⟨g, 2, none⟩ = some (.int .i64 dd) ∧ w'.cell? ⟨x, 0, none⟩ = some (.int .i64 o) ∧ w'.cell? ⟨x, 1, none⟩ = some (.int .i64 l) ∧ w'.cell? ⟨b, q, none⟩ = some (.slice xa xn xc) ∧ Below wb.heap.size wb w'
theorem rns_of {wb : World} {g x b q : Nat} {nm : Value} {pa : Option Addr} {P pc : Nat} {dd o l : Int} {xa : Option Addr} {xn xc : Nat} {w' : World} (s : RnS wb g x b q nm pa P pc dd o l xa xn xc wb) (hb : Below wb.heap.size wb w') : RnS wb g x b q nm pa P pc dd o l xa xn xc w' := by
  obtain ⟨s0, s1, s2, s3, s4, s5, _⟩ := s
  have hg : g < wb.heap.size := World.block_lt_of_cell? _ _ s0
  have hx : x < wb.heap.size := World.block_lt_of_cell? _ _ s3
  have hq : b < wb.heap.size := World.block_lt_of_cell? _ _ s5
  exact ⟨(hb.cell (p := ⟨g, 0, none⟩) hg).trans s0, (hb.cell (p := ⟨g, 1, none⟩) hg).trans s1, (hb.cell (p := ⟨g, 2, none⟩) hg).trans s2, (hb.cell (p := ⟨x, 0, none⟩) hx).trans s3, (hb.cell (p := ⟨x, 1, none⟩) hx).trans s4, (hb.cell (p := ⟨b, q, none⟩) hq).trans s5, hb⟩
theorem rns_bel {wb : World} {g x b q : Nat} {nm : Value} {pa : Option Addr} {P pc : Nat} {dd o l : Int} {xa : Option Addr} {xn xc : Nat} {w' : World} (s : RnS wb g x b q nm pa P pc dd o l xa xn xc w') : Below wb.heap.size wb w' := s.2.2.2.2.2.2
theorem rns_keep {wb : World} {g x b q : Nat} {nm : Value} {pa : Option Addr} {P pc : Nat} {dd o l : Int} {xa : Option Addr} {xn xc : Nat} {w1 w2 : World} (c : RnS wb g x b q nm pa P pc dd o l xa xn xc wb) (hb : Below w1.heap.size w1 w2) (h : RnS wb g x b q nm pa P pc dd o l xa xn xc w1) : RnS wb g x b q nm pa P pc dd o l xa xn xc w2 := rns_of c ((rns_bel h).trans (hb.mono (rns_bel h).size))
theorem rns_alloc {wb : World} {g x b q : Nat} {nm : Value} {pa : Option Addr} {P pc : Nat} {dd o l : Int} {xa : Option Addr} {xn xc : Nat} {w1 : World} (c : RnS wb g x b q nm pa P pc dd o l xa xn xc wb) (ob : Obj) (h : RnS wb g x b q nm pa P pc dd o l xa xn xc w1) : RnS wb g x b q nm pa P pc dd o l xa xn xc (w1.alloc ob) := rns_of c ((rns_bel h).alloc (rns_bel h).size ob)
theorem rns_drew {wb : World} {g x b q : Nat} {nm : Value} {pa : Option Addr} {P pc : Nat} {dd o l : Int} {xa : Option Addr} {xn xc : Nat} {w1 : World} (c : RnS wb g x b q nm pa P pc dd o l xa xn xc wb) (h : RnS wb g x b q nm pa P pc dd o l xa xn xc w1) : RnS wb g x b q nm pa P pc dd o l xa xn xc w1.drew := rns_of c (rns_bel h).drew

set_option maxHeartbeats 8000000 in
set_option maxRecDepth 100000 in
theorem run_any (nm : Value) (pa : Option Addr) (P pc : Nat) (dd : Int) (now : Int) (a : Option Addr) (cap : Nat) (xs : List SlD) (rs : List (List Int)) (w : World) (hin : InS w a xs.length 1 (flat slL xs)) (hrw : RowsIn w xs rs) (hF : Hid (FitsA P dd now rs)) (HP20 : P ≤ 20) : Calls Try.prog 32 #[.agg #[nm, .slice pa P pc, .int .i64 dd], .int .i64 now, .slice a xs.length cap] w fun e w' => ∃ v, e = .returned (.tuple #[v, .bool true]) ∧ w'.ownsRow w.heap.size 37 2 v xs.length (flat sL (runL dd now rs xs.length)) ∧ Below w.heap.size w w' := by
  obtain ⟨ia, hifa, hza0, hza1, hza2⟩ := info_parts infoSt
  obtain ⟨N, hN⟩ : ∃ N, N = xs.length := ⟨_, rfl⟩
  have HN := Lib.hid hN
  have HI := Lib.hid hin
  have HRW := Lib.hid hrw
  have hmx : N ≤ 9223372036854775807 := by have := hin.2.1; omega
  rw [← hN]
  clear hN hin hrw
  obtain ⟨W, g, hW, hg, R1, B, sz⟩ := box1 w #[nm, .slice pa P pc, .int .i64 dd] 33
  have HG := Lib.hid R1
  have HB := Lib.hid B
  clear R1 B sz
  go_enter Try.func32, Try.ntmps32
  go_wp2_with fail
  rw [← hW]
  try rw [← hg]
  clear hW hg
  refine (start_any now _).mono ?_
  rintro e w1 ⟨rfl, hb⟩
  have HG1 := Lib.hid (HG.out.keep hb)
  have HB1 := Lib.hid (HB.out.trans (hb.mono HB.out.size))
  clear hb HG HB
  go_upto_region 2 with fail
  obtain ⟨W2, s, hW2, hs, R2, B2, sz2⟩ := box1 w1 #[.int .i64 (-1), .int .i64 now] 37
  have HS2 := Lib.hid R2
  have HG2 := Lib.hid (HG1.out.keep B2)
  have HB2 := Lib.hid (HB1.out.trans (B2.mono HB1.out.size))
  have HWS := Lib.hid (show w.heap.size ≤ s by have := HB1.out.size; omega)
  have HGS := Lib.hid (show g ≠ s by have := HG1.out.lt; omega)
  obtain ⟨K, hK⟩ : ∃ K, K = W2.heap.size := ⟨_, rfl⟩
  have HSK := Lib.hid (show s < K by rw [hK]; exact HS2.out.lt)
  have HGK := Lib.hid (show g < K by rw [hK]; exact HG2.out.lt)
  have HWK := Lib.hid (show w.heap.size ≤ K by rw [hK]; exact HB2.out.size)
  have HOE := Lib.hid (show (W2.alloc (Obj.cells #[] 37)).ownsRow K 37 2 (.slice (some ⟨W2.heap.size, 0, none⟩) 0 0) 0 [] by rw [hK]; exact own_empty W2 37 2)
  have HSE := Lib.hid (HS2.out.keep (bel_new (Obj.cells #[] 37)))
  have HGE := Lib.hid (HG2.out.keep (bel_new (Obj.cells #[] 37)))
  have HBE := Lib.hid (HB2.out.alloc HB2.out.size (Obj.cells #[] 37))
  have HKE := Lib.hid (show K ≤ (W2.alloc (Obj.cells #[] 37)).heap.size by rw [World.size_alloc, hK]; omega)
  rw [← hW2]
  try rw [← hs]
  clear hW2 hs R2 B2 sz2 HG1 HB1 HS2 HG2 HB2 hK
  go_wp2_with fail
  go_loopw [9, 10] (fun v i wr => ∃ j : Nat, j ≤ N ∧ i = .int .i64 j ∧ Hid (wr.ownsRow K 37 2 v j (flat sL (runL dd now rs j)) ∧ RowAt wr s (sL (stN dd now rs j)) ∧ RowAt wr g [nm, .slice pa P pc, .int .i64 dd] ∧ Below w.heap.size w wr ∧ K ≤ wr.heap.size)) (fun _ i _ => N - (intOf i).toNat)
  case atStart => exact ⟨0, by omega, rfl, Lib.hid ⟨HOE.out, HSE.out, HGE.out, HBE.out, HKE.out⟩⟩
  case round =>
    obtain ⟨j, hj, rfl, hH⟩ := hrel
    by_cases hlt : j < N
    · obtain ⟨x, hx⟩ : ∃ x, xs[j]? = some x := ⟨_, List.getElem?_eq_getElem (by rw [← HN.out]; exact hlt)⟩
      have hjr : j < rs.length := by rw [HRW.out.1, ← HN.out]; exact hlt
      obtain ⟨a, ha⟩ : ∃ a, rs[j]? = some a := ⟨_, List.getElem?_eq_getElem hjr⟩
      have hra : rowA rs j = a := by unfold rowA; rw [ha]; rfl
      obtain ⟨xa, xn, xc⟩ := x
      have HRA := Lib.hid (show a.length = xn ∧ InS w xa xn 1 (flat iL a) from HRW.out.2 j _ a hx ha)
      have HROW := Lib.hid (hF.out.row a (List.mem_of_getElem? ha))
      obtain ⟨b, of, rfl, hbl, hcell⟩ := HI.out.at slL_len (by have := HN.out; omega)
      have d0 := hcell j _ hx 0 _ rfl
      rw [Nat.add_zero, Nat.mul_one] at d0
      have HBR := Lib.hid hH.out.2.2.2.1
      have c0 := (HBR.out.cell (p := ⟨b, of + j, none⟩) hbl).trans d0
      have hstep := stN_ok hF.out hjr
      have hnext : stN dd now rs (j + 1) = stepS (stN dd now rs j).1 (stN dd now rs j).2 dd (now + j) (winI (a.map askR) (stN dd now rs j).1) := by rw [← hra]; rfl
      have hl1 := runL_succ dd now rs j
      rw [hra] at hstep
      have HG1 := Lib.hid hH.out.2.2.1
      have HS0 := Lib.hid hH.out.2.1
      have HO0 := Lib.hid hH.out.1
      have HKK := Lib.hid hH.out.2.2.2.2
      obtain ⟨D, hD⟩ : ∃ D, D = runL dd now rs j := ⟨_, rfl⟩
      rw [← hD] at HO0 hl1
      obtain ⟨⟨o, l⟩, hst⟩ : ∃ x, x = stN dd now rs j := ⟨_, rfl⟩
      rw [← hst] at HS0 hstep hnext
      obtain ⟨⟨o2, l2⟩, hst2⟩ : ∃ x, x = stN dd now rs (j + 1) := ⟨_, rfl⟩
      rw [← hst2] at hnext hl1
      have HL1 := Lib.hid hl1
      have HST2 := Lib.hid hst2
      have k1 : (0 : Int) ≤ (j : Int) := by omega
      have k2 : (j : Int) < (N : Int) := by omega
      have hn0 := hF.out.n0
      have hn1 := hF.out.n1
      have hn40 := hF.out.len
      have w1' : IntKind.i64.wrap (now + (j : Int)) = now + (j : Int) := IntWalk.i64_in _ ⟨by omega, by omega⟩
      have hval : stepV P dd o l (a.map askR) (now + j) = .tuple #[.agg #[.int .i64 o2, .int .i64 l2], .int .i64 0] := by
        unfold stepV
        have h1 : o2 = (stepS o l dd (now + j) (winI (a.map askR) o)).1 := congrArg Prod.fst hnext
        have h2 : l2 = (stepS o l dd (now + j) (winI (a.map askR) o)).2 := congrArg Prod.snd hnext
        rw [if_pos hstep, h1, h2]
      have HASK := Lib.hid (fun (W' : World) (hb : Below wr.heap.size wr W') => (show Calls Try.prog 33 #[.slice xa xn xc] W' fun e w' => ∃ b c, e = .returned (.slice b xn c) ∧ InS w' b xn 3 (flat rqL (a.map askR)) ∧ Below W'.heap.size W' w' by
        have hlen := HRA.out.1
        have h := ask_any xa xc a W' (by have := HROW.out.1; have := HP20; omega) (by rw [hlen]; exact (HRA.out.2.keep HBR.out).keep hb)
        rw [hlen] at h
        refine h.mono ?_
        rintro e w1 ⟨v, rfl, ho, hb⟩
        obtain ⟨b, c, rfl, hi⟩ := ins_own ho
        exact ⟨b, c, rfl, hi, hb⟩))
      have HSTP := Lib.hid (fun (q : Option Addr) (c : Nat) (W' : World) (hi : InS W' q xn 3 (flat rqL (a.map askR))) => (show Calls Try.prog 19 #[.agg #[nm, .slice pa P pc, .int .i64 dd], .agg #[.int .i64 o, .int .i64 l], .slice q xn c, .int .i64 (now + j)] W' fun e w' => e = .returned (.tuple #[.agg #[.int .i64 o2, .int .i64 l2], .int .i64 0]) ∧ Below W'.heap.size W' w' by
        have hlen : (a.map askR).length = xn := by rw [List.length_map]; exact HRA.out.1
        have h := stepX_any nm pa P pc dd o l q c (a.map askR) (now + j) W' (by rw [hlen]; exact hi)
        rw [hlen, hval] at h
        exact h))
      clear hx ha hcell hbl d0 hH hstep hnext hl1 hra hjr hD hst hst2 hval hn0 hn1 hn40
      have g_0 := HG1.out.c 0 _ rfl
      have g_1 := HG1.out.c 1 _ rfl
      have g_2 := HG1.out.c 2 _ rfl
      have s_0 := HS0.out.c 0 _ rfl
      have s_1 := HS0.out.c 1 _ rfl
      have HC := Lib.hid (show RnS wr g s b (of + j) nm pa P pc dd o l xa xn xc wr from ⟨g_0, g_1, g_2, s_0, s_1, c0, Below.refl _ _⟩)
      have HCD := Lib.hid (rns_drew HC.out HC.out)
      go_wp2_with fail
      go_cut [11, 12] from 22 to 35 (fun p e wx => ∃ N : Nat, p = .pointer (some ⟨N, 0, none⟩) ∧ e = .int .i64 0 ∧ Hid (RowAt wx N [.int .i64 o2, .int .i64 l2] ∧ Below wr.heap.size wr wx))
      case first =>
        go_region_held3 (fun w' => w'.cell? ⟨g, 0, none⟩ = some (nm) ∧ w'.cell? ⟨g, 1, none⟩ = some (.slice pa P pc) ∧ w'.cell? ⟨g, 2, none⟩ = some (.int .i64 dd) ∧ w'.cell? ⟨s, 0, none⟩ = some (.int .i64 o) ∧ w'.cell? ⟨s, 1, none⟩ = some (.int .i64 l) ∧ w'.cell? ⟨b, of + j, none⟩ = some (.slice xa xn xc) ∧ Below wr.heap.size wr w')
          (first | (with_reducible exact HC.out) | (with_reducible exact HCD.out) | (with_reducible exact HS1.out) | (with_reducible exact HS2.out) | (with_reducible exact rns_alloc HC.out _ (by assumption)) | (with_reducible exact rns_alloc HC.out _ HS2.out) | (with_reducible exact rns_alloc HC.out _ HC.out) | (with_reducible exact rns_drew HC.out (by assumption)) | (with_reducible exact rns_drew HC.out (rns_alloc HC.out _ HC.out)) | (with_reducible exact rns_drew HC.out (rns_alloc HC.out _ (by assumption))) | (exact rns_of HC.out (set_below (rns_bel HS2.out) (rns_bel HS1.out).size [.int .i64 o2, .int .i64 l2])) | (exact rns_of HC.out (set_below (rns_bel HS2.out) (Nat.le_refl _) [.int .i64 o2, .int .i64 l2])) | (exact rns_of HC.out (set_below (rns_bel HS2.out) (Nat.le_succ _) [.int .i64 o2, .int .i64 l2])) | go_keep)
          (first | (go_at_call 33; refine (HASK.out _ (rns_bel (g := g) (x := s) (b := b) (q := of + j) (nm := nm) (pa := pa) (P := P) (pc := pc) (dd := dd) (o := o) (l := l) (xa := xa) (xn := xn) (xc := xc) (by first | assumption | exact rns_alloc HC.out _ (by assumption) | exact rns_drew HC.out (by assumption) | exact rns_alloc HC.out _ HC.out | exact rns_drew HC.out (rns_alloc HC.out _ HC.out)))).mono ?_; rintro e v1 ⟨b1, c1, rfl, hi1, hb2⟩; have HS1 : Hid (RnS wr g s b (of + j) nm pa P pc dd o l xa xn xc v1) := rns_keep HC.out hb2 (by first | assumption | exact rns_alloc HC.out _ (by assumption) | exact rns_drew HC.out (by assumption) | exact rns_alloc HC.out _ HC.out | exact rns_drew HC.out (rns_alloc HC.out _ HC.out)); have HI1 := Lib.hid hi1; clear hi1; (first | (with_reducible have nn := rf_kept (A := #[.int .i64 0, .int .i64 0]) hb2) | (with_reducible have nn := rf_kept_drew (A := #[.int .i64 0, .int .i64 0]) hb2) | (have nn := nn.keep hb2) | (have nn := row_keep_drew nn hb2) | skip); (try (have n0 := nn.c 0 _ rfl; have n1 := nn.c 1 _ rfl; have n2 := nn.fz))) | (go_at_call 19; refine (HSTP.out _ _ _ (by first | exact HI1.out | exact HI1.out.keep bel_drew | exact HI1.out.keep (bel_new _) | exact (HI1.out.keep bel_drew).keep (bel_new _) | exact (HI1.out.keep (bel_new _)).keep bel_drew)).mono ?_; rintro e v2 ⟨rfl, hb2⟩; have HS2 : Hid (RnS wr g s b (of + j) nm pa P pc dd o l xa xn xc v2) := rns_keep HC.out hb2 (by first | assumption | exact rns_alloc HC.out _ (by assumption) | exact rns_drew HC.out (by assumption) | exact rns_alloc HC.out _ HC.out | exact rns_drew HC.out (rns_alloc HC.out _ HC.out)); (first | (with_reducible have nn := rf_kept (A := #[.int .i64 0, .int .i64 0]) hb2) | (with_reducible have nn := rf_kept_drew (A := #[.int .i64 0, .int .i64 0]) hb2) | (have nn := nn.keep hb2) | (have nn := row_keep_drew nn hb2) | skip); (try (have n0 := nn.c 0 _ rfl; have n1 := nn.c 1 _ rfl; have n2 := nn.fz))) | (fail))
        all_goals
          rename_i hHeld
          clear hHeld
          go_wp2_with fail
          go_meet
        all_goals first | exact ⟨_, rfl, rfl, Lib.hid ⟨row_fresh _ _ _, (rns_bel HS2.out).alloc (rns_bel HS2.out).size _⟩⟩ | exact ⟨_, rfl, rfl, Lib.hid ⟨nn.setRow [.int .i64 o2, .int .i64 l2] rfl, set_below (rns_bel HS2.out) (rns_bel HS1.out).size [.int .i64 o2, .int .i64 l2]⟩⟩ | exact ⟨_, rfl, rfl, Lib.hid ⟨nn.setRow [.int .i64 o2, .int .i64 l2] rfl, set_below (rns_bel HS2.out) (Nat.le_refl _) [.int .i64 o2, .int .i64 l2]⟩⟩ | exact ⟨_, rfl, rfl, Lib.hid ⟨nn.setRow [.int .i64 o2, .int .i64 l2] rfl, set_below (rns_bel HS2.out) (Nat.le_succ _) [.int .i64 o2, .int .i64 l2]⟩⟩
      case rest =>
        obtain ⟨n, rfl, rfl, hcc⟩ := hcut
        clear g_0 g_1 g_2 s_0 s_1 c0
        have HX2 := Lib.hid hcc.out.1
        have HBW := Lib.hid hcc.out.2
        have HG2 := Lib.hid (HG1.out.keep HBW.out)
        have HS2 := Lib.hid (HS0.out.keep HBW.out)
        have HO2 := Lib.hid (own_keep HO0.out HBW.out)
        have HB2 := Lib.hid (HBR.out.trans (HBW.out.mono HBR.out.size))
        have HKS := Lib.hid (Nat.le_trans HKK.out HBW.out.size)
        clear hcc HBW HG1 HS0 HO0 HBR HC HCD HKK HASK HSTP
        have x_0 := HX2.out.c 0 _ rfl
        have x_1 := HX2.out.c 1 _ rfl
        have s_0 := HS2.out.c 0 _ rfl
        have s_1 := HS2.out.c 1 _ rfl
        have s_z := HS2.out.fz
        go_upto_region 10 with fail
        obtain ⟨w5, hw5⟩ : ∃ x, x = wc.setCells s 0 [.int .i64 o2, .int .i64 l2] := ⟨_, rfl⟩
        have HS5 := Lib.hid (show RowAt w5 s [.int .i64 o2, .int .i64 l2] by rw [hw5]; exact HS2.out.setRow [.int .i64 o2, .int .i64 l2] rfl)
        have HG5 := Lib.hid (show RowAt w5 g [nm, .slice pa P pc, .int .i64 dd] by rw [hw5]; exact HG2.out.other (Ne.symm HGS.out) [.int .i64 o2, .int .i64 l2])
        have HO5 := Lib.hid (show w5.ownsRow K 37 2 u9 j (flat sL D) by rw [hw5]; exact own_set HO2.out HSK.out [.int .i64 o2, .int .i64 l2])
        have HB5 := Lib.hid (show Below w.heap.size w w5 by rw [hw5]; exact set_below HB2.out HWS.out [.int .i64 o2, .int .i64 l2])
        have HK5 := Lib.hid (show K ≤ w5.heap.size by rw [hw5, sz_setCells]; exact HKS.out)
        have hw6 : w5 = (wc.setCell ⟨s, 0, none⟩ (.int .i64 o2)).setCell ⟨s, 1, none⟩ (.int .i64 l2) := hw5
        rw [← hw6]
        clear hw5 hw6 x_0 x_1 s_0 s_1 s_z HX2 HG2 HS2 HO2 HB2 HKS
        have s_0 := HS5.out.c 0 _ rfl
        have s_1 := HS5.out.c 1 _ rfl
        have NW := Lib.hid (row_fresh w5 #[.int .i64 o2, .int .i64 l2] 37)
        go_wp2_with (at_builtin; refine wpList_append_own _ rfl _ _ 65 rfl K 37 ia (.agg #[.int .i64 0, .int .i64 0]) 2 16 Try.underlying65 hifa hza0 hza1 hza2 rfl (by decide) _ _ _ rfl (own_new HO5.out _) ⟨w5.heap.size, 0, none⟩ 1 1 [.int .i64 o2, .int .i64 l2] rfl rfl ?c1 ?c2 ?c3 ?c4 ?c5 ?_)
        try (case c1 => exact fun j u hu => by rw [add_plain, Nat.zero_add]; exact NW.out.c j u hu)
        case c2 => first | exact two_ints o2 l2 | exact ⟨rfl, rfl⟩
        case c3 => have := hF.out.len; have := HRW.out.1; have := HN.out; unfold maxLen; omega
        case c4 => have := hF.out.len; have := HRW.out.1; have := HN.out; omega
        case c5 => have := HK5.out; simp; omega
        intro v6 w6 hown6 hgrow6 _
        have HO6 := Lib.hid (show w6.ownsRow K 37 2 v6 (j + 1) (flat sL (runL dd now rs (j + 1))) by rw [HL1.out, flat_append]; exact hown6)
        have HS6 := Lib.hid ((HS5.out.keep (bel_new (Obj.cells #[.int .i64 o2, .int .i64 l2] 37))).grown hgrow6 (own_row (own_new HO5.out (Obj.cells #[.int .i64 o2, .int .i64 l2] 37)) HSK.out))
        have HG6 := Lib.hid ((HG5.out.keep (bel_new (Obj.cells #[.int .i64 o2, .int .i64 l2] 37))).grown hgrow6 (own_row (own_new HO5.out (Obj.cells #[.int .i64 o2, .int .i64 l2] 37)) HGK.out))
        have HB6 := Lib.hid ((HB5.out.alloc HB5.out.size (Obj.cells #[.int .i64 o2, .int .i64 l2] 37)).grown hgrow6 (by have := HB5.out.size; simp; omega) (fun k hk => by have h1 := ((own_new HO5.out (Obj.cells #[.int .i64 o2, .int .i64 l2] 37)).lt k hk).1; have h2 := HWK.out; omega))
        have HK6 := Lib.hid (show K ≤ w6.heap.size by have h1 := hgrow6.size; rw [World.size_alloc] at h1; have h2 := HK5.out; omega)
        clear hown6 hgrow6 s_0 s_1
        have HS6x := Lib.hid (show RowAt w6 s (sL (stN dd now rs (j + 1))) by rw [← HST2.out]; exact HS6.out)
        go_wp2_with fail
        go_roundw
        case rel => exact ⟨j + 1, by omega, by go_num, Lib.hid ⟨HO6.out, HS6x.out, HG6.out, HB6.out, HK6.out⟩⟩
        case measure => (simp [intOf]) <;> omega
    · obtain rfl : j = N := by omega
      have HO := Lib.hid hH.out.1
      have HBE := Lib.hid hH.out.2.2.2.1
      have HK0 := Lib.hid (show w.heap.size ≤ K from HWK.out)
      clear hH
      go_wp2_with fail
      go_ret2
      exact ⟨_, rfl, own_base HO.out HK0.out, HBE.out⟩
end Go.Proofs.Ytojbhbifbennfaa
