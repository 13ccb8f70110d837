/- timer.Settle, generic over the block. -/
import Derived.Test.YtmhfkdnblemfdaaDoorDm
import Derived.Test.YtmhfkdnblemfdaaDoorDn
namespace Go.Proofs.YtmhfkdnblemfdaaDoor
open Go.RowKit Go.Shelf

set_option linter.unusedVariables false
set_option linter.unusedSimpArgs false
/-- the answer of Settle -/
def StA (E ko : Int) (R : Int × Nat) (k n m : Int) : Prop := (E ≠ 0 → k = 0 ∧ n = 0 ∧ m = 0) ∧ (E = 0 → k = ko ∧ n = R.1 ∧ m = R.2)
def lastK (ko : Int) (k : Nat) : Int := if k = 0 then 0 else ko
set_option maxHeartbeats 8000000 in
set_option maxRecDepth 100000 in
theorem psettle_1 (s ro : ByteArray) (pl : List BndD) (il : List PortD) (K ko : Int) (pa sa va : Option Addr) (P pc Q sc vc : Nat) (stt : List Int) (vs : List ValD) (FP V : Bool) (F : List Int → List Int) (O : List Int → Int) (N : Nat) (w : World)
    (h0 : 0 < il.length) (h10 : il.length ≤ 10) (hk : ∀ p ∈ il, KindOk p.ty K) (hko : KindOk ro ko) (hkn : ko ≠ 0) (hin : InS w va vs.length 2 (flat valL vs)) (hV : V = true ↔ ∀ v ∈ vs, fitsB v.k v.n K = true)
    (hN : 1 ≤ N ∧ N ≤ 2000) (hfix : seqS F stt N = seqS F stt (N - 1)) (hne : ∀ k, k + 1 < N → seqS F stt (k + 1) ≠ seqS F stt k) (hlen : FP = true → ∀ k, ∃ x, seqS F stt k = [x])
    (KR : Hid (∀ W, Below w.heap.size w W → Calls Tryd.prog 21 #[.string s, .slice pa P pc, .slice sa Q sc] W fun e w' => ∃ R, e = .returned (.tuple #[R, .int .i64 (if FP = true then 0 else 1)]) ∧ (FP = true → ResOk W s ro 1 1 pl il pa P pc stt R w') ∧ Below W.heap.size W w'))
    (HEV : Hid (FP = true → V = true → vs.length = il.length → ∀ (k : Nat) (w5 : World) (rb : Nat) (a1 : Option Addr) (c1 : Nat) (a2 : Option Addr) (c2 ob : Nat), w5.heap.size < rb → Below w.heap.size w w5 →
      ∀ (w : World) (ib io ic' : Nat), Below w5.heap.size w5 w → RowAt w rb [.string s, .slice a1 pl.length c1, .slice a2 il.length c2, .slice (some ⟨ob, 0, none⟩) 1 1, .int .i64 (1 : Int), .int .i64 1, .slice pa P pc, .slice (some ⟨w5.heap.size, 0, none⟩) 1 1] → RowAt w w5.heap.size (flat iL (seqS F stt k)) → (∀ k x, vs[k]? = some x → w.cell? ⟨ib, io + k, none⟩ = some (.int .i64 x.n)) → ib ≠ w5.heap.size →
      Calls Tryd.prog 33 #[.pointer (some ⟨rb, 0, none⟩), .slice (some ⟨ib, io, none⟩) vs.length ic', .int .i64 1] w fun e w' => e = .returned (.int .i64 (O (seqS F stt k))) ∧ RowAt w' w5.heap.size (flat iL (seqS F stt (k + 1))) ∧ w.grownBy w' (some w5.heap.size))) :
    Calls Tryd.prog 15 #[.string s, .slice pa P pc, .slice sa Q sc, .slice va vs.length vc] w fun e w' => ∃ k n m, e = .returned (.tuple #[.agg #[.int .i64 k, .int .i64 n], .int .i64 m, .int .i64 (tmE FP il vs V 1)]) ∧ StA (tmE FP il vs V 1) ko (svV F O stt N) k n m ∧ Below w.heap.size w w' := by
  have HK := Lib.hid hk
  have HKO := Lib.hid hko
  have HKN := Lib.hid hkn
  have HIN := Lib.hid hin
  have HV := Lib.hid hV
  have HN := Lib.hid hN
  have HFIX := Lib.hid hfix
  have HNE2 := Lib.hid hne
  have HLEN := Lib.hid hlen
  obtain ⟨K0, hK0⟩ : ∃ M, M = vs.length := ⟨_, rfl⟩
  have HKL := Lib.hid hK0
  have k63 : K0 ≤ 9223372036854775807 := by rw [hK0]; exact hin.2.1
  rw [← hK0]
  clear hk hko hkn hin hV hK0 hN hfix hne hlen
  obtain ⟨W0, g, hW0, hg, RG, B0, sz0⟩ := box1 w #[.int .i64 0, .int .i64 0] 26
  have HG0 := Lib.hid RG
  have HB0 := Lib.hid B0
  have HWG := Lib.hid (show w.heap.size ≤ g by omega)
  have HGL := Lib.hid RG.lt
  clear RG B0 sz0
  go_enter Tryd.func15, Tryd.ntmps15
  go_upto_region 1 with fail
  rw [← hW0]
  try rw [← hg]
  clear hW0 hg
  go_wp2_with fail
  refine (KR.out W0 HB0.out).mono ?_
  rintro e w1 ⟨R, rfl, hres, hb⟩
  have HB1 := Lib.hid (HB0.out.trans (hb.mono HB0.out.size))
  have HG1 := Lib.hid (HG0.out.keep hb)
  clear hb
  cases FP
  · clear hres
    have g_0 := HG1.out.c 0 _ rfl
    have g_1 := HG1.out.c 1 _ rfl
    have g_z := HG1.out.fz
    go_wp2_with fail
    have hs := HG1.out.setRow [.int .i64 0, .int .i64 0] rfl
    have hB := set_below HB1.out HWG.out [.int .i64 0, .int .i64 0]
    have y0 : ((w1.setCell ⟨g, 0, none⟩ (.int .i64 0)).setCell ⟨g, 1, none⟩ (.int .i64 0)).cell? ⟨g, 0, none⟩ = some (.int .i64 0) := hs.c 0 _ rfl
    have y1 : ((w1.setCell ⟨g, 0, none⟩ (.int .i64 0)).setCell ⟨g, 1, none⟩ (.int .i64 0)).cell? ⟨g, 1, none⟩ = some (.int .i64 0) := hs.c 1 _ rfl
    (try simp only [Exit.inBlock, Exit.then])
    refine bodyPost_ret (by simp [results, Tryd.results15, go_sem, y0, y1]; try rfl) rfl ?_
    have hEE : (1 : Int) = tmE false il vs V 1 := by unfold tmE; rw [if_pos (.inl rfl)]
    rw [← hEE]
    exact ⟨_, _, _, rfl, ⟨fun _ => ⟨rfl, rfl, rfl⟩, fun h => absurd h (by decide)⟩, hB⟩
  · obtain ⟨w5, rb, a1, c1, a2, c2, ob, rfl, hb5, hrb, hR, hS, hI2, hI3, hb51⟩ := hres (by first | rfl | trivial)
    have HB05 := Lib.hid hb5
    have HRB := Lib.hid hrb
    have HI2 := Lib.hid hI2
    have HI3 := Lib.hid hI3
    have HB15 := Lib.hid (HB0.out.trans (hb5.mono HB0.out.size))
    have HG5 := Lib.hid (HG0.out.keep hb5)
    obtain ⟨W2, l, hW2, hl, RL, B2, sz2⟩ := box1 w1 #[.int .i64 0, .int .i64 0] 26
    have HL2 := Lib.hid RL
    have HR2 := Lib.hid (show RowAt W2 rb [.string s, .slice a1 pl.length c1, .slice a2 il.length c2, .slice (some ⟨ob, 0, none⟩) 1 1, .int .i64 (1 : Int), .int .i64 1, .slice pa P pc, .slice (some ⟨w5.heap.size, 0, none⟩) 1 1] from hR.keep B2)
    have HS2 := Lib.hid (show RowAt W2 w5.heap.size (flat iL stt) from hS.keep B2)
    have HB52 := Lib.hid (hb51.trans (B2.mono hb51.size))
    have HLW := Lib.hid (show w5.heap.size < l ∧ rb ≠ l by have := hS.lt; have := hR.lt; omega)
    clear hb5 hrb hR hS hI2 hI3 hb51 RL B2 sz2 KR hres
    go_upto_region 5 with fail
    rw [← hW2]
    try rw [← hl]
    clear hW2 hl
    go_wp2_with fail
    by_cases hok : K0 = il.length
    · have HOK := Lib.hid hok
      clear hok
      cases V
      · go_loopw [14, 15] (fun sv nn wr => ∃ k : Nat, k ≤ 0 ∧ sv = .int .i64 ((svV F O stt k).2 : Int) ∧ nn = .int .i64 ((k : Int) + 1) ∧ Hid (RowAt wr l [.int .i64 (lastK ko k), .int .i64 (svV F O stt k).1] ∧ RowAt wr rb [.string s, .slice a1 pl.length c1, .slice a2 il.length c2, .slice (some ⟨ob, 0, none⟩) 1 1, .int .i64 (1 : Int), .int .i64 1, .slice pa P pc, .slice (some ⟨w5.heap.size, 0, none⟩) 1 1] ∧ RowAt wr w5.heap.size (flat iL (seqS F stt k)) ∧ Below w5.heap.size w5 wr)) (fun _ nn _ => (0 + 2 - intOf nn).toNat)
        case atStart => exact ⟨0, Nat.zero_le _, rfl, by first | rfl | (congr 1), Lib.hid ⟨HL2.out, HR2.out, HS2.out, HB52.out⟩⟩
        case round =>
          obtain ⟨k, hkN, rfl, rfl, hH⟩ := hrel
          have HL := Lib.hid hH.out.1
          have HR := Lib.hid hH.out.2.1
          have HS := Lib.hid hH.out.2.2.1
          have HB := Lib.hid hH.out.2.2.2
          clear hH
          obtain rfl : k = 0 := by omega
          obtain ⟨x, hsk⟩ : ∃ x, seqS F stt 0 = [x] := HLEN.out (by first | rfl | trivial) 0
          have HSc := Lib.hid (show RowAt wr w5.heap.size [.int .i64 x] by have h := HS.out; rw [hsk] at h; exact h)
          have r_7 := HR.out.c 7 _ rfl
          have KC := Lib.hid (clone1_any w5.heap.size 0 1 x wr (HSc.out.c 0 _ rfl))
          go_wp2_with fail
          refine KC.out.mono ?_
          rintro e v1 ⟨b2, c9, rfl, hc, hge, hb⟩
          have HR1 := Lib.hid (HR.out.keep hb)
          have HL1 := Lib.hid (HL.out.keep hb)
          have HS1 := Lib.hid (HSc.out.keep hb)
          have HB1' := Lib.hid (HB.out.trans (hb.mono HB.out.size))
          have HC1 := Lib.hid hc
          have HNE := Lib.hid (show b2 ≠ w5.heap.size by have := HSc.out.lt; omega)
          have HNL := Lib.hid (show l ≠ b2 by have := HL.out.lt; omega)
          have lb2 := World.block_lt_of_cell? _ _ hc
          clear r_7 hc hge hb KC HR HSc HB
          have hbadv : ∃ v ∈ vs, fitsB v.k v.n K = false := by
            by_cases h : ∃ v ∈ vs, fitsB v.k v.n K = false
            · exact h
            · refine absurd (HV.out.2 (fun v hv => ?_)) (by decide)
              cases hf : fitsB v.k v.n K with
              | true => rfl
              | false => exact absurd ⟨v, hv, hf⟩ h
          have ks := step_type w5 rb s a1 pl.length c1 a2 c2 ob 1 1 1 pa P pc il K vs va vc 1 (by decide) (by decide) (by rw [← HKL.out]; exact HOK.out) h0 h10 HK.out hbadv HI2.out (HIN.out.keep HB15.out) v1 HB1'.out HR1.out
          rw [← HKL.out] at ks
          clear hbadv
          have KS := Lib.hid ks
          clear ks
          go_wp2_with fail
          refine KS.out.mono ?_
          rintro e v2 ⟨rfl, hb2⟩
          have HB2' := Lib.hid (HB1'.out.trans (hb2.mono HB1'.out.size))
          clear hb2
          obtain ⟨V3, t, hV3, ht, RT, B3, sz3⟩ := box1 v2 #[.int .i64 0, .int .i64 0] 26
          have HB3 := Lib.hid (HB2'.out.trans (B3.mono HB2'.out.size))
          have HG6 := Lib.hid (HG5.out.keep HB3.out)
          have HBW := Lib.hid (HB15.out.trans (HB3.out.mono HB15.out.size))
          clear RT B3 sz3
          go_upto_region 9 with fail
          rw [← hV3]
          try rw [← ht]
          clear hV3 ht
          have g_0 := HG6.out.c 0 _ rfl
          have g_1 := HG6.out.c 1 _ rfl
          have g_z := HG6.out.fz
          go_wp2_with fail
          have hs := HG6.out.setRow [.int .i64 0, .int .i64 0] rfl
          have hB := set_below HBW.out HWG.out [.int .i64 0, .int .i64 0]
          have y0 : ((V3.setCell ⟨g, 0, none⟩ (.int .i64 0)).setCell ⟨g, 1, none⟩ (.int .i64 0)).cell? ⟨g, 0, none⟩ = some (.int .i64 0) := hs.c 0 _ rfl
          have y1 : ((V3.setCell ⟨g, 0, none⟩ (.int .i64 0)).setCell ⟨g, 1, none⟩ (.int .i64 0)).cell? ⟨g, 1, none⟩ = some (.int .i64 0) := hs.c 1 _ rfl
          (try simp only [Exit.inBlock, Exit.then])
          refine bodyPost_ret (by simp [results, Tryd.results15, go_sem, y0, y1]; try rfl) rfl ?_
          have hEE : (11 : Int) = tmE true il vs false 1 := by unfold tmE; rw [if_neg (fun h => by rcases h with h | h | h; exact absurd h (by decide); exact absurd h (by decide); exact h (by rw [← HKL.out]; exact HOK.out)), if_pos rfl]
          rw [← hEE]
          exact ⟨_, _, _, rfl, ⟨fun _ => ⟨rfl, rfl, rfl⟩, fun h => absurd h (by decide)⟩, hB⟩
      · have hN1 := HN.out
        go_loopw [14, 15] (fun sv nn wr => ∃ k : Nat, k ≤ (N - 1) ∧ sv = .int .i64 ((svV F O stt k).2 : Int) ∧ nn = .int .i64 ((k : Int) + 1) ∧ Hid (RowAt wr l [.int .i64 (lastK ko k), .int .i64 (svV F O stt k).1] ∧ RowAt wr rb [.string s, .slice a1 pl.length c1, .slice a2 il.length c2, .slice (some ⟨ob, 0, none⟩) 1 1, .int .i64 (1 : Int), .int .i64 1, .slice pa P pc, .slice (some ⟨w5.heap.size, 0, none⟩) 1 1] ∧ RowAt wr w5.heap.size (flat iL (seqS F stt k)) ∧ Below w5.heap.size w5 wr)) (fun _ nn _ => ((N - 1) + 2 - intOf nn).toNat)
        case atStart => exact ⟨0, Nat.zero_le _, rfl, by first | rfl | (congr 1), Lib.hid ⟨HL2.out, HR2.out, HS2.out, HB52.out⟩⟩
        case round =>
          obtain ⟨k, hkN, rfl, rfl, hH⟩ := hrel
          have HL := Lib.hid hH.out.1
          have HR := Lib.hid hH.out.2.1
          have HS := Lib.hid hH.out.2.2.1
          have HB := Lib.hid hH.out.2.2.2
          clear hH
          have hkN2 : k < N := by have := HN.out; omega
          obtain ⟨x, hsk⟩ : ∃ x, seqS F stt k = [x] := HLEN.out (by first | rfl | trivial) k
          obtain ⟨x', hsk2⟩ : ∃ x', seqS F stt (k + 1) = [x'] := HLEN.out (by first | rfl | trivial) (k + 1)
          obtain ⟨o, ho⟩ : ∃ o, o = O (seqS F stt k) := ⟨_, rfl⟩
          have HSK := Lib.hid hsk
          have HSK2 := Lib.hid hsk2
          have HO := Lib.hid ho
          have HSc := Lib.hid (show RowAt wr w5.heap.size [.int .i64 x] by have h := HS.out; rw [hsk] at h; exact h)
          have r_7 := HR.out.c 7 _ rfl
          have KC := Lib.hid (clone1_any w5.heap.size 0 1 x wr (HSc.out.c 0 _ rfl))
          go_wp2_with fail
          refine KC.out.mono ?_
          rintro e v1 ⟨b2, c9, rfl, hc, hge, hb⟩
          have HR1 := Lib.hid (HR.out.keep hb)
          have HL1 := Lib.hid (HL.out.keep hb)
          have HS1 := Lib.hid (HSc.out.keep hb)
          have HB1' := Lib.hid (HB.out.trans (hb.mono HB.out.size))
          have HC1 := Lib.hid hc
          have HNE := Lib.hid (show b2 ≠ w5.heap.size by have := HSc.out.lt; omega)
          have HNL := Lib.hid (show l ≠ b2 by have := HL.out.lt; omega)
          have lb2 := World.block_lt_of_cell? _ _ hc
          clear r_7 hc hge hb KC HR HSc HB
          have ks := step_any w5 rb s ro a1 pl.length c1 a2 c2 ob 1 1 1 pa P pc il K ko vs va vc 1 (flat iL (seqS F stt k)) (flat iL (seqS F stt (k + 1))) (O (seqS F stt k)) HRB.out (by decide) (by decide) (by rw [← HKL.out]; exact HOK.out) h0 h10 HK.out (HV.out.1 (by first | rfl | trivial)) HKO.out HI2.out HI3.out (HIN.out.keep HB15.out) (HEV.out (by first | rfl | trivial) (by first | rfl | trivial) (by rw [← HKL.out]; exact HOK.out) k w5 rb a1 c1 a2 c2 ob HRB.out HB15.out) v1 HB1'.out HR1.out (by rw [hsk]; exact HS1.out)
          rw [← HKL.out, ← ho, hsk2] at ks
          have KS := Lib.hid ks
          clear ks hsk hsk2 ho
          go_wp2_with fail
          refine KS.out.mono ?_
          rintro e v2 ⟨rfl, hS, hgr⟩
          have HR2' := Lib.hid (row_grown HR1.out hgr (by intro e; injection e with e; have := HRB.out; omega))
          have HL2' := Lib.hid (row_grown HL1.out hgr (by intro e; injection e with e; have := HLW.out.1; omega))
          have HS2' := Lib.hid (show RowAt v2 w5.heap.size [.int .i64 x'] from hS)
          have HB2' := Lib.hid (HB1'.out.grown hgr HB1'.out.size (fun q e => by injection e with e; omega))
          have HC2 := Lib.hid ((World.cell?_of_block (a := ⟨b2, 0, none⟩) (hgr.block b2 lb2 (by intro e; injection e with e; exact HNE.out e))).trans HC1.out)
          clear hS hgr KS HR1 HL1 HS1 HB1' HC1 lb2
          obtain ⟨V3, t, hV3, ht, RT, B3, sz3⟩ := box1 v2 #[.int .i64 ko, .int .i64 o] 26
          have HT3 := Lib.hid RT
          have HR3 := Lib.hid (HR2'.out.keep B3)
          have HL3 := Lib.hid (HL2'.out.keep B3)
          have HS3 := Lib.hid (HS2'.out.keep B3)
          have HB3 := Lib.hid (HB2'.out.trans (B3.mono HB2'.out.size))
          have HC3 := Lib.hid (cellB HC2.out B3)
          clear RT B3 sz3 HR2' HL2' HS2' HB2' HC2
          go_upto_region 9 with fail
          rw [← hV3]
          try rw [← ht]
          clear hV3 ht
          obtain ⟨lk, hlk⟩ : ∃ z, z = lastK ko k := ⟨_, rfl⟩
          obtain ⟨ln, hln⟩ : ∃ z, z = (svV F O stt k).1 := ⟨_, rfl⟩
          rw [← hlk, ← hln] at HL3
          have HLK := Lib.hid hlk
          have HLN := Lib.hid hln
          clear hlk hln
          have t_0 := HT3.out.c 0 _ rfl
          have t_1 := HT3.out.c 1 _ rfl
          have l_0 := HL3.out.c 0 _ rfl
          have l_1 := HL3.out.c 1 _ rfl
          have l_z := HL3.out.fz
          have r_7 := HR3.out.c 7 _ rfl
          by_cases hch0 : ko = lk ∧ o = ln
          · obtain ⟨rfl, rfl⟩ := hch0
            have hk0 : k ≠ 0 := by
              intro h
              have h2 := HLK.out
              rw [h] at h2
              exact HKN.out h2
            have HSV := Lib.hid (show svV F O stt (k + 1) = svV F O stt k by
              show (if k = 0 ∨ O (seqS F stt k) ≠ (svV F O stt k).1 then _ else _) = _
              rw [if_neg]
              intro h
              rcases h with h | h
              · exact hk0 h
              · exact h (by rw [← HO.out, ← HLN.out]))
            have HK0 := Lib.hid hk0
            clear hk0
            go_upto_region 13 with fail
            clear t_0 t_1 l_0 l_1 l_z
            have HL4 := HL3
            have HR4 := HR3
            have HS4 := HS3
            have HB4 := HB3
            have HC4 := HC3
            have KE := Lib.hid (equal1_any w5.heap.size 0 1 b2 c9 x' x V3 (HS4.out.c 0 _ rfl) HC4.out)
            obtain ⟨EB, hEB⟩ : ∃ z, z = decide (x' = x) := ⟨_, rfl⟩
            rw [← hEB] at KE
            have HEB := Lib.hid hEB
            clear hEB
            go_wp2_with fail
            refine KE.out.mono ?_
            rintro e v5 ⟨rfl, hb⟩
            have HL5 := Lib.hid (HL4.out.keep hb)
            have HR5 := Lib.hid (HR4.out.keep hb)
            have HS5 := Lib.hid (HS4.out.keep hb)
            have HB5 := Lib.hid (HB4.out.trans (hb.mono HB4.out.size))
            clear r_7 hb
            cases EB
            · have hkk : k + 1 < N := by
                rcases Nat.lt_or_ge (k + 1) N with h | h
                · exact h
                · exfalso
                  obtain rfl : N = k + 1 := by omega
                  have h2 := HFIX.out
                  rw [Nat.add_sub_cancel, HSK2.out, HSK.out] at h2
                  have h3 : x' = x := by simpa using h2
                  have h4 := HEB.out
                  rw [decide_eq_true h3] at h4
                  cases h4
              go_wp2_with fail
              go_roundw
              case rel => exact ⟨k + 1, by omega, by rw [HSV.out], by go_num, Lib.hid ⟨(by rw [HSV.out, ← HLN.out, show lastK ko (k + 1) = ko from if_neg (by omega)]; exact HL5.out), HR5.out, by rw [HSK2.out]; exact HS5.out, HB5.out⟩⟩
              case measure => (simp [intOf]) <;> omega
            · have hkk : N = k + 1 := by
                rcases Nat.lt_or_ge (k + 1) N with h | h
                · exfalso
                  refine HNE2.out k h ?_
                  rw [HSK2.out, HSK.out]
                  have h3 := of_decide_eq_true HEB.out.symm
                  rw [h3]
                · omega
              have HG6 := Lib.hid (HG5.out.keep HB5.out)
              have HFS := Lib.hid (show svV F O stt N = (o, (svV F O stt k).2) by rw [hkk]; rw [HSV.out]; exact Prod.ext HLN.out.symm rfl)
              have HKK := Lib.hid hkk
              clear hkk
              have g_0 := HG6.out.c 0 _ rfl
              have g_1 := HG6.out.c 1 _ rfl
              have g_z := HG6.out.fz
              have l_0 := HL5.out.c 0 _ rfl
              have l_1 := HL5.out.c 1 _ rfl
              go_wp2_with fail
              have hs := HG6.out.setRow [.int .i64 ko, .int .i64 o] rfl
              have y0 : ((v5.setCell ⟨g, 0, none⟩ (.int .i64 ko)).setCell ⟨g, 1, none⟩ (.int .i64 o)).cell? ⟨g, 0, none⟩ = some (.int .i64 ko) := hs.c 0 _ rfl
              have y1 : ((v5.setCell ⟨g, 0, none⟩ (.int .i64 ko)).setCell ⟨g, 1, none⟩ (.int .i64 o)).cell? ⟨g, 1, none⟩ = some (.int .i64 o) := hs.c 1 _ rfl
              (try simp only [Exit.inBlock, Exit.then])
              refine bodyPost_ret (by simp [results, Tryd.results15, go_sem, y0, y1]; try rfl) rfl ?_
              have hEE : (0 : Int) = tmE true il vs true 1 := by unfold tmE; rw [if_neg (fun h => by rcases h with h | h | h; exact absurd h (by decide); exact absurd h (by decide); exact h (by rw [← HKL.out]; exact HOK.out)), if_neg (by decide)]
              rw [← hEE, HFS.out]
              exact ⟨_, _, _, rfl, ⟨fun h => absurd rfl h, fun _ => ⟨rfl, rfl, rfl⟩⟩, set_below (HB15.out.trans (HB5.out.mono HB15.out.size)) HWG.out [.int .i64 ko, .int .i64 o]⟩
          · have HSV := Lib.hid (show svV F O stt (k + 1) = (o, k + 1) by
              show (if k = 0 ∨ O (seqS F stt k) ≠ (svV F O stt k).1 then _ else _) = _
              rw [if_pos, HO.out]
              by_cases h0 : k = 0
              · exact .inl h0
              · refine .inr (fun h => hch0 ⟨?_, ?_⟩)
                · rw [HLK.out]; exact (if_neg h0).symm
                · rw [HO.out, HLN.out]; exact h)
            have HCH := Lib.hid hch0
            clear hch0
            by_cases hkl : ko = lk
            · subst hkl
              have hon : ¬ o = ln := fun h => HCH.out ⟨rfl, h⟩
              have bon : (o == ln) = false := beq_eq_false_iff_ne.2 hon
              go_upto_region 13 with fail
              obtain ⟨V4, hV4⟩ : ∃ v, v = V3.setCells l 0 [.int .i64 ko, .int .i64 o] := ⟨_, rfl⟩
              have HL4 := Lib.hid (show RowAt V4 l [.int .i64 ko, .int .i64 o] by rw [hV4]; exact HL3.out.setRow [.int .i64 ko, .int .i64 o] rfl)
              have HR4 := Lib.hid (show RowAt V4 rb [.string s, .slice a1 pl.length c1, .slice a2 il.length c2, .slice (some ⟨ob, 0, none⟩) 1 1, .int .i64 (1 : Int), .int .i64 1, .slice pa P pc, .slice (some ⟨w5.heap.size, 0, none⟩) 1 1] by rw [hV4]; exact HR3.out.other (by have := HLW.out.2; omega) [.int .i64 ko, .int .i64 o])
              have HS4 := Lib.hid (show RowAt V4 w5.heap.size [.int .i64 x'] by rw [hV4]; exact HS3.out.other (by have := HLW.out.1; omega) [.int .i64 ko, .int .i64 o])
              have HB4 := Lib.hid (show Below w5.heap.size w5 V4 by rw [hV4]; exact set_below HB3.out (by have := HLW.out.1; omega) [.int .i64 ko, .int .i64 o])
              have HC4 := Lib.hid (show V4.cell? ⟨b2, 0, none⟩ = some (.int .i64 x) by rw [hV4]; exact (cell_setCells_other HNL.out _ 0 _ 0).trans HC3.out)
              have hch : ((V3.setCell ⟨l, 0, none⟩ (.int .i64 ko)).setCell ⟨l, 1, none⟩ (.int .i64 o)) = V4 := hV4.symm
              (try simp only [hch])
              (try rw [hch])
              clear hV4 hch t_0 t_1 l_0 l_1 l_z r_7
              have r_7 := HR4.out.c 7 _ rfl
              have KE := Lib.hid (equal1_any w5.heap.size 0 1 b2 c9 x' x V4 (HS4.out.c 0 _ rfl) HC4.out)
              obtain ⟨EB, hEB⟩ : ∃ z, z = decide (x' = x) := ⟨_, rfl⟩
              rw [← hEB] at KE
              have HEB := Lib.hid hEB
              clear hEB
              go_wp2_with fail
              refine KE.out.mono ?_
              rintro e v5 ⟨rfl, hb⟩
              have HL5 := Lib.hid (HL4.out.keep hb)
              have HR5 := Lib.hid (HR4.out.keep hb)
              have HS5 := Lib.hid (HS4.out.keep hb)
              have HB5 := Lib.hid (HB4.out.trans (hb.mono HB4.out.size))
              clear r_7 hb
              cases EB
              · have hkk : k + 1 < N := by
                  rcases Nat.lt_or_ge (k + 1) N with h | h
                  · exact h
                  · exfalso
                    obtain rfl : N = k + 1 := by omega
                    have h2 := HFIX.out
                    rw [Nat.add_sub_cancel, HSK2.out, HSK.out] at h2
                    have h3 : x' = x := by simpa using h2
                    have h4 := HEB.out
                    rw [decide_eq_true h3] at h4
                    cases h4
                go_wp2_with fail
                go_roundw
                case rel => exact ⟨k + 1, by omega, by rw [HSV.out]; rfl, by go_num, Lib.hid ⟨(by rw [HSV.out, show lastK ko (k + 1) = ko from if_neg (by omega)]; exact HL5.out), HR5.out, by rw [HSK2.out]; exact HS5.out, HB5.out⟩⟩
                case measure => (simp [intOf]) <;> omega
              · have hkk : N = k + 1 := by
                  rcases Nat.lt_or_ge (k + 1) N with h | h
                  · exfalso
                    refine HNE2.out k h ?_
                    rw [HSK2.out, HSK.out]
                    have h3 := of_decide_eq_true HEB.out.symm
                    rw [h3]
                  · omega
                have HG6 := Lib.hid (HG5.out.keep HB5.out)
                have HFS := Lib.hid (show svV F O stt N = (o, k + 1) by rw [hkk]; exact HSV.out)
                have HKK := Lib.hid hkk
                clear hkk
                have g_0 := HG6.out.c 0 _ rfl
                have g_1 := HG6.out.c 1 _ rfl
                have g_z := HG6.out.fz
                have l_0 := HL5.out.c 0 _ rfl
                have l_1 := HL5.out.c 1 _ rfl
                go_wp2_with fail
                have hs := HG6.out.setRow [.int .i64 ko, .int .i64 o] rfl
                have y0 : ((v5.setCell ⟨g, 0, none⟩ (.int .i64 ko)).setCell ⟨g, 1, none⟩ (.int .i64 o)).cell? ⟨g, 0, none⟩ = some (.int .i64 ko) := hs.c 0 _ rfl
                have y1 : ((v5.setCell ⟨g, 0, none⟩ (.int .i64 ko)).setCell ⟨g, 1, none⟩ (.int .i64 o)).cell? ⟨g, 1, none⟩ = some (.int .i64 o) := hs.c 1 _ rfl
                (try simp only [Exit.inBlock, Exit.then])
                refine bodyPost_ret (by simp [results, Tryd.results15, go_sem, y0, y1]; try rfl) rfl ?_
                have hEE : (0 : Int) = tmE true il vs true 1 := by unfold tmE; rw [if_neg (fun h => by rcases h with h | h | h; exact absurd h (by decide); exact absurd h (by decide); exact h (by rw [← HKL.out]; exact HOK.out)), if_neg (by decide)]
                rw [← hEE, HFS.out]
                exact ⟨_, _, _, rfl, ⟨fun h => absurd rfl h, fun _ => ⟨rfl, rfl, rfl⟩⟩, set_below (HB15.out.trans (HB5.out.mono HB15.out.size)) HWG.out [.int .i64 ko, .int .i64 o]⟩
            · have bkl : (ko == lk) = false := beq_eq_false_iff_ne.2 hkl
              go_upto_region 13 with fail
              obtain ⟨V4, hV4⟩ : ∃ v, v = V3.setCells l 0 [.int .i64 ko, .int .i64 o] := ⟨_, rfl⟩
              have HL4 := Lib.hid (show RowAt V4 l [.int .i64 ko, .int .i64 o] by rw [hV4]; exact HL3.out.setRow [.int .i64 ko, .int .i64 o] rfl)
              have HR4 := Lib.hid (show RowAt V4 rb [.string s, .slice a1 pl.length c1, .slice a2 il.length c2, .slice (some ⟨ob, 0, none⟩) 1 1, .int .i64 (1 : Int), .int .i64 1, .slice pa P pc, .slice (some ⟨w5.heap.size, 0, none⟩) 1 1] by rw [hV4]; exact HR3.out.other (by have := HLW.out.2; omega) [.int .i64 ko, .int .i64 o])
              have HS4 := Lib.hid (show RowAt V4 w5.heap.size [.int .i64 x'] by rw [hV4]; exact HS3.out.other (by have := HLW.out.1; omega) [.int .i64 ko, .int .i64 o])
              have HB4 := Lib.hid (show Below w5.heap.size w5 V4 by rw [hV4]; exact set_below HB3.out (by have := HLW.out.1; omega) [.int .i64 ko, .int .i64 o])
              have HC4 := Lib.hid (show V4.cell? ⟨b2, 0, none⟩ = some (.int .i64 x) by rw [hV4]; exact (cell_setCells_other HNL.out _ 0 _ 0).trans HC3.out)
              have hch : ((V3.setCell ⟨l, 0, none⟩ (.int .i64 ko)).setCell ⟨l, 1, none⟩ (.int .i64 o)) = V4 := hV4.symm
              (try simp only [hch])
              (try rw [hch])
              clear hV4 hch t_0 t_1 l_0 l_1 l_z r_7
              have r_7 := HR4.out.c 7 _ rfl
              have KE := Lib.hid (equal1_any w5.heap.size 0 1 b2 c9 x' x V4 (HS4.out.c 0 _ rfl) HC4.out)
              obtain ⟨EB, hEB⟩ : ∃ z, z = decide (x' = x) := ⟨_, rfl⟩
              rw [← hEB] at KE
              have HEB := Lib.hid hEB
              clear hEB
              go_wp2_with fail
              refine KE.out.mono ?_
              rintro e v5 ⟨rfl, hb⟩
              have HL5 := Lib.hid (HL4.out.keep hb)
              have HR5 := Lib.hid (HR4.out.keep hb)
              have HS5 := Lib.hid (HS4.out.keep hb)
              have HB5 := Lib.hid (HB4.out.trans (hb.mono HB4.out.size))
              clear r_7 hb
              cases EB
              · have hkk : k + 1 < N := by
                  rcases Nat.lt_or_ge (k + 1) N with h | h
                  · exact h
                  · exfalso
                    obtain rfl : N = k + 1 := by omega
                    have h2 := HFIX.out
                    rw [Nat.add_sub_cancel, HSK2.out, HSK.out] at h2
                    have h3 : x' = x := by simpa using h2
                    have h4 := HEB.out
                    rw [decide_eq_true h3] at h4
                    cases h4
                go_wp2_with fail
                go_roundw
                case rel => exact ⟨k + 1, by omega, by rw [HSV.out]; rfl, by go_num, Lib.hid ⟨(by rw [HSV.out, show lastK ko (k + 1) = ko from if_neg (by omega)]; exact HL5.out), HR5.out, by rw [HSK2.out]; exact HS5.out, HB5.out⟩⟩
                case measure => (simp [intOf]) <;> omega
              · have hkk : N = k + 1 := by
                  rcases Nat.lt_or_ge (k + 1) N with h | h
                  · exfalso
                    refine HNE2.out k h ?_
                    rw [HSK2.out, HSK.out]
                    have h3 := of_decide_eq_true HEB.out.symm
                    rw [h3]
                  · omega
                have HG6 := Lib.hid (HG5.out.keep HB5.out)
                have HFS := Lib.hid (show svV F O stt N = (o, k + 1) by rw [hkk]; exact HSV.out)
                have HKK := Lib.hid hkk
                clear hkk
                have g_0 := HG6.out.c 0 _ rfl
                have g_1 := HG6.out.c 1 _ rfl
                have g_z := HG6.out.fz
                have l_0 := HL5.out.c 0 _ rfl
                have l_1 := HL5.out.c 1 _ rfl
                go_wp2_with fail
                have hs := HG6.out.setRow [.int .i64 ko, .int .i64 o] rfl
                have y0 : ((v5.setCell ⟨g, 0, none⟩ (.int .i64 ko)).setCell ⟨g, 1, none⟩ (.int .i64 o)).cell? ⟨g, 0, none⟩ = some (.int .i64 ko) := hs.c 0 _ rfl
                have y1 : ((v5.setCell ⟨g, 0, none⟩ (.int .i64 ko)).setCell ⟨g, 1, none⟩ (.int .i64 o)).cell? ⟨g, 1, none⟩ = some (.int .i64 o) := hs.c 1 _ rfl
                (try simp only [Exit.inBlock, Exit.then])
                refine bodyPost_ret (by simp [results, Tryd.results15, go_sem, y0, y1]; try rfl) rfl ?_
                have hEE : (0 : Int) = tmE true il vs true 1 := by unfold tmE; rw [if_neg (fun h => by rcases h with h | h | h; exact absurd h (by decide); exact absurd h (by decide); exact h (by rw [← HKL.out]; exact HOK.out)), if_neg (by decide)]
                rw [← hEE, HFS.out]
                exact ⟨_, _, _, rfl, ⟨fun h => absurd rfl h, fun _ => ⟨rfl, rfl, rfl⟩⟩, set_below (HB15.out.trans (HB5.out.mono HB15.out.size)) HWG.out [.int .i64 ko, .int .i64 o]⟩
    · have HOK := Lib.hid hok
      go_loopw [14, 15] (fun sv nn wr => ∃ k : Nat, k ≤ 0 ∧ sv = .int .i64 ((svV F O stt k).2 : Int) ∧ nn = .int .i64 ((k : Int) + 1) ∧ Hid (RowAt wr l [.int .i64 (lastK ko k), .int .i64 (svV F O stt k).1] ∧ RowAt wr rb [.string s, .slice a1 pl.length c1, .slice a2 il.length c2, .slice (some ⟨ob, 0, none⟩) 1 1, .int .i64 (1 : Int), .int .i64 1, .slice pa P pc, .slice (some ⟨w5.heap.size, 0, none⟩) 1 1] ∧ RowAt wr w5.heap.size (flat iL (seqS F stt k)) ∧ Below w5.heap.size w5 wr)) (fun _ nn _ => (0 + 2 - intOf nn).toNat)
      case atStart => exact ⟨0, Nat.zero_le _, rfl, by first | rfl | (congr 1), Lib.hid ⟨HL2.out, HR2.out, HS2.out, HB52.out⟩⟩
      case round =>
        obtain ⟨k, hkN, rfl, rfl, hH⟩ := hrel
        have HL := Lib.hid hH.out.1
        have HR := Lib.hid hH.out.2.1
        have HS := Lib.hid hH.out.2.2.1
        have HB := Lib.hid hH.out.2.2.2
        clear hH
        obtain rfl : k = 0 := by omega
        obtain ⟨x, hsk⟩ : ∃ x, seqS F stt 0 = [x] := HLEN.out (by first | rfl | trivial) 0
        have HSc := Lib.hid (show RowAt wr w5.heap.size [.int .i64 x] by have h := HS.out; rw [hsk] at h; exact h)
        have r_7 := HR.out.c 7 _ rfl
        have KC := Lib.hid (clone1_any w5.heap.size 0 1 x wr (HSc.out.c 0 _ rfl))
        go_wp2_with fail
        refine KC.out.mono ?_
        rintro e v1 ⟨b2, c9, rfl, hc, hge, hb⟩
        have HR1 := Lib.hid (HR.out.keep hb)
        have HL1 := Lib.hid (HL.out.keep hb)
        have HS1 := Lib.hid (HSc.out.keep hb)
        have HB1' := Lib.hid (HB.out.trans (hb.mono HB.out.size))
        have HC1 := Lib.hid hc
        have HNE := Lib.hid (show b2 ≠ w5.heap.size by have := HSc.out.lt; omega)
        have HNL := Lib.hid (show l ≠ b2 by have := HL.out.lt; omega)
        have lb2 := World.block_lt_of_cell? _ _ hc
        clear r_7 hc hge hb KC HR HSc HB
        have ks := step_bad w5 rb s a1 pl.length c1 a2 c2 ob 1 1 1 pa P pc il K0 va vc 1 k63 v1 HR1.out (.inr (.inr HOK.out))
        have KS := Lib.hid ks
        clear ks
        go_wp2_with fail
        refine KS.out.mono ?_
        rintro e v2 ⟨rfl, hb2⟩
        have HB2' := Lib.hid (HB1'.out.trans (hb2.mono HB1'.out.size))
        clear hb2
        obtain ⟨V3, t, hV3, ht, RT, B3, sz3⟩ := box1 v2 #[.int .i64 0, .int .i64 0] 26
        have HB3 := Lib.hid (HB2'.out.trans (B3.mono HB2'.out.size))
        have HG6 := Lib.hid (HG5.out.keep HB3.out)
        have HBW := Lib.hid (HB15.out.trans (HB3.out.mono HB15.out.size))
        clear RT B3 sz3
        go_upto_region 9 with fail
        rw [← hV3]
        try rw [← ht]
        clear hV3 ht
        have g_0 := HG6.out.c 0 _ rfl
        have g_1 := HG6.out.c 1 _ rfl
        have g_z := HG6.out.fz
        go_wp2_with fail
        have hs := HG6.out.setRow [.int .i64 0, .int .i64 0] rfl
        have hB := set_below HBW.out HWG.out [.int .i64 0, .int .i64 0]
        have y0 : ((V3.setCell ⟨g, 0, none⟩ (.int .i64 0)).setCell ⟨g, 1, none⟩ (.int .i64 0)).cell? ⟨g, 0, none⟩ = some (.int .i64 0) := hs.c 0 _ rfl
        have y1 : ((V3.setCell ⟨g, 0, none⟩ (.int .i64 0)).setCell ⟨g, 1, none⟩ (.int .i64 0)).cell? ⟨g, 1, none⟩ = some (.int .i64 0) := hs.c 1 _ rfl
        (try simp only [Exit.inBlock, Exit.then])
        refine bodyPost_ret (by simp [results, Tryd.results15, go_sem, y0, y1]; try rfl) rfl ?_
        have hEE : (1 : Int) = tmE true il vs V 1 := by unfold tmE; rw [if_pos (.inr (.inr (fun h => HOK.out (by rw [HKL.out, h]))))]
        rw [← hEE]
        exact ⟨_, _, _, rfl, ⟨fun _ => ⟨rfl, rfl, rfl⟩, fun h => absurd h (by decide)⟩, hB⟩
set_option maxHeartbeats 8000000 in
set_option maxRecDepth 100000 in
theorem psettle_2 (s ro : ByteArray) (pl : List BndD) (il : List PortD) (K ko : Int) (pa sa va : Option Addr) (P pc Q sc vc : Nat) (stt : List Int) (vs : List ValD) (FP V : Bool) (F : List Int → List Int) (O : List Int → Int) (N : Nat) (w : World)
    (h0 : 0 < il.length) (h10 : il.length ≤ 10) (hk : ∀ p ∈ il, KindOk p.ty K) (hko : KindOk ro ko) (hkn : ko ≠ 0) (hin : InS w va vs.length 2 (flat valL vs)) (hV : V = true ↔ ∀ v ∈ vs, fitsB v.k v.n K = true)
    (hN : 1 ≤ N ∧ N ≤ 2000) (hfix : seqS F stt N = seqS F stt (N - 1)) (hne : ∀ k, k + 1 < N → seqS F stt (k + 1) ≠ seqS F stt k) (hlen : FP = true → ∀ k, ∃ x y, seqS F stt k = [x, y])
    (KR : Hid (∀ W, Below w.heap.size w W → Calls Tryd.prog 21 #[.string s, .slice pa P pc, .slice sa Q sc] W fun e w' => ∃ R, e = .returned (.tuple #[R, .int .i64 (if FP = true then 0 else 1)]) ∧ (FP = true → ResOk W s ro 1 2 pl il pa P pc stt R w') ∧ Below W.heap.size W w'))
    (HEV : Hid (FP = true → V = true → vs.length = il.length → ∀ (k : Nat) (w5 : World) (rb : Nat) (a1 : Option Addr) (c1 : Nat) (a2 : Option Addr) (c2 ob : Nat), w5.heap.size < rb → Below w.heap.size w w5 →
      ∀ (w : World) (ib io ic' : Nat), Below w5.heap.size w5 w → RowAt w rb [.string s, .slice a1 pl.length c1, .slice a2 il.length c2, .slice (some ⟨ob, 0, none⟩) 1 1, .int .i64 (2 : Int), .int .i64 1, .slice pa P pc, .slice (some ⟨w5.heap.size, 0, none⟩) 2 2] → RowAt w w5.heap.size (flat iL (seqS F stt k)) → (∀ k x, vs[k]? = some x → w.cell? ⟨ib, io + k, none⟩ = some (.int .i64 x.n)) → ib ≠ w5.heap.size →
      Calls Tryd.prog 33 #[.pointer (some ⟨rb, 0, none⟩), .slice (some ⟨ib, io, none⟩) vs.length ic', .int .i64 1] w fun e w' => e = .returned (.int .i64 (O (seqS F stt k))) ∧ RowAt w' w5.heap.size (flat iL (seqS F stt (k + 1))) ∧ w.grownBy w' (some w5.heap.size))) :
    Calls Tryd.prog 15 #[.string s, .slice pa P pc, .slice sa Q sc, .slice va vs.length vc] w fun e w' => ∃ k n m, e = .returned (.tuple #[.agg #[.int .i64 k, .int .i64 n], .int .i64 m, .int .i64 (tmE FP il vs V 1)]) ∧ StA (tmE FP il vs V 1) ko (svV F O stt N) k n m ∧ Below w.heap.size w w' := by
  have HK := Lib.hid hk
  have HKO := Lib.hid hko
  have HKN := Lib.hid hkn
  have HIN := Lib.hid hin
  have HV := Lib.hid hV
  have HN := Lib.hid hN
  have HFIX := Lib.hid hfix
  have HNE2 := Lib.hid hne
  have HLEN := Lib.hid hlen
  obtain ⟨K0, hK0⟩ : ∃ M, M = vs.length := ⟨_, rfl⟩
  have HKL := Lib.hid hK0
  have k63 : K0 ≤ 9223372036854775807 := by rw [hK0]; exact hin.2.1
  rw [← hK0]
  clear hk hko hkn hin hV hK0 hN hfix hne hlen
  obtain ⟨W0, g, hW0, hg, RG, B0, sz0⟩ := box1 w #[.int .i64 0, .int .i64 0] 26
  have HG0 := Lib.hid RG
  have HB0 := Lib.hid B0
  have HWG := Lib.hid (show w.heap.size ≤ g by omega)
  have HGL := Lib.hid RG.lt
  clear RG B0 sz0
  go_enter Tryd.func15, Tryd.ntmps15
  go_upto_region 1 with fail
  rw [← hW0]
  try rw [← hg]
  clear hW0 hg
  go_wp2_with fail
  refine (KR.out W0 HB0.out).mono ?_
  rintro e w1 ⟨R, rfl, hres, hb⟩
  have HB1 := Lib.hid (HB0.out.trans (hb.mono HB0.out.size))
  have HG1 := Lib.hid (HG0.out.keep hb)
  clear hb
  cases FP
  · clear hres
    have g_0 := HG1.out.c 0 _ rfl
    have g_1 := HG1.out.c 1 _ rfl
    have g_z := HG1.out.fz
    go_wp2_with fail
    have hs := HG1.out.setRow [.int .i64 0, .int .i64 0] rfl
    have hB := set_below HB1.out HWG.out [.int .i64 0, .int .i64 0]
    have y0 : ((w1.setCell ⟨g, 0, none⟩ (.int .i64 0)).setCell ⟨g, 1, none⟩ (.int .i64 0)).cell? ⟨g, 0, none⟩ = some (.int .i64 0) := hs.c 0 _ rfl
    have y1 : ((w1.setCell ⟨g, 0, none⟩ (.int .i64 0)).setCell ⟨g, 1, none⟩ (.int .i64 0)).cell? ⟨g, 1, none⟩ = some (.int .i64 0) := hs.c 1 _ rfl
    (try simp only [Exit.inBlock, Exit.then])
    refine bodyPost_ret (by simp [results, Tryd.results15, go_sem, y0, y1]; try rfl) rfl ?_
    have hEE : (1 : Int) = tmE false il vs V 1 := by unfold tmE; rw [if_pos (.inl rfl)]
    rw [← hEE]
    exact ⟨_, _, _, rfl, ⟨fun _ => ⟨rfl, rfl, rfl⟩, fun h => absurd h (by decide)⟩, hB⟩
  · obtain ⟨w5, rb, a1, c1, a2, c2, ob, rfl, hb5, hrb, hR, hS, hI2, hI3, hb51⟩ := hres (by first | rfl | trivial)
    have HB05 := Lib.hid hb5
    have HRB := Lib.hid hrb
    have HI2 := Lib.hid hI2
    have HI3 := Lib.hid hI3
    have HB15 := Lib.hid (HB0.out.trans (hb5.mono HB0.out.size))
    have HG5 := Lib.hid (HG0.out.keep hb5)
    obtain ⟨W2, l, hW2, hl, RL, B2, sz2⟩ := box1 w1 #[.int .i64 0, .int .i64 0] 26
    have HL2 := Lib.hid RL
    have HR2 := Lib.hid (show RowAt W2 rb [.string s, .slice a1 pl.length c1, .slice a2 il.length c2, .slice (some ⟨ob, 0, none⟩) 1 1, .int .i64 (2 : Int), .int .i64 1, .slice pa P pc, .slice (some ⟨w5.heap.size, 0, none⟩) 2 2] from hR.keep B2)
    have HS2 := Lib.hid (show RowAt W2 w5.heap.size (flat iL stt) from hS.keep B2)
    have HB52 := Lib.hid (hb51.trans (B2.mono hb51.size))
    have HLW := Lib.hid (show w5.heap.size < l ∧ rb ≠ l by have := hS.lt; have := hR.lt; omega)
    clear hb5 hrb hR hS hI2 hI3 hb51 RL B2 sz2 KR hres
    go_upto_region 5 with fail
    rw [← hW2]
    try rw [← hl]
    clear hW2 hl
    go_wp2_with fail
    by_cases hok : K0 = il.length
    · have HOK := Lib.hid hok
      clear hok
      cases V
      · go_loopw [14, 15] (fun sv nn wr => ∃ k : Nat, k ≤ 0 ∧ sv = .int .i64 ((svV F O stt k).2 : Int) ∧ nn = .int .i64 ((k : Int) + 1) ∧ Hid (RowAt wr l [.int .i64 (lastK ko k), .int .i64 (svV F O stt k).1] ∧ RowAt wr rb [.string s, .slice a1 pl.length c1, .slice a2 il.length c2, .slice (some ⟨ob, 0, none⟩) 1 1, .int .i64 (2 : Int), .int .i64 1, .slice pa P pc, .slice (some ⟨w5.heap.size, 0, none⟩) 2 2] ∧ RowAt wr w5.heap.size (flat iL (seqS F stt k)) ∧ Below w5.heap.size w5 wr)) (fun _ nn _ => (0 + 2 - intOf nn).toNat)
        case atStart => exact ⟨0, Nat.zero_le _, rfl, by first | rfl | (congr 1), Lib.hid ⟨HL2.out, HR2.out, HS2.out, HB52.out⟩⟩
        case round =>
          obtain ⟨k, hkN, rfl, rfl, hH⟩ := hrel
          have HL := Lib.hid hH.out.1
          have HR := Lib.hid hH.out.2.1
          have HS := Lib.hid hH.out.2.2.1
          have HB := Lib.hid hH.out.2.2.2
          clear hH
          obtain rfl : k = 0 := by omega
          obtain ⟨x, y, hsk⟩ : ∃ x y, seqS F stt 0 = [x, y] := HLEN.out (by first | rfl | trivial) 0
          have HSc := Lib.hid (show RowAt wr w5.heap.size [.int .i64 x, .int .i64 y] by have h := HS.out; rw [hsk] at h; exact h)
          have r_7 := HR.out.c 7 _ rfl
          have KC := Lib.hid (clone2_any w5.heap.size 0 2 x y wr (HSc.out.c 0 _ rfl) (HSc.out.c 1 _ rfl))
          go_wp2_with fail
          refine KC.out.mono ?_
          rintro e v1 ⟨b2, c9, rfl, hc, hge, hb⟩
          have HR1 := Lib.hid (HR.out.keep hb)
          have HL1 := Lib.hid (HL.out.keep hb)
          have HS1 := Lib.hid (HSc.out.keep hb)
          have HB1' := Lib.hid (HB.out.trans (hb.mono HB.out.size))
          have HC1 := Lib.hid hc
          have HNE := Lib.hid (show b2 ≠ w5.heap.size by have := HSc.out.lt; omega)
          have HNL := Lib.hid (show l ≠ b2 by have := HL.out.lt; omega)
          have lb2 := World.block_lt_of_cell? _ _ hc.1
          clear r_7 hc hge hb KC HR HSc HB
          have hbadv : ∃ v ∈ vs, fitsB v.k v.n K = false := by
            by_cases h : ∃ v ∈ vs, fitsB v.k v.n K = false
            · exact h
            · refine absurd (HV.out.2 (fun v hv => ?_)) (by decide)
              cases hf : fitsB v.k v.n K with
              | true => rfl
              | false => exact absurd ⟨v, hv, hf⟩ h
          have ks := step_type w5 rb s a1 pl.length c1 a2 c2 ob 1 2 2 pa P pc il K vs va vc 1 (by decide) (by decide) (by rw [← HKL.out]; exact HOK.out) h0 h10 HK.out hbadv HI2.out (HIN.out.keep HB15.out) v1 HB1'.out HR1.out
          rw [← HKL.out] at ks
          clear hbadv
          have KS := Lib.hid ks
          clear ks
          go_wp2_with fail
          refine KS.out.mono ?_
          rintro e v2 ⟨rfl, hb2⟩
          have HB2' := Lib.hid (HB1'.out.trans (hb2.mono HB1'.out.size))
          clear hb2
          obtain ⟨V3, t, hV3, ht, RT, B3, sz3⟩ := box1 v2 #[.int .i64 0, .int .i64 0] 26
          have HB3 := Lib.hid (HB2'.out.trans (B3.mono HB2'.out.size))
          have HG6 := Lib.hid (HG5.out.keep HB3.out)
          have HBW := Lib.hid (HB15.out.trans (HB3.out.mono HB15.out.size))
          clear RT B3 sz3
          go_upto_region 9 with fail
          rw [← hV3]
          try rw [← ht]
          clear hV3 ht
          have g_0 := HG6.out.c 0 _ rfl
          have g_1 := HG6.out.c 1 _ rfl
          have g_z := HG6.out.fz
          go_wp2_with fail
          have hs := HG6.out.setRow [.int .i64 0, .int .i64 0] rfl
          have hB := set_below HBW.out HWG.out [.int .i64 0, .int .i64 0]
          have y0 : ((V3.setCell ⟨g, 0, none⟩ (.int .i64 0)).setCell ⟨g, 1, none⟩ (.int .i64 0)).cell? ⟨g, 0, none⟩ = some (.int .i64 0) := hs.c 0 _ rfl
          have y1 : ((V3.setCell ⟨g, 0, none⟩ (.int .i64 0)).setCell ⟨g, 1, none⟩ (.int .i64 0)).cell? ⟨g, 1, none⟩ = some (.int .i64 0) := hs.c 1 _ rfl
          (try simp only [Exit.inBlock, Exit.then])
          refine bodyPost_ret (by simp [results, Tryd.results15, go_sem, y0, y1]; try rfl) rfl ?_
          have hEE : (11 : Int) = tmE true il vs false 1 := by unfold tmE; rw [if_neg (fun h => by rcases h with h | h | h; exact absurd h (by decide); exact absurd h (by decide); exact h (by rw [← HKL.out]; exact HOK.out)), if_pos rfl]
          rw [← hEE]
          exact ⟨_, _, _, rfl, ⟨fun _ => ⟨rfl, rfl, rfl⟩, fun h => absurd h (by decide)⟩, hB⟩
      · have hN1 := HN.out
        go_loopw [14, 15] (fun sv nn wr => ∃ k : Nat, k ≤ (N - 1) ∧ sv = .int .i64 ((svV F O stt k).2 : Int) ∧ nn = .int .i64 ((k : Int) + 1) ∧ Hid (RowAt wr l [.int .i64 (lastK ko k), .int .i64 (svV F O stt k).1] ∧ RowAt wr rb [.string s, .slice a1 pl.length c1, .slice a2 il.length c2, .slice (some ⟨ob, 0, none⟩) 1 1, .int .i64 (2 : Int), .int .i64 1, .slice pa P pc, .slice (some ⟨w5.heap.size, 0, none⟩) 2 2] ∧ RowAt wr w5.heap.size (flat iL (seqS F stt k)) ∧ Below w5.heap.size w5 wr)) (fun _ nn _ => ((N - 1) + 2 - intOf nn).toNat)
        case atStart => exact ⟨0, Nat.zero_le _, rfl, by first | rfl | (congr 1), Lib.hid ⟨HL2.out, HR2.out, HS2.out, HB52.out⟩⟩
        case round =>
          obtain ⟨k, hkN, rfl, rfl, hH⟩ := hrel
          have HL := Lib.hid hH.out.1
          have HR := Lib.hid hH.out.2.1
          have HS := Lib.hid hH.out.2.2.1
          have HB := Lib.hid hH.out.2.2.2
          clear hH
          have hkN2 : k < N := by have := HN.out; omega
          obtain ⟨x, y, hsk⟩ : ∃ x y, seqS F stt k = [x, y] := HLEN.out (by first | rfl | trivial) k
          obtain ⟨x', y', hsk2⟩ : ∃ x' y', seqS F stt (k + 1) = [x', y'] := HLEN.out (by first | rfl | trivial) (k + 1)
          obtain ⟨o, ho⟩ : ∃ o, o = O (seqS F stt k) := ⟨_, rfl⟩
          have HSK := Lib.hid hsk
          have HSK2 := Lib.hid hsk2
          have HO := Lib.hid ho
          have HSc := Lib.hid (show RowAt wr w5.heap.size [.int .i64 x, .int .i64 y] by have h := HS.out; rw [hsk] at h; exact h)
          have r_7 := HR.out.c 7 _ rfl
          have KC := Lib.hid (clone2_any w5.heap.size 0 2 x y wr (HSc.out.c 0 _ rfl) (HSc.out.c 1 _ rfl))
          go_wp2_with fail
          refine KC.out.mono ?_
          rintro e v1 ⟨b2, c9, rfl, hc, hge, hb⟩
          have HR1 := Lib.hid (HR.out.keep hb)
          have HL1 := Lib.hid (HL.out.keep hb)
          have HS1 := Lib.hid (HSc.out.keep hb)
          have HB1' := Lib.hid (HB.out.trans (hb.mono HB.out.size))
          have HC1 := Lib.hid hc
          have HNE := Lib.hid (show b2 ≠ w5.heap.size by have := HSc.out.lt; omega)
          have HNL := Lib.hid (show l ≠ b2 by have := HL.out.lt; omega)
          have lb2 := World.block_lt_of_cell? _ _ hc.1
          clear r_7 hc hge hb KC HR HSc HB
          have ks := step_any w5 rb s ro a1 pl.length c1 a2 c2 ob 1 2 2 pa P pc il K ko vs va vc 1 (flat iL (seqS F stt k)) (flat iL (seqS F stt (k + 1))) (O (seqS F stt k)) HRB.out (by decide) (by decide) (by rw [← HKL.out]; exact HOK.out) h0 h10 HK.out (HV.out.1 (by first | rfl | trivial)) HKO.out HI2.out HI3.out (HIN.out.keep HB15.out) (HEV.out (by first | rfl | trivial) (by first | rfl | trivial) (by rw [← HKL.out]; exact HOK.out) k w5 rb a1 c1 a2 c2 ob HRB.out HB15.out) v1 HB1'.out HR1.out (by rw [hsk]; exact HS1.out)
          rw [← HKL.out, ← ho, hsk2] at ks
          have KS := Lib.hid ks
          clear ks hsk hsk2 ho
          go_wp2_with fail
          refine KS.out.mono ?_
          rintro e v2 ⟨rfl, hS, hgr⟩
          have HR2' := Lib.hid (row_grown HR1.out hgr (by intro e; injection e with e; have := HRB.out; omega))
          have HL2' := Lib.hid (row_grown HL1.out hgr (by intro e; injection e with e; have := HLW.out.1; omega))
          have HS2' := Lib.hid (show RowAt v2 w5.heap.size [.int .i64 x', .int .i64 y'] from hS)
          have HB2' := Lib.hid (HB1'.out.grown hgr HB1'.out.size (fun q e => by injection e with e; omega))
          have HC2 := Lib.hid (And.intro ((World.cell?_of_block (a := ⟨b2, 0, none⟩) (hgr.block b2 lb2 (by intro e; injection e with e; exact HNE.out e))).trans HC1.out.1) ((World.cell?_of_block (a := ⟨b2, 1, none⟩) (hgr.block b2 lb2 (by intro e; injection e with e; exact HNE.out e))).trans HC1.out.2))
          clear hS hgr KS HR1 HL1 HS1 HB1' HC1 lb2
          obtain ⟨V3, t, hV3, ht, RT, B3, sz3⟩ := box1 v2 #[.int .i64 ko, .int .i64 o] 26
          have HT3 := Lib.hid RT
          have HR3 := Lib.hid (HR2'.out.keep B3)
          have HL3 := Lib.hid (HL2'.out.keep B3)
          have HS3 := Lib.hid (HS2'.out.keep B3)
          have HB3 := Lib.hid (HB2'.out.trans (B3.mono HB2'.out.size))
          have HC3 := Lib.hid (And.intro (cellB HC2.out.1 B3) (cellB HC2.out.2 B3))
          clear RT B3 sz3 HR2' HL2' HS2' HB2' HC2
          go_upto_region 9 with fail
          rw [← hV3]
          try rw [← ht]
          clear hV3 ht
          obtain ⟨lk, hlk⟩ : ∃ z, z = lastK ko k := ⟨_, rfl⟩
          obtain ⟨ln, hln⟩ : ∃ z, z = (svV F O stt k).1 := ⟨_, rfl⟩
          rw [← hlk, ← hln] at HL3
          have HLK := Lib.hid hlk
          have HLN := Lib.hid hln
          clear hlk hln
          have t_0 := HT3.out.c 0 _ rfl
          have t_1 := HT3.out.c 1 _ rfl
          have l_0 := HL3.out.c 0 _ rfl
          have l_1 := HL3.out.c 1 _ rfl
          have l_z := HL3.out.fz
          have r_7 := HR3.out.c 7 _ rfl
          by_cases hch0 : ko = lk ∧ o = ln
          · obtain ⟨rfl, rfl⟩ := hch0
            have hk0 : k ≠ 0 := by
              intro h
              have h2 := HLK.out
              rw [h] at h2
              exact HKN.out h2
            have HSV := Lib.hid (show svV F O stt (k + 1) = svV F O stt k by
              show (if k = 0 ∨ O (seqS F stt k) ≠ (svV F O stt k).1 then _ else _) = _
              rw [if_neg]
              intro h
              rcases h with h | h
              · exact hk0 h
              · exact h (by rw [← HO.out, ← HLN.out]))
            have HK0 := Lib.hid hk0
            clear hk0
            go_upto_region 13 with fail
            clear t_0 t_1 l_0 l_1 l_z
            have HL4 := HL3
            have HR4 := HR3
            have HS4 := HS3
            have HB4 := HB3
            have HC4 := HC3
            have KE := Lib.hid (equal2_any w5.heap.size 0 2 b2 c9 x' y' x y V3 (HS4.out.c 0 _ rfl) (HS4.out.c 1 _ rfl) HC4.out.1 HC4.out.2)
            obtain ⟨EB, hEB⟩ : ∃ z, z = decide (x' = x ∧ y' = y) := ⟨_, rfl⟩
            rw [← hEB] at KE
            have HEB := Lib.hid hEB
            clear hEB
            go_wp2_with fail
            refine KE.out.mono ?_
            rintro e v5 ⟨rfl, hb⟩
            have HL5 := Lib.hid (HL4.out.keep hb)
            have HR5 := Lib.hid (HR4.out.keep hb)
            have HS5 := Lib.hid (HS4.out.keep hb)
            have HB5 := Lib.hid (HB4.out.trans (hb.mono HB4.out.size))
            clear r_7 hb
            cases EB
            · have hkk : k + 1 < N := by
                rcases Nat.lt_or_ge (k + 1) N with h | h
                · exact h
                · exfalso
                  obtain rfl : N = k + 1 := by omega
                  have h2 := HFIX.out
                  rw [Nat.add_sub_cancel, HSK2.out, HSK.out] at h2
                  have h3 : x' = x ∧ y' = y := by simpa using h2
                  have h4 := HEB.out
                  rw [decide_eq_true h3] at h4
                  cases h4
              go_wp2_with fail
              go_roundw
              case rel => exact ⟨k + 1, by omega, by rw [HSV.out], by go_num, Lib.hid ⟨(by rw [HSV.out, ← HLN.out, show lastK ko (k + 1) = ko from if_neg (by omega)]; exact HL5.out), HR5.out, by rw [HSK2.out]; exact HS5.out, HB5.out⟩⟩
              case measure => (simp [intOf]) <;> omega
            · have hkk : N = k + 1 := by
                rcases Nat.lt_or_ge (k + 1) N with h | h
                · exfalso
                  refine HNE2.out k h ?_
                  rw [HSK2.out, HSK.out]
                  have h3 := of_decide_eq_true HEB.out.symm
                  rw [h3.1, h3.2]
                · omega
              have HG6 := Lib.hid (HG5.out.keep HB5.out)
              have HFS := Lib.hid (show svV F O stt N = (o, (svV F O stt k).2) by rw [hkk]; rw [HSV.out]; exact Prod.ext HLN.out.symm rfl)
              have HKK := Lib.hid hkk
              clear hkk
              have g_0 := HG6.out.c 0 _ rfl
              have g_1 := HG6.out.c 1 _ rfl
              have g_z := HG6.out.fz
              have l_0 := HL5.out.c 0 _ rfl
              have l_1 := HL5.out.c 1 _ rfl
              go_wp2_with fail
              have hs := HG6.out.setRow [.int .i64 ko, .int .i64 o] rfl
              have y0 : ((v5.setCell ⟨g, 0, none⟩ (.int .i64 ko)).setCell ⟨g, 1, none⟩ (.int .i64 o)).cell? ⟨g, 0, none⟩ = some (.int .i64 ko) := hs.c 0 _ rfl
              have y1 : ((v5.setCell ⟨g, 0, none⟩ (.int .i64 ko)).setCell ⟨g, 1, none⟩ (.int .i64 o)).cell? ⟨g, 1, none⟩ = some (.int .i64 o) := hs.c 1 _ rfl
              (try simp only [Exit.inBlock, Exit.then])
              refine bodyPost_ret (by simp [results, Tryd.results15, go_sem, y0, y1]; try rfl) rfl ?_
              have hEE : (0 : Int) = tmE true il vs true 1 := by unfold tmE; rw [if_neg (fun h => by rcases h with h | h | h; exact absurd h (by decide); exact absurd h (by decide); exact h (by rw [← HKL.out]; exact HOK.out)), if_neg (by decide)]
              rw [← hEE, HFS.out]
              exact ⟨_, _, _, rfl, ⟨fun h => absurd rfl h, fun _ => ⟨rfl, rfl, rfl⟩⟩, set_below (HB15.out.trans (HB5.out.mono HB15.out.size)) HWG.out [.int .i64 ko, .int .i64 o]⟩
          · have HSV := Lib.hid (show svV F O stt (k + 1) = (o, k + 1) by
              show (if k = 0 ∨ O (seqS F stt k) ≠ (svV F O stt k).1 then _ else _) = _
              rw [if_pos, HO.out]
              by_cases h0 : k = 0
              · exact .inl h0
              · refine .inr (fun h => hch0 ⟨?_, ?_⟩)
                · rw [HLK.out]; exact (if_neg h0).symm
                · rw [HO.out, HLN.out]; exact h)
            have HCH := Lib.hid hch0
            clear hch0
            by_cases hkl : ko = lk
            · subst hkl
              have hon : ¬ o = ln := fun h => HCH.out ⟨rfl, h⟩
              have bon : (o == ln) = false := beq_eq_false_iff_ne.2 hon
              go_upto_region 13 with fail
              obtain ⟨V4, hV4⟩ : ∃ v, v = V3.setCells l 0 [.int .i64 ko, .int .i64 o] := ⟨_, rfl⟩
              have HL4 := Lib.hid (show RowAt V4 l [.int .i64 ko, .int .i64 o] by rw [hV4]; exact HL3.out.setRow [.int .i64 ko, .int .i64 o] rfl)
              have HR4 := Lib.hid (show RowAt V4 rb [.string s, .slice a1 pl.length c1, .slice a2 il.length c2, .slice (some ⟨ob, 0, none⟩) 1 1, .int .i64 (2 : Int), .int .i64 1, .slice pa P pc, .slice (some ⟨w5.heap.size, 0, none⟩) 2 2] by rw [hV4]; exact HR3.out.other (by have := HLW.out.2; omega) [.int .i64 ko, .int .i64 o])
              have HS4 := Lib.hid (show RowAt V4 w5.heap.size [.int .i64 x', .int .i64 y'] by rw [hV4]; exact HS3.out.other (by have := HLW.out.1; omega) [.int .i64 ko, .int .i64 o])
              have HB4 := Lib.hid (show Below w5.heap.size w5 V4 by rw [hV4]; exact set_below HB3.out (by have := HLW.out.1; omega) [.int .i64 ko, .int .i64 o])
              have HC4 := Lib.hid (show V4.cell? ⟨b2, 0, none⟩ = some (.int .i64 x) ∧ V4.cell? ⟨b2, 1, none⟩ = some (.int .i64 y) by rw [hV4]; exact ⟨(cell_setCells_other HNL.out _ 0 _ 0).trans HC3.out.1, (cell_setCells_other HNL.out _ 0 _ 1).trans HC3.out.2⟩)
              have hch : ((V3.setCell ⟨l, 0, none⟩ (.int .i64 ko)).setCell ⟨l, 1, none⟩ (.int .i64 o)) = V4 := hV4.symm
              (try simp only [hch])
              (try rw [hch])
              clear hV4 hch t_0 t_1 l_0 l_1 l_z r_7
              have r_7 := HR4.out.c 7 _ rfl
              have KE := Lib.hid (equal2_any w5.heap.size 0 2 b2 c9 x' y' x y V4 (HS4.out.c 0 _ rfl) (HS4.out.c 1 _ rfl) HC4.out.1 HC4.out.2)
              obtain ⟨EB, hEB⟩ : ∃ z, z = decide (x' = x ∧ y' = y) := ⟨_, rfl⟩
              rw [← hEB] at KE
              have HEB := Lib.hid hEB
              clear hEB
              go_wp2_with fail
              refine KE.out.mono ?_
              rintro e v5 ⟨rfl, hb⟩
              have HL5 := Lib.hid (HL4.out.keep hb)
              have HR5 := Lib.hid (HR4.out.keep hb)
              have HS5 := Lib.hid (HS4.out.keep hb)
              have HB5 := Lib.hid (HB4.out.trans (hb.mono HB4.out.size))
              clear r_7 hb
              cases EB
              · have hkk : k + 1 < N := by
                  rcases Nat.lt_or_ge (k + 1) N with h | h
                  · exact h
                  · exfalso
                    obtain rfl : N = k + 1 := by omega
                    have h2 := HFIX.out
                    rw [Nat.add_sub_cancel, HSK2.out, HSK.out] at h2
                    have h3 : x' = x ∧ y' = y := by simpa using h2
                    have h4 := HEB.out
                    rw [decide_eq_true h3] at h4
                    cases h4
                go_wp2_with fail
                go_roundw
                case rel => exact ⟨k + 1, by omega, by rw [HSV.out]; rfl, by go_num, Lib.hid ⟨(by rw [HSV.out, show lastK ko (k + 1) = ko from if_neg (by omega)]; exact HL5.out), HR5.out, by rw [HSK2.out]; exact HS5.out, HB5.out⟩⟩
                case measure => (simp [intOf]) <;> omega
              · have hkk : N = k + 1 := by
                  rcases Nat.lt_or_ge (k + 1) N with h | h
                  · exfalso
                    refine HNE2.out k h ?_
                    rw [HSK2.out, HSK.out]
                    have h3 := of_decide_eq_true HEB.out.symm
                    rw [h3.1, h3.2]
                  · omega
                have HG6 := Lib.hid (HG5.out.keep HB5.out)
                have HFS := Lib.hid (show svV F O stt N = (o, k + 1) by rw [hkk]; exact HSV.out)
                have HKK := Lib.hid hkk
                clear hkk
                have g_0 := HG6.out.c 0 _ rfl
                have g_1 := HG6.out.c 1 _ rfl
                have g_z := HG6.out.fz
                have l_0 := HL5.out.c 0 _ rfl
                have l_1 := HL5.out.c 1 _ rfl
                go_wp2_with fail
                have hs := HG6.out.setRow [.int .i64 ko, .int .i64 o] rfl
                have y0 : ((v5.setCell ⟨g, 0, none⟩ (.int .i64 ko)).setCell ⟨g, 1, none⟩ (.int .i64 o)).cell? ⟨g, 0, none⟩ = some (.int .i64 ko) := hs.c 0 _ rfl
                have y1 : ((v5.setCell ⟨g, 0, none⟩ (.int .i64 ko)).setCell ⟨g, 1, none⟩ (.int .i64 o)).cell? ⟨g, 1, none⟩ = some (.int .i64 o) := hs.c 1 _ rfl
                (try simp only [Exit.inBlock, Exit.then])
                refine bodyPost_ret (by simp [results, Tryd.results15, go_sem, y0, y1]; try rfl) rfl ?_
                have hEE : (0 : Int) = tmE true il vs true 1 := by unfold tmE; rw [if_neg (fun h => by rcases h with h | h | h; exact absurd h (by decide); exact absurd h (by decide); exact h (by rw [← HKL.out]; exact HOK.out)), if_neg (by decide)]
                rw [← hEE, HFS.out]
                exact ⟨_, _, _, rfl, ⟨fun h => absurd rfl h, fun _ => ⟨rfl, rfl, rfl⟩⟩, set_below (HB15.out.trans (HB5.out.mono HB15.out.size)) HWG.out [.int .i64 ko, .int .i64 o]⟩
            · have bkl : (ko == lk) = false := beq_eq_false_iff_ne.2 hkl
              go_upto_region 13 with fail
              obtain ⟨V4, hV4⟩ : ∃ v, v = V3.setCells l 0 [.int .i64 ko, .int .i64 o] := ⟨_, rfl⟩
              have HL4 := Lib.hid (show RowAt V4 l [.int .i64 ko, .int .i64 o] by rw [hV4]; exact HL3.out.setRow [.int .i64 ko, .int .i64 o] rfl)
              have HR4 := Lib.hid (show RowAt V4 rb [.string s, .slice a1 pl.length c1, .slice a2 il.length c2, .slice (some ⟨ob, 0, none⟩) 1 1, .int .i64 (2 : Int), .int .i64 1, .slice pa P pc, .slice (some ⟨w5.heap.size, 0, none⟩) 2 2] by rw [hV4]; exact HR3.out.other (by have := HLW.out.2; omega) [.int .i64 ko, .int .i64 o])
              have HS4 := Lib.hid (show RowAt V4 w5.heap.size [.int .i64 x', .int .i64 y'] by rw [hV4]; exact HS3.out.other (by have := HLW.out.1; omega) [.int .i64 ko, .int .i64 o])
              have HB4 := Lib.hid (show Below w5.heap.size w5 V4 by rw [hV4]; exact set_below HB3.out (by have := HLW.out.1; omega) [.int .i64 ko, .int .i64 o])
              have HC4 := Lib.hid (show V4.cell? ⟨b2, 0, none⟩ = some (.int .i64 x) ∧ V4.cell? ⟨b2, 1, none⟩ = some (.int .i64 y) by rw [hV4]; exact ⟨(cell_setCells_other HNL.out _ 0 _ 0).trans HC3.out.1, (cell_setCells_other HNL.out _ 0 _ 1).trans HC3.out.2⟩)
              have hch : ((V3.setCell ⟨l, 0, none⟩ (.int .i64 ko)).setCell ⟨l, 1, none⟩ (.int .i64 o)) = V4 := hV4.symm
              (try simp only [hch])
              (try rw [hch])
              clear hV4 hch t_0 t_1 l_0 l_1 l_z r_7
              have r_7 := HR4.out.c 7 _ rfl
              have KE := Lib.hid (equal2_any w5.heap.size 0 2 b2 c9 x' y' x y V4 (HS4.out.c 0 _ rfl) (HS4.out.c 1 _ rfl) HC4.out.1 HC4.out.2)
              obtain ⟨EB, hEB⟩ : ∃ z, z = decide (x' = x ∧ y' = y) := ⟨_, rfl⟩
              rw [← hEB] at KE
              have HEB := Lib.hid hEB
              clear hEB
              go_wp2_with fail
              refine KE.out.mono ?_
              rintro e v5 ⟨rfl, hb⟩
              have HL5 := Lib.hid (HL4.out.keep hb)
              have HR5 := Lib.hid (HR4.out.keep hb)
              have HS5 := Lib.hid (HS4.out.keep hb)
              have HB5 := Lib.hid (HB4.out.trans (hb.mono HB4.out.size))
              clear r_7 hb
              cases EB
              · have hkk : k + 1 < N := by
                  rcases Nat.lt_or_ge (k + 1) N with h | h
                  · exact h
                  · exfalso
                    obtain rfl : N = k + 1 := by omega
                    have h2 := HFIX.out
                    rw [Nat.add_sub_cancel, HSK2.out, HSK.out] at h2
                    have h3 : x' = x ∧ y' = y := by simpa using h2
                    have h4 := HEB.out
                    rw [decide_eq_true h3] at h4
                    cases h4
                go_wp2_with fail
                go_roundw
                case rel => exact ⟨k + 1, by omega, by rw [HSV.out]; rfl, by go_num, Lib.hid ⟨(by rw [HSV.out, show lastK ko (k + 1) = ko from if_neg (by omega)]; exact HL5.out), HR5.out, by rw [HSK2.out]; exact HS5.out, HB5.out⟩⟩
                case measure => (simp [intOf]) <;> omega
              · have hkk : N = k + 1 := by
                  rcases Nat.lt_or_ge (k + 1) N with h | h
                  · exfalso
                    refine HNE2.out k h ?_
                    rw [HSK2.out, HSK.out]
                    have h3 := of_decide_eq_true HEB.out.symm
                    rw [h3.1, h3.2]
                  · omega
                have HG6 := Lib.hid (HG5.out.keep HB5.out)
                have HFS := Lib.hid (show svV F O stt N = (o, k + 1) by rw [hkk]; exact HSV.out)
                have HKK := Lib.hid hkk
                clear hkk
                have g_0 := HG6.out.c 0 _ rfl
                have g_1 := HG6.out.c 1 _ rfl
                have g_z := HG6.out.fz
                have l_0 := HL5.out.c 0 _ rfl
                have l_1 := HL5.out.c 1 _ rfl
                go_wp2_with fail
                have hs := HG6.out.setRow [.int .i64 ko, .int .i64 o] rfl
                have y0 : ((v5.setCell ⟨g, 0, none⟩ (.int .i64 ko)).setCell ⟨g, 1, none⟩ (.int .i64 o)).cell? ⟨g, 0, none⟩ = some (.int .i64 ko) := hs.c 0 _ rfl
                have y1 : ((v5.setCell ⟨g, 0, none⟩ (.int .i64 ko)).setCell ⟨g, 1, none⟩ (.int .i64 o)).cell? ⟨g, 1, none⟩ = some (.int .i64 o) := hs.c 1 _ rfl
                (try simp only [Exit.inBlock, Exit.then])
                refine bodyPost_ret (by simp [results, Tryd.results15, go_sem, y0, y1]; try rfl) rfl ?_
                have hEE : (0 : Int) = tmE true il vs true 1 := by unfold tmE; rw [if_neg (fun h => by rcases h with h | h | h; exact absurd h (by decide); exact absurd h (by decide); exact h (by rw [← HKL.out]; exact HOK.out)), if_neg (by decide)]
                rw [← hEE, HFS.out]
                exact ⟨_, _, _, rfl, ⟨fun h => absurd rfl h, fun _ => ⟨rfl, rfl, rfl⟩⟩, set_below (HB15.out.trans (HB5.out.mono HB15.out.size)) HWG.out [.int .i64 ko, .int .i64 o]⟩
    · have HOK := Lib.hid hok
      go_loopw [14, 15] (fun sv nn wr => ∃ k : Nat, k ≤ 0 ∧ sv = .int .i64 ((svV F O stt k).2 : Int) ∧ nn = .int .i64 ((k : Int) + 1) ∧ Hid (RowAt wr l [.int .i64 (lastK ko k), .int .i64 (svV F O stt k).1] ∧ RowAt wr rb [.string s, .slice a1 pl.length c1, .slice a2 il.length c2, .slice (some ⟨ob, 0, none⟩) 1 1, .int .i64 (2 : Int), .int .i64 1, .slice pa P pc, .slice (some ⟨w5.heap.size, 0, none⟩) 2 2] ∧ RowAt wr w5.heap.size (flat iL (seqS F stt k)) ∧ Below w5.heap.size w5 wr)) (fun _ nn _ => (0 + 2 - intOf nn).toNat)
      case atStart => exact ⟨0, Nat.zero_le _, rfl, by first | rfl | (congr 1), Lib.hid ⟨HL2.out, HR2.out, HS2.out, HB52.out⟩⟩
      case round =>
        obtain ⟨k, hkN, rfl, rfl, hH⟩ := hrel
        have HL := Lib.hid hH.out.1
        have HR := Lib.hid hH.out.2.1
        have HS := Lib.hid hH.out.2.2.1
        have HB := Lib.hid hH.out.2.2.2
        clear hH
        obtain rfl : k = 0 := by omega
        obtain ⟨x, y, hsk⟩ : ∃ x y, seqS F stt 0 = [x, y] := HLEN.out (by first | rfl | trivial) 0
        have HSc := Lib.hid (show RowAt wr w5.heap.size [.int .i64 x, .int .i64 y] by have h := HS.out; rw [hsk] at h; exact h)
        have r_7 := HR.out.c 7 _ rfl
        have KC := Lib.hid (clone2_any w5.heap.size 0 2 x y wr (HSc.out.c 0 _ rfl) (HSc.out.c 1 _ rfl))
        go_wp2_with fail
        refine KC.out.mono ?_
        rintro e v1 ⟨b2, c9, rfl, hc, hge, hb⟩
        have HR1 := Lib.hid (HR.out.keep hb)
        have HL1 := Lib.hid (HL.out.keep hb)
        have HS1 := Lib.hid (HSc.out.keep hb)
        have HB1' := Lib.hid (HB.out.trans (hb.mono HB.out.size))
        have HC1 := Lib.hid hc
        have HNE := Lib.hid (show b2 ≠ w5.heap.size by have := HSc.out.lt; omega)
        have HNL := Lib.hid (show l ≠ b2 by have := HL.out.lt; omega)
        have lb2 := World.block_lt_of_cell? _ _ hc.1
        clear r_7 hc hge hb KC HR HSc HB
        have ks := step_bad w5 rb s a1 pl.length c1 a2 c2 ob 1 2 2 pa P pc il K0 va vc 1 k63 v1 HR1.out (.inr (.inr HOK.out))
        have KS := Lib.hid ks
        clear ks
        go_wp2_with fail
        refine KS.out.mono ?_
        rintro e v2 ⟨rfl, hb2⟩
        have HB2' := Lib.hid (HB1'.out.trans (hb2.mono HB1'.out.size))
        clear hb2
        obtain ⟨V3, t, hV3, ht, RT, B3, sz3⟩ := box1 v2 #[.int .i64 0, .int .i64 0] 26
        have HB3 := Lib.hid (HB2'.out.trans (B3.mono HB2'.out.size))
        have HG6 := Lib.hid (HG5.out.keep HB3.out)
        have HBW := Lib.hid (HB15.out.trans (HB3.out.mono HB15.out.size))
        clear RT B3 sz3
        go_upto_region 9 with fail
        rw [← hV3]
        try rw [← ht]
        clear hV3 ht
        have g_0 := HG6.out.c 0 _ rfl
        have g_1 := HG6.out.c 1 _ rfl
        have g_z := HG6.out.fz
        go_wp2_with fail
        have hs := HG6.out.setRow [.int .i64 0, .int .i64 0] rfl
        have hB := set_below HBW.out HWG.out [.int .i64 0, .int .i64 0]
        have y0 : ((V3.setCell ⟨g, 0, none⟩ (.int .i64 0)).setCell ⟨g, 1, none⟩ (.int .i64 0)).cell? ⟨g, 0, none⟩ = some (.int .i64 0) := hs.c 0 _ rfl
        have y1 : ((V3.setCell ⟨g, 0, none⟩ (.int .i64 0)).setCell ⟨g, 1, none⟩ (.int .i64 0)).cell? ⟨g, 1, none⟩ = some (.int .i64 0) := hs.c 1 _ rfl
        (try simp only [Exit.inBlock, Exit.then])
        refine bodyPost_ret (by simp [results, Tryd.results15, go_sem, y0, y1]; try rfl) rfl ?_
        have hEE : (1 : Int) = tmE true il vs V 1 := by unfold tmE; rw [if_pos (.inr (.inr (fun h => HOK.out (by rw [HKL.out, h]))))]
        rw [← hEE]
        exact ⟨_, _, _, rfl, ⟨fun _ => ⟨rfl, rfl, rfl⟩, fun h => absurd h (by decide)⟩, hB⟩
end Go.Proofs.YtmhfkdnblemfdaaDoor
