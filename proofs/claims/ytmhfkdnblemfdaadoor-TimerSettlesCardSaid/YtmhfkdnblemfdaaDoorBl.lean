/- Contract of timer.begin at a block of the layer. -/
import Derived.Test.YtmhfkdnblemfdaaDoorBk
namespace Go.Proofs.YtmhfkdnblemfdaaDoor
open Go.RowKit Go.Shelf

abbrev C6 (g : Nat) (v0 v1 v2 v3 v4 v5 : Value) (w' : World) : Prop := w'.cell? ⟨g, 0, none⟩ = some v0 ∧ w'.cell? ⟨g, 1, none⟩ = some v1 ∧ w'.cell? ⟨g, 2, none⟩ = some v2 ∧ w'.cell? ⟨g, 3, none⟩ = some v3 ∧ w'.cell? ⟨g, 4, none⟩ = some v4 ∧ w'.cell? ⟨g, 5, none⟩ = some v5
theorem c6_of {W w' : World} {g : Nat} {v0 v1 v2 v3 v4 v5 : Value} (h : RowAt W g [v0, v1, v2, v3, v4, v5]) (hb : Below W.heap.size W w') : C6 g v0 v1 v2 v3 v4 v5 w' :=
  ⟨(h.keep hb).c 0 _ rfl, (h.keep hb).c 1 _ rfl, (h.keep hb).c 2 _ rfl, (h.keep hb).c 3 _ rfl, (h.keep hb).c 4 _ rfl, (h.keep hb).c 5 _ rfl⟩
/-- a relay newly made: its block, its state's block, its descriptor -/
def RelayOk (w0 : World) (s ro : ByteArray) (rm : Int) (st : Nat) (pl : List BndD) (il : List PortD) (pa : Option Addr) (P pc : Nat) (R : Value) (w' : World) : Prop :=
  ∃ (w5 : World) (rb : Nat) (a1 : Option Addr) (c1 : Nat) (a2 : Option Addr) (c2 ob : Nat), R = .pointer (some ⟨rb, 0, none⟩) ∧ Below w0.heap.size w0 w5 ∧ w5.heap.size < rb ∧
    RowAt w' rb [.string s, .slice a1 pl.length c1, .slice a2 il.length c2, .slice (some ⟨ob, 0, none⟩) 1 1, .int .i64 (st : Int), .int .i64 rm, .slice pa P pc, .slice (some ⟨w5.heap.size, 0, none⟩) st st] ∧
    RowAt w' w5.heap.size (List.replicate st (.int .i64 0)) ∧ InS w5 a1 pl.length 4 (flat bndL pl) ∧ InS w5 a2 il.length 2 (flat portL il) ∧
    InS w5 (some ⟨ob, 0, none⟩) 1 2 [.string ⟨#[111, 117, 116]⟩, .string ro] ∧ Below w5.heap.size w5 w' ∧ w'.heap[w5.heap.size]? = some (.cells (List.replicate st (.int .i64 0)).toArray 2 (0, 0))
theorem mk_1 (w : World) : (Instr.makeSlice 22 (.int .i64 1) (.int .i64 1)).run Tryd.prog w = .ok (.slice (some ⟨w.heap.size, 0, none⟩) 1 1) (w.alloc (Obj.cells #[.int .i64 0] 2)) := by
  obtain ⟨i0, hif, hz0, hz1, hz2⟩ := info_parts infoI64
  have h := run_makeSlice (P := Tryd.prog) w 22 2 i0 (.int .i64 0) Tryd.underlying22 hif hz0 .i64 .i64 1 1 (by decide) (by decide) (by rw [hz1]; decide) (by rw [hz2]; decide) (by decide)
  rw [hz1, show madeCells (Value.int .i64 0).cells (Int.toNat 1 * 1) = #[.int .i64 0] by kernel_rfl] at h
  exact h
theorem mk_2 (w : World) : (Instr.makeSlice 22 (.int .i64 2) (.int .i64 2)).run Tryd.prog w = .ok (.slice (some ⟨w.heap.size, 0, none⟩) 2 2) (w.alloc (Obj.cells #[.int .i64 0, .int .i64 0] 2)) := by
  obtain ⟨i0, hif, hz0, hz1, hz2⟩ := info_parts infoI64
  have h := run_makeSlice (P := Tryd.prog) w 22 2 i0 (.int .i64 0) Tryd.underlying22 hif hz0 .i64 .i64 2 2 (by decide) (by decide) (by rw [hz1]; decide) (by rw [hz2]; decide) (by decide)
  rw [hz1, show madeCells (Value.int .i64 0).cells (Int.toNat 2 * 1) = #[.int .i64 0, .int .i64 0] by kernel_rfl] at h
  exact h
set_option maxHeartbeats 8000000 in
set_option maxRecDepth 100000 in
theorem begin_any (s ro : ByteArray) (rm : Int) (st : Nat) (hst : st = 1 ∨ st = 2) (pl : List BndD) (il : List PortD) (ag : List Int → Bool) (hn : (timerNames.any fun x => eqS x s) = true) (HF : FindOk s ro rm (st : Int) pl il) (HA : AgreeOk s pl ag) (pa : Option Addr) (pc : Nat) (ps : List Int) (p20 : pl.length ≤ 100) (hwf : ∀ v ∈ ps, (Lit.int .i64 v).wf = true) (psz : ∀ x ∈ pl, x.nm.size ≤ maxLen) (w : World) (hm : MaxAt w) (hq : InS w pa ps.length 1 (flat iL ps)) :
    Calls Tryd.prog 29 #[.string s, .slice pa ps.length pc] w fun e w' => ∃ R, e = .returned (.tuple #[R, .int .i64 (if (decide (ps.length = pl.length) && decide (prmE pl (zipP pl ps) ag = 0)) = true then 0 else 1)]) ∧ ((decide (ps.length = pl.length) && decide (prmE pl (zipP pl ps) ag = 0)) = true → RelayOk w s ro rm st pl il pa ps.length pc R w') ∧ Below w.heap.size w w' := by
  have KN := Lib.hid (names_any w)
  have HNN := Lib.hid hn
  have KF := Lib.hid HF
  have KA := Lib.hid HA
  have HMX := Lib.hid hm
  have HWF := Lib.hid hwf
  have PSZ := Lib.hid psz
  have HP20 := Lib.hid p20
  have HQ := Lib.hid hq
  have HST := Lib.hid hst
  obtain ⟨M, hM⟩ : ∃ M, M = ps.length := ⟨_, rfl⟩
  have HM := Lib.hid hM
  rw [← hM]
  obtain ⟨VB, hV⟩ : ∃ z, z = (decide (M = pl.length) && decide (prmE pl (zipP pl ps) ag = 0)) := ⟨_, rfl⟩
  rw [← hV]
  have HV := Lib.hid (show VB = (decide (ps.length = pl.length) && decide (prmE pl (zipP pl ps) ag = 0)) by rw [hV, hM])
  clear hn HF HA hm hwf psz p20 hq hst hM hV
  go_enter Tryd.func29, Tryd.ntmps29
  go_wp2_with fail
  refine KN.out.mono ?_
  rintro e w1 ⟨a, c, rfl, hI, hb⟩
  have HB1 := Lib.hid hb
  have kc : Calls Tryd.prog 39 #[.slice a 8 c, .string s] w1 fun e w' => e = .returned (.bool true) ∧ Below w1.heap.size w1 w' := by
    have h := contains_any s a c timerNames w1 hI
    rw [HNN.out] at h
    exact h
  have KC := Lib.hid kc
  clear hb hI kc
  go_wp2_with fail
  refine KC.out.mono ?_
  rintro e w2 ⟨rfl, hb⟩
  have HB2 := Lib.hid (HB1.out.trans (hb.mono HB1.out.size))
  clear hb
  go_wp2_with fail
  refine (KF.out w2 (HMX.out.keep HB2.out)).mono ?_
  rintro e w3 ⟨D, rfl, ⟨v1, v2, ob, rfl, p1, p2, p3, p4⟩, hb⟩
  obtain ⟨a1, c1, rfl, i1⟩ := ins_own p1
  obtain ⟨a2, c2, rfl, i2⟩ := ins_own p2
  obtain ⟨a3, c3, e3, i3⟩ := ins_own p3
  obtain ⟨rfl, rfl⟩ : a3 = some ⟨ob, 0, none⟩ ∧ c3 = 1 := by injection e3 with h1 _ h2; exact ⟨h1.symm, h2.symm⟩
  obtain ⟨N, hN⟩ : ∃ n, n = pl.length := ⟨_, rfl⟩
  obtain ⟨n2, hn2⟩ : ∃ n, n = il.length := ⟨_, rfl⟩
  have HN := Lib.hid hN
  have HN2 := Lib.hid hn2
  rw [← hN, ← hn2]
  obtain ⟨W4, g, hW4, hg, RG, B4, sz4⟩ := box1 w3 #[.string s, .slice a1 N c1, .slice a2 n2 c2, .slice (some ⟨ob, 0, none⟩) 1 1, .int .i64 (st : Int), .int .i64 rm] 56
  have HG4 := Lib.hid RG
  have HB3 := Lib.hid (HB2.out.trans (hb.mono HB2.out.size))
  have HB4 := Lib.hid (HB3.out.trans (B4.mono HB3.out.size))
  have I1 := Lib.hid (i1.keep B4)
  have I2 := Lib.hid (i2.keep B4)
  have I3 := Lib.hid (i3.keep B4)
  have kv := valid_any s ro rm (st : Int) pl il ag KF.out KA.out a1 c1 a2 n2 c2 ob pa pc ps HP20.out HWF.out PSZ.out W4 (HMX.out.keep HB4.out) I1.out (HQ.out.keep HB4.out)
  rw [← HV.out, ← hN, ← HM.out] at kv
  have KV := Lib.hid kv
  clear p1 p2 p3 p4 i1 i2 i3 e3 hb RG B4 sz4 kv hN hn2
  go_upto_region 4 with fail
  rw [← hW4]
  try rw [← hg]
  clear hW4 hg
  have g_0 := HG4.out.c 0 _ rfl
  have g_1 := HG4.out.c 1 _ rfl
  have g_2 := HG4.out.c 2 _ rfl
  have g_3 := HG4.out.c 3 _ rfl
  have g_4 := HG4.out.c 4 _ rfl
  have g_5 := HG4.out.c 5 _ rfl
  go_wp2_with fail
  refine KV.out.mono ?_
  rintro e w5 ⟨rfl, hb⟩
  have HG5 := Lib.hid (HG4.out.keep hb)
  have HB5 := Lib.hid (HB4.out.trans (hb.mono HB4.out.size))
  have J1 := Lib.hid (I1.out.keep hb)
  have J2 := Lib.hid (I2.out.keep hb)
  have J3 := Lib.hid (I3.out.keep hb)
  clear hb g_0 g_1 g_2 g_3 g_4 g_5
  have HVV := Lib.hid HV.out
  cases VB
  · go_wp2_with fail
    go_ret2
    first
      | exact ⟨_, rfl, fun h => by simp at h, HB5.out⟩
      | exact ⟨_, rfl, HB5.out⟩
      | exact ⟨⟨_, rfl⟩, HB5.out⟩
  · go_upto_region 6 with fail
    have g_0 := HG5.out.c 0 _ rfl
    have g_1 := HG5.out.c 1 _ rfl
    have g_2 := HG5.out.c 2 _ rfl
    have g_3 := HG5.out.c 3 _ rfl
    have g_4 := HG5.out.c 4 _ rfl
    have g_5 := HG5.out.c 5 _ rfl
    have hmk1 := mk_1
    have hmk2 := mk_2
    have hs := HST.out
    clear HST
    rcases hs with rfl | rfl
    · go_region_held3 (fun w' => w'.cell? ⟨g, 0, none⟩ = some (.string s) ∧ w'.cell? ⟨g, 1, none⟩ = some (.slice a1 N c1) ∧ w'.cell? ⟨g, 2, none⟩ = some (.slice a2 n2 c2) ∧ w'.cell? ⟨g, 3, none⟩ = some (.slice (some ⟨ob, 0, none⟩) 1 1) ∧ w'.cell? ⟨g, 4, none⟩ = some (.int .i64 ((1 : Nat) : Int)) ∧ w'.cell? ⟨g, 5, none⟩ = some (.int .i64 rm))
        (first | (exact c6_of HG5.out (by repeat (first | exact Below.refl _ _ | apply below_al | apply below_dr))) | assumption | go_keep)
        (first | (fail))
      rename_i hHeld
      clear hHeld g_0 g_1 g_2 g_3 g_4 g_5
      obtain ⟨W, b, b1, hW, rfl, rfl, R1, R2, BB, sz⟩ := box2 w5 #[.int .i64 0] 2 #[.string s, .slice a1 N c1, .slice a2 n2 c2, .slice (some ⟨ob, 0, none⟩) 1 1, .int .i64 1, .int .i64 rm, .slice pa M pc, .slice (some ⟨w5.heap.size, 0, none⟩) 1 1] 58
      have hR : RelayOk w s ro rm 1 pl il pa M pc (.pointer (some ⟨w5.heap.size + 1, 0, none⟩)) W.drew := by
        have k1 := R1.keep (below_dr (Below.refl _ _))
        have k2 := R2.keep (below_dr (Below.refl _ _))
        have k3 := below_dr BB
        rw [HN.out, HN2.out] at k2
        exact ⟨w5, w5.heap.size + 1, a1, c1, a2, c2, ob, rfl, HB5.out, by omega, k2, k1, J1.out, J2.out, J3.out, k3, by rw [hW]; exact (((Below.refl (w5.alloc _).heap.size (w5.alloc _)).alloc (Nat.le_refl _) _).drew.block w5.heap.size (by rw [World.size_alloc]; omega)).trans (heap_alloc_new w5 _)⟩
      have HRR := Lib.hid hR
      have HBB := Lib.hid (HB5.out.trans ((below_dr BB).mono HB5.out.size))
      rw [← hW]
      clear hW hR R1 R2 BB sz
      (try simp only [Exit.then])
      go_wp2_with fail
      go_ret2
      first
        | exact ⟨_, rfl, fun _ => HRR.out, HBB.out⟩
        | exact ⟨_, rfl, HRR.out, HBB.out⟩
    · go_region_held3 (fun w' => w'.cell? ⟨g, 0, none⟩ = some (.string s) ∧ w'.cell? ⟨g, 1, none⟩ = some (.slice a1 N c1) ∧ w'.cell? ⟨g, 2, none⟩ = some (.slice a2 n2 c2) ∧ w'.cell? ⟨g, 3, none⟩ = some (.slice (some ⟨ob, 0, none⟩) 1 1) ∧ w'.cell? ⟨g, 4, none⟩ = some (.int .i64 ((2 : Nat) : Int)) ∧ w'.cell? ⟨g, 5, none⟩ = some (.int .i64 rm))
        (first | (exact c6_of HG5.out (by repeat (first | exact Below.refl _ _ | apply below_al | apply below_dr))) | assumption | go_keep)
        (first | (fail))
      rename_i hHeld
      clear hHeld g_0 g_1 g_2 g_3 g_4 g_5
      obtain ⟨W, b, b1, hW, rfl, rfl, R1, R2, BB, sz⟩ := box2 w5 #[.int .i64 0, .int .i64 0] 2 #[.string s, .slice a1 N c1, .slice a2 n2 c2, .slice (some ⟨ob, 0, none⟩) 1 1, .int .i64 2, .int .i64 rm, .slice pa M pc, .slice (some ⟨w5.heap.size, 0, none⟩) 2 2] 58
      have hR : RelayOk w s ro rm 2 pl il pa M pc (.pointer (some ⟨w5.heap.size + 1, 0, none⟩)) W.drew := by
        have k1 := R1.keep (below_dr (Below.refl _ _))
        have k2 := R2.keep (below_dr (Below.refl _ _))
        have k3 := below_dr BB
        rw [HN.out, HN2.out] at k2
        exact ⟨w5, w5.heap.size + 1, a1, c1, a2, c2, ob, rfl, HB5.out, by omega, k2, k1, J1.out, J2.out, J3.out, k3, by rw [hW]; exact (((Below.refl (w5.alloc _).heap.size (w5.alloc _)).alloc (Nat.le_refl _) _).drew.block w5.heap.size (by rw [World.size_alloc]; omega)).trans (heap_alloc_new w5 _)⟩
      have HRR := Lib.hid hR
      have HBB := Lib.hid (HB5.out.trans ((below_dr BB).mono HB5.out.size))
      rw [← hW]
      clear hW hR R1 R2 BB sz
      (try simp only [Exit.then])
      go_wp2_with fail
      go_ret2
      first
        | exact ⟨_, rfl, fun _ => HRR.out, HBB.out⟩
        | exact ⟨_, rfl, HRR.out, HBB.out⟩
end Go.Proofs.YtmhfkdnblemfdaaDoor
