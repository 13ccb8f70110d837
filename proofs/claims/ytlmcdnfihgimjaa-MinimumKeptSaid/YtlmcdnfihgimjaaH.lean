/- The contract of Breaks where nothing breaks. -/
import Derived.Test.YtlmcdnfihgimjaaG
namespace Go.Proofs.Ytlmcdnfihgimjaa
open Go.RowKit Go.Deep

abbrev TS (wr : World) (b o q s : Nat) (xk xn xc yk yn yc : Int) (w' : World) : Prop := w'.cell? ⟨b, o + q * 3, none⟩ = some (.int .i64 xk) ∧ w'.cell? ⟨b, o + q * 3 + 1, none⟩ = some (.int .i64 xn) ∧ w'.cell? ⟨b, o + q * 3 + 2, none⟩ = some (.int .i64 xc) ∧ w'.cell? ⟨b, o + s * 3, none⟩ = some (.int .i64 yk) ∧ w'.cell? ⟨b, o + s * 3 + 1, none⟩ = some (.int .i64 yn) ∧ w'.cell? ⟨b, o + s * 3 + 2, none⟩ = some (.int .i64 yc) ∧ Below wr.heap.size wr w'
theorem ts_of {wr w' : World} {b o q s : Nat} {xk xn xc yk yn yc : Int} (c : TS wr b o q s xk xn xc yk yn yc wr) (hb : Below wr.heap.size wr w') : TS wr b o q s xk xn xc yk yn yc w' := by
  obtain ⟨s0, s1, s2, s3, s4, s5, _⟩ := c
  have hq : b < wr.heap.size := World.block_lt_of_cell? _ _ s0
  exact ⟨(hb.cell (p := ⟨b, o + q * 3, none⟩) hq).trans s0, (hb.cell (p := ⟨b, o + q * 3 + 1, none⟩) hq).trans s1, (hb.cell (p := ⟨b, o + q * 3 + 2, none⟩) hq).trans s2, (hb.cell (p := ⟨b, o + s * 3, none⟩) hq).trans s3, (hb.cell (p := ⟨b, o + s * 3 + 1, none⟩) hq).trans s4, (hb.cell (p := ⟨b, o + s * 3 + 2, none⟩) hq).trans s5, hb⟩
theorem ts_bel {wr w' : World} {b o q s : Nat} {xk xn xc yk yn yc : Int} (c : TS wr b o q s xk xn xc yk yn yc w') : Below wr.heap.size wr w' := c.2.2.2.2.2.2
theorem ts_alloc {wr w1 : World} {b o q s : Nat} {xk xn xc yk yn yc : Int} (c : TS wr b o q s xk xn xc yk yn yc wr) (x : Obj) (t : TS wr b o q s xk xn xc yk yn yc w1) : TS wr b o q s xk xn xc yk yn yc (w1.alloc x) := ts_of c ((ts_bel t).alloc (ts_bel t).size x)
theorem ts_drew {wr w1 : World} {b o q s : Nat} {xk xn xc yk yn yc : Int} (c : TS wr b o q s xk xn xc yk yn yc wr) (t : TS wr b o q s xk xn xc yk yn yc w1) : TS wr b o q s xk xn xc yk yn yc w1.drew := ts_of c (ts_bel t).drew
abbrev US (wc : World) (m l : Nat) (xk xn xc yk yn yc : Int) (w' : World) : Prop := w'.cell? ⟨m, 0, none⟩ = some (.int .i64 xk) ∧ w'.cell? ⟨m, 1, none⟩ = some (.int .i64 xn) ∧ w'.cell? ⟨m, 2, none⟩ = some (.int .i64 xc) ∧ w'.cell? ⟨l, 0, none⟩ = some (.int .i64 yk) ∧ w'.cell? ⟨l, 1, none⟩ = some (.int .i64 yn) ∧ w'.cell? ⟨l, 2, none⟩ = some (.int .i64 yc) ∧ Below wc.heap.size wc w'
theorem us_of {wc w' : World} {m l : Nat} {xk xn xc yk yn yc : Int} (c : US wc m l xk xn xc yk yn yc wc) (hb : Below wc.heap.size wc w') : US wc m l xk xn xc yk yn yc w' := by
  obtain ⟨s0, s1, s2, s3, s4, s5, _⟩ := c
  have hq : m < wc.heap.size := World.block_lt_of_cell? _ _ s0
  have hr : l < wc.heap.size := World.block_lt_of_cell? _ _ s3
  exact ⟨(hb.cell (p := ⟨m, 0, none⟩) hq).trans s0, (hb.cell (p := ⟨m, 1, none⟩) hq).trans s1, (hb.cell (p := ⟨m, 2, none⟩) hq).trans s2, (hb.cell (p := ⟨l, 0, none⟩) hr).trans s3, (hb.cell (p := ⟨l, 1, none⟩) hr).trans s4, (hb.cell (p := ⟨l, 2, none⟩) hr).trans s5, hb⟩
theorem us_bel {wc w' : World} {m l : Nat} {xk xn xc yk yn yc : Int} (c : US wc m l xk xn xc yk yn yc w') : Below wc.heap.size wc w' := c.2.2.2.2.2.2
theorem us_keep {wc w1 w2 : World} {m l : Nat} {xk xn xc yk yn yc : Int} (c : US wc m l xk xn xc yk yn yc wc) (hb : Below w1.heap.size w1 w2) (s : US wc m l xk xn xc yk yn yc w1) : US wc m l xk xn xc yk yn yc w2 := us_of c ((us_bel s).trans (hb.mono (us_bel s).size))
def keepsB (p : Pt) (x y : DrD) : Prop := (x.k = y.k ∧ x.n = y.n) ∨ ¬ IntKind.i64.wrap (y.c - x.c) < timeP p x.k x.n
theorem two_drew (w : World) (A1 A2 : Array Value) (t : TypeId) : RowAt ((w.alloc (Obj.cells A1 t)).alloc (Obj.cells A2 t)).drew w.heap.size A1.toList ∧ RowAt ((w.alloc (Obj.cells A1 t)).alloc (Obj.cells A2 t)).drew (w.heap.size + 1) A2.toList ∧ Below w.heap.size w ((w.alloc (Obj.cells A1 t)).alloc (Obj.cells A2 t)).drew := by
  obtain ⟨W, b, b1, rfl, rfl, rfl, h4, h5, h6, _⟩ := box2 w A1 t A2 t
  exact ⟨h4.drew, h5.drew, h6.drew⟩

set_option maxHeartbeats 4000000 in
set_option maxRecDepth 100000 in
theorem breaks_any (p : Pt) (a : Option Addr) (cap : Nat) (ds : List DrD) (w : World) (h61 : ds.length ≤ 61) (hin : InS w a ds.length 3 (flat drL ds)) (hno : ∀ i x y, ds[i]? = some x → ds[i + 1]? = some y → keepsB p x y) : Calls Try.prog 16 #[ptV p, .slice a ds.length cap] w fun e w' => e = .returned (.int .i64 (-1)) ∧ Below w.heap.size w w' := by
  obtain ⟨nm, kd, rl, un, lo, hi, st, ss, dk, dn, on, off⟩ := p
  obtain ⟨N, hN⟩ : ∃ N, N = ds.length := ⟨_, rfl⟩
  rw [← hN]
  have HN := Lib.hid hN
  have HI := Lib.hid hin
  have HNO := Lib.hid hno
  have HT := Lib.hid (fun w => times_any ⟨nm, kd, rl, un, lo, hi, st, ss, dk, dn, on, off⟩ w)
  have HU := Lib.hid (fun k n b w h => times1_any ⟨nm, kd, rl, un, lo, hi, st, ss, dk, dn, on, off⟩ k n b w h)
  have H61 := Lib.hid h61
  obtain ⟨W, g, hW, hg, RP, B, sz⟩ := box1 w #[nm, .int .i64 kd, .int .i64 rl, un, lo, hi, st, ss, dk, dn, .int .i64 on, .int .i64 off] 26
  have HB0 := Lib.hid B
  have p0 := RP.c 0 _ rfl
  have p1 := RP.c 1 _ rfl
  have p2 := RP.c 2 _ rfl
  have p3 := RP.c 3 _ rfl
  have p4 := RP.c 4 _ rfl
  have p5 := RP.c 5 _ rfl
  have p6 := RP.c 6 _ rfl
  have p7 := RP.c 7 _ rfl
  have p8 := RP.c 8 _ rfl
  have p9 := RP.c 9 _ rfl
  have p10 := RP.c 10 _ rfl
  have p11 := RP.c 11 _ rfl
  rw [hW] at p0 p1 p2 p3 p4 p5 p6 p7 p8 p9 p10 p11
  clear hN hin hno h61 RP B sz
  go_enter Try.func16, Try.ntmps16
  go_wp2_with fail
  rw [← hW]
  clear hW
  refine (HT.out _).mono ?_
  rintro e w1 ⟨c, rfl, hC, hb⟩
  have HC0 := Lib.hid hC
  have HB1 := Lib.hid (HB0.out.trans (hb.mono HB0.out.size))
  clear hC hb HB0 hg
  clear p0 p1 p2 p3 p4 p5 p6 p7 p8 p9 p10 p11
  go_wp2_with fail
  go_loopw [6] (fun i wr => ∃ s : Nat, 1 ≤ s ∧ (s ≤ N ∨ s = 1) ∧ i = .int .i64 s ∧ Hid (RowAt wr c (ptL ⟨nm, kd, rl, un, lo, hi, st, ss, dk, dn, on, off⟩) ∧ Below w.heap.size w wr)) (fun i _ => N - (intOf i).toNat)
  case atStart => exact ⟨1, by omega, .inr rfl, rfl, Lib.hid ⟨HC0.out, HB1.out⟩⟩
  case round =>
    obtain ⟨s, hs1, hs2, rfl, hH⟩ := hrel
    by_cases hlt : s < N
    · obtain ⟨q, rfl⟩ : ∃ q, s = q + 1 := ⟨s - 1, by omega⟩
      have hqx : q < ds.length := by rw [← HN.out]; omega
      have hsx : q + 1 < ds.length := by rw [← HN.out]; exact hlt
      obtain ⟨b, o, rfl, hbl, hcell⟩ := (HI.out.keep hH.out.2).at drL_len (by omega)
      obtain ⟨x, hx⟩ : ∃ x, ds[q]? = some x := ⟨_, List.getElem?_eq_getElem hqx⟩
      obtain ⟨y, hy⟩ : ∃ x, ds[q + 1]? = some x := ⟨_, List.getElem?_eq_getElem hsx⟩
      have hkeep := HNO.out q x y hx hy
      obtain ⟨xk, xn, xc⟩ := x
      obtain ⟨yk, yn, yc⟩ := y
      have q0 := hcell q _ hx 0 _ rfl
      have q1 := hcell q _ hx 1 _ rfl
      have q2 := hcell q _ hx 2 _ rfl
      have r0 := hcell (q + 1) _ hy 0 _ rfl
      have r1 := hcell (q + 1) _ hy 1 _ rfl
      have r2 := hcell (q + 1) _ hy 2 _ rfl
      rw [Nat.add_zero] at q0 r0
      obtain ⟨s, hs⟩ : ∃ s, s = q + 1 := ⟨_, rfl⟩
      rw [← hs] at r0 r1 r2 hlt ⊢
      have h61 := H61.out
      rw [← HN.out] at h61
      have k1 : (0 : Int) ≤ (s : Int) := by omega
      have k2 : (s : Int) < (N : Int) := by omega
      have k4 : (0 : Int) ≤ (q : Int) := by omega
      have k5 : (q : Int) < (N : Int) := by omega
      have kw : IntKind.i64.wrap ((s : Int) - 1) = (q : Int) := by rw [IntWalk.i64_in _ ⟨by omega, by omega⟩]; omega
      have HKP := Lib.hid hkeep
      have HR0 := Lib.hid hH.out.1
      have HB0 := Lib.hid hH.out.2
      have HQ0 := Lib.hid (show TS wr b o q s xk xn xc yk yn yc wr from ⟨q0, q1, q2, r0, r1, r2, Below.refl _ _⟩)
      have HQ1 := Lib.hid (ts_drew HQ0.out HQ0.out)
      have HSQ := Lib.hid hs
      have HK6 := Lib.hid h61
      clear hx hy hcell hqx hsx hkeep hs hH hs2 hs1 h61 hbl HNO HC0 HB1
      go_wp2_with fail
      go_cut [7, 8] from 11 to 43 (fun p e wx => ∃ m l : Nat, p = .pointer (some ⟨m, 0, none⟩) ∧ e = .pointer (some ⟨l, 0, none⟩) ∧ RowAt wx m [.int .i64 xk, .int .i64 xn, .int .i64 xc] ∧ RowAt wx l [.int .i64 yk, .int .i64 yn, .int .i64 yc] ∧ Below wr.heap.size wr wx)
      case first =>
        go_region_held3 (fun w' => w'.cell? ⟨b, o + q * 3, none⟩ = some (.int .i64 xk) ∧ w'.cell? ⟨b, o + q * 3 + 1, none⟩ = some (.int .i64 xn) ∧ w'.cell? ⟨b, o + q * 3 + 2, none⟩ = some (.int .i64 xc) ∧ w'.cell? ⟨b, o + s * 3, none⟩ = some (.int .i64 yk) ∧ w'.cell? ⟨b, o + s * 3 + 1, none⟩ = some (.int .i64 yn) ∧ w'.cell? ⟨b, o + s * 3 + 2, none⟩ = some (.int .i64 yc) ∧ Below wr.heap.size wr w') (first | (with_reducible exact HQ0.out) | (with_reducible exact HQ1.out) | (with_reducible exact ts_alloc HQ0.out _ (by assumption)) | (with_reducible exact ts_alloc HQ0.out _ HQ1.out) | (with_reducible exact ts_alloc HQ0.out _ HQ0.out) | (with_reducible exact ts_alloc HQ0.out _ (ts_alloc HQ0.out _ HQ0.out)) | (with_reducible exact ts_drew HQ0.out (ts_alloc HQ0.out _ HQ0.out)) | (with_reducible exact ts_drew HQ0.out (ts_alloc HQ0.out _ (ts_alloc HQ0.out _ HQ0.out))) | go_keep) ((fail))
        all_goals
          rename_i hHeld
          clear hHeld
          go_wp2_with fail
          go_meet
          first
            | (obtain ⟨z1, z2, z3⟩ := two_drew wr #[.int .i64 xk, .int .i64 xn, .int .i64 xc] #[.int .i64 yk, .int .i64 yn, .int .i64 yc] 28; exact ⟨_, _, rfl, rfl, z1, z2, z3⟩)
            | (obtain ⟨z1, z2, z3⟩ := two_drew wr #[.int .i64 yk, .int .i64 yn, .int .i64 yc] #[.int .i64 xk, .int .i64 xn, .int .i64 xc] 28; exact ⟨_, _, rfl, rfl, z2, z1, z3⟩)
      case rest =>
        obtain ⟨m, l, rfl, rfl, hM, hL, hK⟩ := hcut
        have HR2 := Lib.hid (HR0.out.keep hK)
        have HB2 := Lib.hid (HB0.out.trans (hK.mono HB0.out.size))
        have HM := Lib.hid hM
        have HL := Lib.hid hL
        clear hM hL hK q0 q1 q2 r0 r1 r2 HQ0 HQ1 HR0 HB0
        have m0 := HM.out.c 0 _ rfl
        have m1 := HM.out.c 1 _ rfl
        have m2 := HM.out.c 2 _ rfl
        have l0 := HL.out.c 0 _ rfl
        have l1 := HL.out.c 1 _ rfl
        have l2 := HL.out.c 2 _ rfl
        by_cases hv : xk = yk ∧ xn = yn
        · obtain ⟨rfl, rfl⟩ := hv
          have k3 : N ≤ 61 := HK6.out
          go_wp2_with fail
          go_quiet (fail)
          go_wp2_with fail
          have hsq := HSQ.out
          go_roundw
          case rel => exact ⟨s + 1, by omega, .inl (by omega), by go_num, Lib.hid ⟨HR2.out.keep (bdrewN (Below.refl _ _) _), bdrewN HB2.out _⟩⟩
          case measure => simp [intOf]; omega
        · have hkp : ¬ IntKind.i64.wrap (yc - xc) < timeP ⟨nm, kd, rl, un, lo, hi, st, ss, dk, dn, on, off⟩ xk xn := by
            rcases HKP.out with h | h
            · exact absurd h hv
            · exact h
          obtain ⟨T, hT⟩ : ∃ T, T = timeP ⟨nm, kd, rl, un, lo, hi, st, ss, dk, dn, on, off⟩ xk xn := ⟨_, rfl⟩
          have hu := fun w h => HU.out xk xn c w h
          rw [← hT] at hu hkp
          have HU1 := Lib.hid hu
          have HUS := Lib.hid (show US wc m l xk xn xc yk yn yc wc from ⟨m0, m1, m2, l0, l1, l2, Below.refl _ _⟩)
          have HUD := Lib.hid (us_of HUS.out (Below.refl _ _).drew)
          have HRD := Lib.hid HR2.out.drew
          have hd : decide (IntKind.i64.wrap (yc - xc) < T) = false := decide_eq_false hkp
          clear hu hT hkp HU
          have hcase : (xk == yk) = false ∨ (xk = yk ∧ (xn == yn) = false) := by
            by_cases h1 : xk = yk
            · exact .inr ⟨h1, by rw [beq_eq_false_iff_ne]; exact fun h2 => hv ⟨h1, h2⟩⟩
            · exact .inl (by rw [beq_eq_false_iff_ne]; exact h1)
          clear hv
          rcases hcase with h1 | ⟨rfl, h1⟩
          · go_wp2_with fail
            go_region_held3 (fun w' => w'.cell? ⟨m, 0, none⟩ = some (.int .i64 xk) ∧ w'.cell? ⟨m, 1, none⟩ = some (.int .i64 xn) ∧ w'.cell? ⟨m, 2, none⟩ = some (.int .i64 xc) ∧ w'.cell? ⟨l, 0, none⟩ = some (.int .i64 yk) ∧ w'.cell? ⟨l, 1, none⟩ = some (.int .i64 yn) ∧ w'.cell? ⟨l, 2, none⟩ = some (.int .i64 yc) ∧ Below wc.heap.size wc w')
              (first | (with_reducible exact HUS.out) | (with_reducible exact HUD.out) | (with_reducible exact us_keep HUS.out hb2 (by assumption)) | (with_reducible exact us_keep HUS.out hb2 HUS.out) | (with_reducible exact us_keep HUS.out hb2 HUD.out) | go_keep)
              (first | (go_at_call 27; refine (HU1.out _ (by first | exact HRD.out | exact HR2.out)).mono ?_; rintro e x1 ⟨rfl, hb2⟩))
            rename_i hHeld
            have hU := us_bel hHeld
            have HB3 := Lib.hid (HB2.out.trans (hU.mono HB2.out.size))
            have HR3 := Lib.hid (HR2.out.keep hU)
            clear hHeld hU
            have k3 : N ≤ 61 := HK6.out
            go_wp2_with fail
            have hsq := HSQ.out
            go_roundw
            case rel => exact ⟨s + 1, by omega, .inl (by omega), by go_num, Lib.hid ⟨HR3.out, HB3.out⟩⟩
            case measure => simp [intOf]; omega
          · go_wp2_with fail
            go_region_held3 (fun w' => w'.cell? ⟨m, 0, none⟩ = some (.int .i64 xk) ∧ w'.cell? ⟨m, 1, none⟩ = some (.int .i64 xn) ∧ w'.cell? ⟨m, 2, none⟩ = some (.int .i64 xc) ∧ w'.cell? ⟨l, 0, none⟩ = some (.int .i64 xk) ∧ w'.cell? ⟨l, 1, none⟩ = some (.int .i64 yn) ∧ w'.cell? ⟨l, 2, none⟩ = some (.int .i64 yc) ∧ Below wc.heap.size wc w')
              (first | (with_reducible exact HUS.out) | (with_reducible exact HUD.out) | (with_reducible exact us_keep HUS.out hb2 (by assumption)) | (with_reducible exact us_keep HUS.out hb2 HUS.out) | (with_reducible exact us_keep HUS.out hb2 HUD.out) | go_keep)
              (first | (go_at_call 27; refine (HU1.out _ (by first | exact HRD.out | exact HR2.out)).mono ?_; rintro e x1 ⟨rfl, hb2⟩))
            rename_i hHeld
            have hU := us_bel hHeld
            have HB3 := Lib.hid (HB2.out.trans (hU.mono HB2.out.size))
            have HR3 := Lib.hid (HR2.out.keep hU)
            clear hHeld hU
            have k3 : N ≤ 61 := HK6.out
            go_wp2_with fail
            have hsq := HSQ.out
            go_roundw
            case rel => exact ⟨s + 1, by omega, .inl (by omega), by go_num, Lib.hid ⟨HR3.out, HB3.out⟩⟩
            case measure => simp [intOf]; omega
    · have hlt2 : decide ((s : Int) < (N : Int)) = false := by simp; omega
      go_wp2_with fail
      go_ret
      exact ⟨rfl, hH.out.2⟩
end Go.Proofs.Ytlmcdnfihgimjaa
