/- The contract of the specification's Area. -/
import Derived.Test.YthghcppdfeeloaaRf
namespace Go.Proofs.Ythghcppdfeeloaa
open Go.RowKit

/-- a number in two parts in memory of the call's own -/
structure TwoAt (w : World) (b : Nat) (h l : Int) : Prop where
  c0 : w.cell? ⟨b, 0, none⟩ = some (.int .i64 h)
  c1 : w.cell? ⟨b, 1, none⟩ = some (.int .i64 l)
  fz : ∀ o, w.frozen? ⟨b, o, none⟩ = false
theorem TwoAt.keep {w w' : World} {b : Nat} {h l : Int} (t : TwoAt w b h l) (hb : Below w.heap.size w w') : TwoAt w' b h l := by
  have hlt : b < w.heap.size := World.block_lt_of_cell? _ _ t.c0
  exact ⟨(hb.cell (p := ⟨b, 0, none⟩) hlt).trans t.c0, (hb.cell (p := ⟨b, 1, none⟩) hlt).trans t.c1, fun o => (hb.frozen (p := ⟨b, o, none⟩) hlt).trans (t.fz o)⟩
theorem TwoAt.set {w : World} {b : Nat} {h l : Int} (t : TwoAt w b h l) (h' l' : Int) : TwoAt ((w.setCell ⟨b, 0, none⟩ (.int .i64 h')).setCell ⟨b, 1, none⟩ (.int .i64 l')) b h' l' := by
  refine ⟨?_, ?_, fun o => by rw [World.frozen?_setCell, World.frozen?_setCell]; exact t.fz o⟩
  · rw [World.cell?_setCell_other _ _ _ _ (by simp)]; exact World.cell?_setCell_same _ _ _ t.c0
  · exact World.cell?_setCell_same _ _ _ (by rw [World.cell?_setCell_other _ _ _ _ (by simp)]; exact t.c1)
theorem TwoAt.other {w : World} {b g : Nat} {h l : Int} (t : TwoAt w b h l) (hne : g ≠ b) (h' l' : Value) : TwoAt ((w.setCell ⟨g, 0, none⟩ h').setCell ⟨g, 1, none⟩ l') b h l :=
  ⟨(World.cell?_setCell_other _ _ _ _ (fun e => hne (congrArg Addr.block e))).trans ((World.cell?_setCell_other _ _ _ _ (fun e => hne (congrArg Addr.block e))).trans t.c0),
   (World.cell?_setCell_other _ _ _ _ (fun e => hne (congrArg Addr.block e))).trans ((World.cell?_setCell_other _ _ _ _ (fun e => hne (congrArg Addr.block e))).trans t.c1),
   fun o => by rw [World.frozen?_setCell, World.frozen?_setCell]; exact t.fz o⟩
theorem two_fresh (w : World) (h l : Int) : TwoAt (w.alloc (Obj.cells #[.int .i64 h, .int .i64 l] 46)) w.heap.size h l := ⟨by simp, by simp, by simp⟩

set_option maxRecDepth 100000 in
set_option maxHeartbeats 8000000 in
theorem rarea_any (b off cap : Nat) (ks : List (Int × Int)) (w : World) (he : checkL ks = 0) (hb : b < w.heap.size) (hc : Knots w b off ks) :
    Calls Try.prog 28 #[.slice (some ⟨b, off, none⟩) ks.length cap] w fun e w' => e = .returned (twoW (areaI ks (ks.length - 1))) ∧ Below w.heap.size w w' := by
  obtain ⟨h0, h32, hfit, hrise⟩ := check_zero ks he
  have HC := Lib.hid hc
  have HF := Lib.hid fun i hi => fitb_at ks hfit i hi
  have HLt := Lib.hid fun i j h1 h2 => rise_lt ks hrise i j h1 h2
  have HAB := Lib.hid fun k hk => area_bound ks hfit k hk
  clear hc hfit hrise he
  obtain ⟨n, hn⟩ : ∃ n, n = ks.length := ⟨_, rfl⟩
  rw [← hn] at HF HAB HLt h0 h32 ⊢
  have HN := Lib.hid hn
  clear hn
  simp only [twoW]
  go_enter Try.func28, Try.ntmps28
  go_wp2_with fail
  have R0 := Lib.hid (two_fresh w 0 0)
  have B0 := Lib.hid ((Below.refl w.heap.size w).alloc (Nat.le_refl _) (Obj.cells #[.int .i64 0, .int .i64 0] 46))
  have hsz : (w.alloc (Obj.cells #[.int .i64 0, .int .i64 0] 46)).heap.size = w.heap.size + 1 := World.size_alloc _ _
  have S1 := Lib.hid (two_fresh (w.alloc (Obj.cells #[.int .i64 0, .int .i64 0] 46)) 0 0)
  rw [hsz] at S1
  have B1 := Lib.hid (B0.out.alloc B0.out.size (Obj.cells #[.int .i64 0, .int .i64 0] 46))
  have R1 := Lib.hid (R0.out.keep ((Below.refl _ _).alloc (Nat.le_refl _) (Obj.cells #[.int .i64 0, .int .i64 0] 46)))
  obtain ⟨S, hS⟩ : ∃ S, S = w.heap.size + 1 := ⟨_, rfl⟩
  obtain ⟨R, hR⟩ : ∃ R, R = w.heap.size := ⟨_, rfl⟩
  have hSR : S ≠ R := by omega
  have hSw : w.heap.size ≤ S := by omega
  have hRw : w.heap.size ≤ R := by omega
  have hSb : S ≠ b := by omega
  rw [← hS] at S1 ⊢
  have R2 : Hid (TwoAt ((w.alloc (Obj.cells #[.int .i64 0, .int .i64 0] 46)).alloc (Obj.cells #[.int .i64 0, .int .i64 0] 46)) R 0 0) := by rw [hR]; exact R1
  have HRw := Lib.hid hR
  generalize (w.alloc (Obj.cells #[.int .i64 0, .int .i64 0] 46)).alloc (Obj.cells #[.int .i64 0, .int .i64 0] 46) = w3 at S1 B1 R2 ⊢
  clear hS hR R0 B0 hsz R1
  go_loopw [4] (fun i wr => ∃ k : Nat, 1 ≤ k ∧ k ≤ n ∧ i = .int .i64 k ∧ TwoAt wr S (areaI ks (k - 1) / 1000000000000) (areaI ks (k - 1) % 1000000000000) ∧ TwoAt wr R 0 0 ∧ Below w.heap.size w wr) (fun i _ => n - (intOf i).toNat)
  case atStart => exact ⟨1, by omega, by omega, rfl, S1.out, R2.out, B1.out⟩
  case round =>
    obtain ⟨k, hk1, hk, rfl, hwd, hrd, hbel⟩ := hrel
    have HB := Lib.hid hbel
    have HWd := Lib.hid hwd
    have HRd := Lib.hid hrd
    clear hbel hwd hrd
    by_cases hlt : k < n
    · obtain ⟨p, hp⟩ : ∃ p, p = k - 1 := ⟨_, rfl⟩
      obtain ⟨d0, d1⟩ := HC.out.at hb HB.out p (by rw [← HN.out]; omega)
      obtain ⟨d2, d3⟩ := HC.out.at hb HB.out k (by rw [← HN.out]; omega)
      have f1 := HF.out p (by omega)
      have f2 := HF.out k (by omega)
      have f3 := HLt.out p k (by omega) (by omega)
      have a1 := HAB.out p (by omega)
      have a2 := HAB.out k (by omega)
      have hA : areaI ks k = areaI ks p + (kx ks k - kx ks p) * (ky ks p + ky ks k) := by
        obtain rfl : k = p + 1 := by omega
        rfl
      have HWe := HWd
      rw [← hp] at HWe
      obtain ⟨X0, hX0⟩ : ∃ X, X = kx ks p := ⟨_, rfl⟩
      obtain ⟨Y0, hY0⟩ : ∃ X, X = ky ks p := ⟨_, rfl⟩
      obtain ⟨X1, hX1⟩ : ∃ X, X = kx ks k := ⟨_, rfl⟩
      obtain ⟨Y1, hY1⟩ : ∃ X, X = ky ks k := ⟨_, rfl⟩
      rw [← hX0] at d0 f1 f3 hA
      rw [← hY0] at d1 f1 hA
      rw [← hX1] at d2 f2 f3 hA
      rw [← hY1] at d3 f2 hA
      clear hX0 hY0 hX1 hY1
      obtain ⟨D, hD⟩ : ∃ D, D = X1 - X0 := ⟨_, rfl⟩
      obtain ⟨E, hE⟩ : ∃ D, D = Y0 + Y1 := ⟨_, rfl⟩
      rw [← hD, ← hE] at hA
      have hps := prod_small D E (by omega) (by omega) (by omega) (by omega)
      have hPr := fun w => rproduct_any D E w (by omega) (by omega) (by omega) (by omega)
      have hAd := fun w => addwide_any (areaI ks p) (D * E) w (by omega) (by omega) (by omega) (by omega)
      rw [← hA] at hAd
      simp only [twoW] at hPr hAd
      obtain ⟨s0, hs0⟩ : ∃ t, t = areaI ks p / 1000000000000 := ⟨_, rfl⟩
      obtain ⟨s1, hs1⟩ : ∃ t, t = areaI ks p % 1000000000000 := ⟨_, rfl⟩
      obtain ⟨n0, hn0⟩ : ∃ t, t = areaI ks k / 1000000000000 := ⟨_, rfl⟩
      obtain ⟨n1, hn1⟩ : ∃ t, t = areaI ks k % 1000000000000 := ⟨_, rfl⟩
      obtain ⟨p0, hp0⟩ : ∃ t, t = D * E / 1000000000000 := ⟨_, rfl⟩
      obtain ⟨p1, hp1⟩ : ∃ t, t = D * E % 1000000000000 := ⟨_, rfl⟩
      rw [← hs0, ← hs1, ← hp0, ← hp1, ← hn0, ← hn1] at hAd
      rw [← hp0, ← hp1] at hPr
      rw [← hs0, ← hs1] at HWe
      have HPr := Lib.hid hPr
      have HAd := Lib.hid hAd
      have HNn := Lib.hid (And.intro hn0 hn1)
      have e1 : IntKind.i64.wrap (X1 - X0) = D := by rw [hD]; exact IntWalk.i64_in _ ⟨by omega, by omega⟩
      have e2 : IntKind.i64.wrap (Y0 + Y1) = E := by rw [hE]; exact IntWalk.i64_in _ ⟨by omega, by omega⟩
      have m5 : IntKind.i64.wrap ((k : Int) - 1) = (p : Int) := by
        have := wrap_small ((k : Int) - 1) (by omega) (by omega)
        omega
      have m0 : (0 : Int) ≤ (p : Int) := by omega
      have m1 : (p : Int) < (n : Int) := by omega
      have m2 : (0 : Int) ≤ (k : Int) := by omega
      have m3 : (k : Int) < (n : Int) := by omega
      have HSS := Lib.hid (show wr.cell? ⟨b, off + p * 2, none⟩ = some (.int .i64 X0) ∧ wr.cell? ⟨b, off + p * 2 + 1, none⟩ = some (.int .i64 Y0) ∧ wr.cell? ⟨b, off + k * 2, none⟩ = some (.int .i64 X1) ∧ wr.cell? ⟨b, off + k * 2 + 1, none⟩ = some (.int .i64 Y1) ∧ wr.heap.size ≤ wr.heap.size ∧ Below w.heap.size w wr from ⟨d0, d1, d2, d3, Nat.le_refl _, HB.out⟩)
      have HSS2 := Lib.hid (show wr.drew.cell? ⟨b, off + p * 2, none⟩ = some (.int .i64 X0) ∧ wr.drew.cell? ⟨b, off + p * 2 + 1, none⟩ = some (.int .i64 Y0) ∧ wr.drew.cell? ⟨b, off + k * 2, none⟩ = some (.int .i64 X1) ∧ wr.drew.cell? ⟨b, off + k * 2 + 1, none⟩ = some (.int .i64 Y1) ∧ wr.heap.size ≤ wr.drew.heap.size ∧ Below w.heap.size w wr.drew from ⟨d0, d1, d2, d3, Nat.le_refl _, HB.out.trans (below_drewN _ _ 1)⟩)
      have t0 := HWe.out.c0
      have t1 := HWe.out.c1
      have fz := HWe.out.fz
      have r0 := HRd.out.c0
      have r1 := HRd.out.c1
      have rz := HRd.out.fz
      have hS1 : S < wr.heap.size := World.block_lt_of_cell? _ _ t0
      have hR1 : R < wr.heap.size := World.block_lt_of_cell? _ _ r0
      have hb1 : b < wr.heap.size := Nat.lt_of_lt_of_le hb HB.out.size
      clear f1 f2 f3 hD hE a1 a2 hA hps hPr hAd hs0 hs1 hn0 hn1 hp0 hp1 hp HWe HWd HRd d0 d1 d2 d3
      go_wp2_with fail
      set_option warningAsError false in go_region_held3 (fun w' => w'.cell? ⟨b, off + p * 2, none⟩ = some (.int .i64 X0) ∧ w'.cell? ⟨b, off + p * 2 + 1, none⟩ = some (.int .i64 Y0) ∧ w'.cell? ⟨b, off + k * 2, none⟩ = some (.int .i64 X1) ∧ w'.cell? ⟨b, off + k * 2 + 1, none⟩ = some (.int .i64 Y1) ∧ wr.heap.size ≤ w'.heap.size ∧ Below w.heap.size w w')
        (first | exact HSS.out | exact HSS2.out | (have hh := ‹_ ∧ _ ∧ _ ∧ _ ∧ _ ≤ _ ∧ Below _ _ _›; exact ⟨(hb2.cell (p := ⟨b, off + p * 2, none⟩) (Nat.lt_of_lt_of_le hb1 hh.2.2.2.2.1)).trans hh.1, (hb2.cell (p := ⟨b, off + p * 2 + 1, none⟩) (Nat.lt_of_lt_of_le hb1 hh.2.2.2.2.1)).trans hh.2.1, (hb2.cell (p := ⟨b, off + k * 2, none⟩) (Nat.lt_of_lt_of_le hb1 hh.2.2.2.2.1)).trans hh.2.2.1, (hb2.cell (p := ⟨b, off + k * 2 + 1, none⟩) (Nat.lt_of_lt_of_le hb1 hh.2.2.2.2.1)).trans hh.2.2.2.1, Nat.le_trans hh.2.2.2.2.1 hb2.size, hh.2.2.2.2.2.trans (hb2.mono hh.2.2.2.2.2.size)⟩) | (have hh := ‹_ ∧ _ ∧ _ ∧ _ ∧ _ ≤ _ ∧ Below _ _ _›; exact ⟨((World.cell?_setCell_other _ _ _ _ (fun e => hSb (congrArg Addr.block e))).trans (World.cell?_setCell_other _ _ _ _ (fun e => hSb (congrArg Addr.block e)))).trans hh.1, ((World.cell?_setCell_other _ _ _ _ (fun e => hSb (congrArg Addr.block e))).trans (World.cell?_setCell_other _ _ _ _ (fun e => hSb (congrArg Addr.block e)))).trans hh.2.1, ((World.cell?_setCell_other _ _ _ _ (fun e => hSb (congrArg Addr.block e))).trans (World.cell?_setCell_other _ _ _ _ (fun e => hSb (congrArg Addr.block e)))).trans hh.2.2.1, ((World.cell?_setCell_other _ _ _ _ (fun e => hSb (congrArg Addr.block e))).trans (World.cell?_setCell_other _ _ _ _ (fun e => hSb (congrArg Addr.block e)))).trans hh.2.2.2.1, (by simpa using hh.2.2.2.2.1), (hh.2.2.2.2.2.setCell hSw _).setCell hSw _⟩) | go_keep)
        (first | (go_at_call 45; have hh := ‹_ ∧ _ ∧ _ ∧ _ ∧ _ ≤ _ ∧ Below _ _ _›; refine (HPr.out _).mono ?_; rintro e w2 ⟨rfl, hb2⟩; have t0 := (hb2.cell (p := ⟨S, 0, none⟩) (Nat.lt_of_lt_of_le hS1 hh.2.2.2.2.1)).trans t0; have t1 := (hb2.cell (p := ⟨S, 1, none⟩) (Nat.lt_of_lt_of_le hS1 hh.2.2.2.2.1)).trans t1; have fz := fun o => (hb2.frozen (p := ⟨S, o, none⟩) (Nat.lt_of_lt_of_le hS1 hh.2.2.2.2.1)).trans (fz o); have r0 := (hb2.cell (p := ⟨R, 0, none⟩) (Nat.lt_of_lt_of_le hR1 hh.2.2.2.2.1)).trans r0; have r1 := (hb2.cell (p := ⟨R, 1, none⟩) (Nat.lt_of_lt_of_le hR1 hh.2.2.2.2.1)).trans r1; have rz := fun o => (hb2.frozen (p := ⟨R, o, none⟩) (Nat.lt_of_lt_of_le hR1 hh.2.2.2.2.1)).trans (rz o)) | (go_at_call 44; have hh := ‹_ ∧ _ ∧ _ ∧ _ ∧ _ ≤ _ ∧ Below _ _ _›; refine (HAd.out _).mono ?_; rintro e w2 ⟨rfl, hb2⟩; have t0 := (hb2.cell (p := ⟨S, 0, none⟩) (Nat.lt_of_lt_of_le hS1 hh.2.2.2.2.1)).trans t0; have t1 := (hb2.cell (p := ⟨S, 1, none⟩) (Nat.lt_of_lt_of_le hS1 hh.2.2.2.2.1)).trans t1; have fz := fun o => (hb2.frozen (p := ⟨S, o, none⟩) (Nat.lt_of_lt_of_le hS1 hh.2.2.2.2.1)).trans (fz o); have r0 := (hb2.cell (p := ⟨R, 0, none⟩) (Nat.lt_of_lt_of_le hR1 hh.2.2.2.2.1)).trans r0; have r1 := (hb2.cell (p := ⟨R, 1, none⟩) (Nat.lt_of_lt_of_le hR1 hh.2.2.2.2.1)).trans r1; have rz := fun o => (hb2.frozen (p := ⟨R, o, none⟩) (Nat.lt_of_lt_of_le hR1 hh.2.2.2.2.1)).trans (rz o)))
      all_goals
        rename_i hHeld
        have HFB := Lib.hid hHeld.2.2.2.2.2
        have HFW := Lib.hid (TwoAt.set ⟨t0, t1, fz⟩ n0 n1)
        have HFR := Lib.hid (TwoAt.other ⟨r0, r1, rz⟩ hSR (.int .i64 n0) (.int .i64 n1))
        clear hHeld t0 t1 fz r0 r1 rz
        go_wp2_with fail
        go_roundw
        case rel => exact ⟨k + 1, by omega, by omega, by go_num, by rw [Nat.add_sub_cancel, ← HNn.out.1, ← HNn.out.2]; exact HFW.out, HFR.out, HFB.out⟩
        case measure => simp [intOf]; omega
    · obtain rfl : k = n := by omega
      obtain ⟨s0, hs0⟩ : ∃ t, t = areaI ks (k - 1) / 1000000000000 := ⟨_, rfl⟩
      obtain ⟨s1, hs1⟩ : ∃ t, t = areaI ks (k - 1) % 1000000000000 := ⟨_, rfl⟩
      have HS01 := Lib.hid (And.intro hs0 hs1)
      rw [← hs0, ← hs1] at HWd
      have t0 := HWd.out.c0
      have t1 := HWd.out.c1
      have hF := HRd.out.set s0 s1
      have r0 := HRd.out.c0
      have r1 := HRd.out.c1
      have rz := HRd.out.fz
      have q0 := hF.c0
      have q1 := hF.c1
      have HB2 := Lib.hid ((HB.out.setCell hRw (.int .i64 s0) (p := ⟨R, 0, none⟩)).setCell hRw (.int .i64 s1) (p := ⟨R, 1, none⟩))
      clear hs0 hs1 hF
      rw [← HRw.out]
      go_wp2_with fail
      (try simp only [Exit.inBlock, Exit.then])
      refine bodyPost_ret (by simp [results, Try.results28, go_sem, q0, q1]; try rfl) rfl ?_
      exact ⟨by rw [← HS01.out.1, ← HS01.out.2], HB2.out⟩
end Go.Proofs.Ythghcppdfeeloaa
