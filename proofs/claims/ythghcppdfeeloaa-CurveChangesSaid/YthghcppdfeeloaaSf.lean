/- The contract of curve.Shift. -/
import Derived.Test.YthghcppdfeeloaaSp
import Derived.Test.YthghcppdfeeloaaSm
import Derived.Laws.CopyOwn
namespace Go.Proofs.Ythghcppdfeeloaa
open Go.RowKit

/-- the copy of a list of two-celled structs into a row known whole -/
theorem run_copy_two {P : Program} (w : World) (dT sT ty elem : TypeId) (g dCap : Nat) (a : Addr) (n sCap : Nat) (cur : Array Value) (t : TypeId) (cs : List Value)
    (hu : P.underlying dT = some (.slice elem)) (hs : (P.info? elem).map (·.size) = some 2)
    (hg : w.heap[g]? = some (.cells cur t (0, 0))) (hn : cs.length = n * 2)
    (hsrc : ∀ j v, cs[j]? = some v → w.cell? (a.add j) = some v) (hfit : cs.length ≤ cur.size) (h1 : ∀ v ∈ cs, v.oneCell' = true) :
    (Builtin.copy_ #[dT, sT] ty #[.slice (some ⟨g, 0, none⟩) n dCap, .slice (some a) n sCap]).run P w =
      .ok (goInt n) (w.setRow g (cs ++ cur.toList.drop cs.length).toArray) := by
  have hl := run_loadCells_list (P := P) w a cs hsrc
  have hst := run_storeCells_at P g 0 t cs 0 cur w hg (by simpa using hfit) h1
  have hmin : Nat.min n n = n := Nat.min_self n
  rw [hn] at hl
  cases hq : P.info? elem with
  | none => simp [hq] at hs
  | some i =>
    have hi : i.size = 2 := by simpa [hq] using hs
    simp [Builtin.copy_, run_underlying hu, Builtin.lenOf, Builtin.firstCells, sizeOf, typeInfo, hq, hi, hmin, hl, hst]

/-- the first i knots moved, as words are added -/
def mixK (ks : List (Int × Int)) (dx dy : Int) (i : Nat) : List (Int × Int) := (List.range ks.length).map fun j => if j < i then (wrap64 (kx ks j + dx), wrap64 (ky ks j + dy)) else (kx ks j, ky ks j)
theorem mixK_len (ks : List (Int × Int)) (dx dy : Int) (i : Nat) : (mixK ks dx dy i).length = ks.length := by unfold mixK; rw [List.length_map, List.length_range]
theorem mixK_at (ks : List (Int × Int)) (dx dy : Int) (i j : Nat) (hj : j < ks.length) : (mixK ks dx dy i).getD j (0, 0) = if j < i then (wrap64 (kx ks j + dx), wrap64 (ky ks j + dy)) else (kx ks j, ky ks j) := by
  unfold mixK; simp only [List.getD, List.getElem?_map, List.getElem?_range hj]; rfl
theorem kx_mix (ks : List (Int × Int)) (dx dy : Int) (i j : Nat) (hj : j < ks.length) : kx (mixK ks dx dy i) j = if j < i then wrap64 (kx ks j + dx) else kx ks j := by
  unfold kx; rw [mixK_at _ _ _ _ _ hj]; split <;> rfl
theorem ky_mix (ks : List (Int × Int)) (dx dy : Int) (i j : Nat) (hj : j < ks.length) : ky (mixK ks dx dy i) j = if j < i then wrap64 (ky ks j + dy) else ky ks j := by
  unfold ky; rw [mixK_at _ _ _ _ _ hj]; split <;> rfl
theorem mix_zero (ks : List (Int × Int)) (dx dy : Int) : mixK ks dx dy 0 = ks := knots_ext _ _ (mixK_len _ _ _ _) fun i hi => by
  rw [mixK_len] at hi
  rw [kx_mix _ _ _ _ _ hi, ky_mix _ _ _ _ _ hi, if_neg (by omega), if_neg (by omega)]; exact ⟨rfl, rfl⟩
theorem mix_all (ks : List (Int × Int)) (dx dy : Int) : mixK ks dx dy ks.length = shiftW ks dx dy := knots_ext _ _ (by rw [mixK_len, shiftW_len]) fun i hi => by
  rw [mixK_len] at hi
  rw [kx_mix _ _ _ _ _ hi, ky_mix _ _ _ _ _ hi, if_pos hi, if_pos hi, kx_shiftW _ _ _ _ hi, ky_shiftW _ _ _ _ hi]; exact ⟨rfl, rfl⟩
theorem row_moved {w : World} {g c k : Nat} {ks : List (Int × Int)} {dx dy : Int} (h : RowK w g c (mixK ks dx dy k)) (hk : k < ks.length) (X Y : Int) (hX : wrap64 (kx ks k + dx) = X) (hY : wrap64 (ky ks k + dy) = Y) :
    RowK ((w.setCell ⟨g, k * 2, none⟩ (.int .i64 X)).setCell ⟨g, k * 2 + 1, none⟩ (.int .i64 Y)) g c (mixK ks dx dy (k + 1)) := by
  obtain ⟨h1, h2, h3, h4, h5⟩ := h
  rw [mixK_len] at h2
  have s1 : ∀ j, j < c * 2 → ((w.setCell ⟨g, k * 2, none⟩ (.int .i64 X)).cell? ⟨g, j, none⟩).isSome = true := fun j hj => by
    by_cases e : j = k * 2
    · subst e
      obtain ⟨u, hu⟩ := Option.isSome_iff_exists.1 (h3 _ hj)
      rw [World.cell?_setCell_same _ _ _ hu]; rfl
    · rw [World.cell?_setCell_other _ _ _ _ (by simp <;> omega)]; exact h3 j hj
  obtain ⟨u0, hu0⟩ := Option.isSome_iff_exists.1 (h3 (k * 2) (by omega))
  obtain ⟨u1, hu1⟩ := Option.isSome_iff_exists.1 (s1 (k * 2 + 1) (by omega))
  refine ⟨fun i hi => ?_, by rw [mixK_len]; exact h2, fun j hj => ?_, fun j => by simp [h4], by simpa using h5⟩
  · rw [mixK_len] at hi
    have hi2 := h1 i (by rw [mixK_len]; exact hi)
    rw [Nat.zero_add] at hi2 ⊢
    rw [kx_mix _ _ _ _ _ hi, ky_mix _ _ _ _ _ hi] at hi2 ⊢
    by_cases e : i = k
    · subst e
      rw [if_pos (by omega), if_pos (by omega), hX, hY]
      exact ⟨(World.cell?_setCell_other _ _ _ _ (by simp)).trans (World.cell?_setCell_same _ _ _ hu0), World.cell?_setCell_same _ _ _ hu1⟩
    · have e1 : (i < k + 1) = (i < k) := by rw [eq_iff_iff]; omega
      simp only [e1]
      exact ⟨(World.cell?_setCell_other _ _ _ _ (by simp <;> omega)).trans ((World.cell?_setCell_other _ _ _ _ (by simp <;> omega)).trans hi2.1), (World.cell?_setCell_other _ _ _ _ (by simp <;> omega)).trans ((World.cell?_setCell_other _ _ _ _ (by simp <;> omega)).trans hi2.2)⟩
  · by_cases e : j = k * 2 + 1
    · subst e
      rw [World.cell?_setCell_same _ _ _ hu1]; rfl
    · rw [World.cell?_setCell_other _ _ _ _ (by simp <;> omega)]; exact s1 j hj

set_option maxHeartbeats 4000000 in
set_option maxRecDepth 100000 in
theorem shift_ok (b off cap : Nat) (dx dy : Int) (ks : List (Int × Int)) (w : World) (he : checkL ks = 0) (hb : b < w.heap.size) (hc : Knots w b off ks) (x1 : -9223372036854775808 ≤ dx) (x2 : dx ≤ 9223372036854775807) (y1 : -9223372036854775808 ≤ dy) (y2 : dy ≤ 9223372036854775807) :
    Calls Try.prog 22 #[.slice (some ⟨b, off, none⟩) ks.length cap, .int .i64 dx, .int .i64 dy] w fun e w' => (∃ a' c', e = .returned (.tuple #[.slice a' (shiftR ks dx dy).length c', .int .i64 (shiftE ks dx dy)]) ∧ IsKnots w' a' (shiftR ks dx dy).length (shiftR ks dx dy)) ∧ Below w.heap.size w w' := by
  obtain ⟨h0, h32, hf, hr⟩ := check_zero ks he
  obtain ⟨i0, hi, hz0, hz1, hz2⟩ := info_parts infoKnot
  have hk := check_any (some ⟨b, off, none⟩) ks.length cap ks w (.inr ⟨b, off, rfl, hb, rfl, by omega, hc⟩)
  rw [he] at hk
  have HK := Lib.hid hk
  have hE : shiftE ks dx dy = checkL (shiftW ks dx dy) := by
    unfold shiftE
    rw [check_shiftW he dx dy x1 x2 y1 y2, if_neg (by omega)]
  have hR : checkL (shiftW ks dx dy) = 0 → shiftR ks dx dy = shiftW ks dx dy := fun h => by
    unfold shiftR
    rw [hE, if_pos h]
    rw [check_shiftW he dx dy x1 x2 y1 y2] at h
    split at h
    · rename_i hfit; exact (shiftW_eq he dx dy hfit).symm
    · omega
  have hR2 : checkL (shiftW ks dx dy) ≠ 0 → shiftR ks dx dy = [] := fun h => by
    unfold shiftR
    rw [hE, if_neg h]
  have HE := Lib.hid hE
  have HR := Lib.hid hR
  have HR2 := Lib.hid hR2
  have hnew : ∀ (w' : World), Below w.heap.size w w' → ∀ (j : Nat) u, (cellsK ks)[j]? = some u → w'.cell? ((⟨b, off, none⟩ : Addr).add j) = some u := fun w' hw j u hu => by
    have hj : j < (cellsK ks).length := by
      rcases Nat.lt_or_ge j (cellsK ks).length with h | h
      · exact h
      · rw [List.getElem?_eq_none h] at hu; cases hu
    rw [cellsK_len] at hj
    rw [add_plain]
    have hc' := hc.at hb hw
    obtain ⟨q, rfl | rfl⟩ : ∃ q, j = q * 2 ∨ j = q * 2 + 1 := ⟨j / 2, by omega⟩
    · rw [(cellsK_at ks q (by omega)).1] at hu
      exact (hc' q (by omega)).1.trans hu
    · rw [(cellsK_at ks q (by omega)).2] at hu
      exact (hc' q (by omega)).2.trans hu
  have HNew := Lib.hid hnew
  have hone : ∀ u ∈ cellsK ks, u.oneCell' = true := by
    intro u hu
    unfold cellsK at hu
    rw [List.mem_flatMap] at hu
    obtain ⟨k, _, hk⟩ := hu
    simp at hk
    rcases hk with rfl | rfl <;> rfl
  have HOne := Lib.hid hone
  have hsz2 : (Try.prog.info? 50).map (·.size) = some 2 := by rw [hi]; simp [hz1]
  have hcopy := fun (w2 : World) (g : Nat) (cur : Array Value) (hg : w2.heap[g]? = some (.cells cur 50 (0, 0))) (hcs : cur.size = ks.length * 2) (hw : Below w.heap.size w w2) ty =>
    run_copy_two (P := Try.prog) w2 22 22 ty 50 g ks.length ⟨b, off, none⟩ ks.length cap cur 50 (cellsK ks) Try.underlying22 hsz2 hg (cellsK_len ks) (HNew.out w2 hw) (by rw [cellsK_len, hcs]; exact Nat.le_refl _) hone
  have hrow := fun (w2 : World) (g : Nat) (cur : Array Value) (hg : w2.heap[g]? = some (.cells cur 50 (0, 0))) (hcs : cur.size = ks.length * 2) => (show RowK (w2.setRow g (cellsK ks ++ cur.toList.drop (cellsK ks).length).toArray) g ks.length ks by
    have hO : OwnK (w2.setRow g (cellsK ks ++ cur.toList.drop (cellsK ks).length).toArray) g (.slice (some ⟨g, 0, none⟩) ks.length ks.length) ks := by
      refine ⟨cellsK_len ks, .inr ⟨g, ks.length, _, rfl, Nat.le_refl _, setRow_heap w2 g cur _ _ _ hg, Nat.le_refl _, by unfold maxLen; omega, ?_, ?_⟩⟩
      · simp [cellsK_len, hcs]
      · rw [← cellsK_len]; simp
    obtain ⟨g', c', he', _, hrow⟩ := own_row hO h0
    simp at he'
    obtain ⟨rfl, rfl⟩ := he'
    exact hrow)
  have HCopy := Lib.hid hcopy
  have HRow := Lib.hid hrow
  have HMs := Lib.hid fun (wr : World) (g c k : Nat) (h : RowK wr g c (mixK ks dx dy k)) (hk : k < ks.length) => @row_moved wr g c k ks dx dy h hk _ _ rfl rfl
  have HMx := Lib.hid fun k (hk : k < ks.length) => And.intro (kx_mix ks dx dy k k hk) (ky_mix ks dx dy k k hk)
  have HCh := Lib.hid fun (g : Nat) (w' : World) (h : RowK w' g ks.length (mixK ks dx dy ks.length)) => (by
    have := check_any (some ⟨g, 0, none⟩) ks.length ks.length (shiftW ks dx dy) w' (by rw [mix_all] at h; have := row_known h (by rw [shiftW_len]; exact h32); rw [shiftW_len] at this; exact this)
    exact this)
  have HKn := Lib.hid fun (g : Nat) (w' : World) (h : RowK w' g ks.length (mixK ks dx dy ks.length)) => (show IsKnots w' (some ⟨g, 0, none⟩) (shiftW ks dx dy).length (shiftW ks dx dy) by
    rw [mix_all] at h; exact row_known h (by rw [shiftW_len]; exact h32))
  have HLen := Lib.hid (shiftW_len ks dx dy)
  have HM0 := Lib.hid (mix_zero ks dx dy)
  have HLk := Lib.hid fun k => mixK_len ks dx dy k
  obtain ⟨n, hn⟩ : ∃ n, n = ks.length := ⟨_, rfl⟩
  rw [← hn] at HK HCopy HRow HMs HMx HCh HKn h0 h32 HLen HLk ⊢
  obtain ⟨E, hEE⟩ : ∃ E, E = checkL (shiftW ks dx dy) := ⟨_, rfl⟩
  rw [← hEE] at HE HR HR2 HCh
  rw [HE.out]
  obtain ⟨R, hRd⟩ : ∃ R, R = shiftR ks dx dy := ⟨_, rfl⟩
  rw [← hRd] at HR HR2 ⊢
  clear hk hE hR hR2 hnew hone hsz2 hcopy hrow he hf hr hc hn hEE HNew HOne HE hRd
  go_enter Try.func22, Try.ntmps22
  go_wp2_with fail
  refine HK.out.mono ?_
  rintro e w1 ⟨rfl, hb1⟩
  have B1 := Lib.hid hb1
  clear hb1
  go_wp2_with (at_make; refine wpList_make_full _ rfl _ _ 22 rfl w1.heap.size 50 i0 (.agg #[.int .i64 0, .int .i64 0]) 2 Try.underlying22 hi hz0 hz1 .i64 .i64 _ _ n rfl rfl rfl rfl (by rw [hz2]; omega) (by unfold maxLen; omega) (Nat.le_refl _) ?_; intro w2 hown hgrow)
  obtain ⟨_, ⟨hv, _⟩ | ⟨g, c, cur, hv, hBg, hg, _, _, hcs, _⟩⟩ := hown
  · cases hv
  simp only [Value.slice.injEq, Option.some.injEq, Addr.mk.injEq, and_true, true_and] at hv
  obtain ⟨hgv, rfl⟩ := hv
  have B2 := Lib.hid (B1.out.grown hgrow B1.out.size (fun k hk => by cases hk))
  have hcp := HCopy.out w2 g cur hg hcs B2.out
  have HRw := Lib.hid (HRow.out w2 g cur hg hcs)
  have HBg := Lib.hid (Nat.le_trans B1.out.size hBg)
  obtain ⟨W3, hW3⟩ : ∃ W3, W3 = w2.setRow g (cellsK ks ++ cur.toList.drop (cellsK ks).length).toArray := ⟨_, rfl⟩
  have B3 := Lib.hid (show Below w.heap.size w W3 by rw [hW3]; exact below_setRow B2.out HBg.out _)
  rw [← hW3] at hcp HRw
  have HGv := Lib.hid hgv
  rw [hgv]
  clear hW3 hg hcs hBg hgrow hgv
  rw [hcp]
  clear hcp
  go_wp2_with fail
  go_loopw [25] (fun i wr => ∃ k : Nat, k ≤ n ∧ i = .int .i64 k ∧ RowK wr g n (mixK ks dx dy k) ∧ Below w.heap.size w wr) (fun i _ => n - (intOf i).toNat)
  case atStart => exact ⟨0, by omega, rfl, by rw [HM0.out]; exact HRw.out, B3.out⟩
  case round =>
    obtain ⟨k, hk, rfl, hrow, hbel⟩ := hrel
    by_cases hlt : k < n
    · obtain ⟨m1, m2⟩ := HMx.out k hlt
      rw [if_neg (Nat.lt_irrefl k)] at m1 m2
      obtain ⟨c0, c1⟩ := hrow.kn k (by rw [HLk.out]; exact hlt)
      rw [m1, Nat.zero_add] at c0
      rw [m2, Nat.zero_add] at c1
      have f0 := hrow.fz (k * 2)
      have f1 := hrow.fz (k * 2 + 1)
      have hnx := HMs.out wr g n k hrow hlt
      obtain ⟨X, hX⟩ : ∃ t, t = kx ks k := ⟨_, rfl⟩
      obtain ⟨Y, hY⟩ : ∃ t, t = ky ks k := ⟨_, rfl⟩
      rw [← hX, ← hY] at hnx
      rw [← hX] at c0
      rw [← hY] at c1
      obtain ⟨X', hX'⟩ : ∃ t, wrap64 (X + dx) = t := ⟨_, rfl⟩
      obtain ⟨Y', hY'⟩ : ∃ t, wrap64 (Y + dy) = t := ⟨_, rfl⟩
      rw [hX', hY'] at hnx
      have v1 : (wr.setCell ⟨g, k * 2, none⟩ (.int .i64 X')).cell? ⟨g, k * 2 + 1, none⟩ = some (.int .i64 Y) := (World.cell?_setCell_other _ _ _ _ (by simp)).trans c1
      have HNx := Lib.hid hnx
      have HBl := Lib.hid hbel
      clear m1 m2 hX hY hnx hbel hrow
      go_wp2_with fail
      go_roundw
      case rel => exact ⟨k + 1, by omega, by go_num, HNx.out, (HBl.out.setCell HBg.out _).setCell HBg.out _⟩
      case measure => simp [intOf]; omega
    · obtain rfl : k = n := by omega
      have HRr := Lib.hid hrow
      have HBl := Lib.hid hbel
      clear hrow hbel
      go_wp2_with fail
      refine (HCh.out g _ HRr.out).mono ?_
      rintro e w4 ⟨rfl, hb4⟩
      have B4 := Lib.hid (HBl.out.trans (hb4.mono HBl.out.size))
      have HK4 := Lib.hid ((HKn.out g _ HRr.out).at hb4)
      clear hb4
      by_cases hE0 : E = 0
      · subst hE0
        have HRR := Lib.hid (HR.out rfl)
        go_wp2_with fail
        go_ret2
        rw [HRR.out]
        exact ⟨⟨some ⟨g, 0, none⟩, k, by rw [HLen.out]; rfl, HK4.out⟩, B4.out⟩
      · have t1 : (E != 0) = true := by rw [bne_iff_ne]; exact hE0
        have HRR := Lib.hid (HR2.out hE0)
        go_wp2_with fail
        go_ret2
        rw [HRR.out]
        exact ⟨⟨_, _, rfl, .inl ⟨rfl, rfl⟩⟩, B4.out⟩

theorem shift_any (a : Option Addr) (n cap : Nat) (dx dy : Int) (ks : List (Int × Int)) (w : World) (h : IsKnots w a n ks) (x1 : -9223372036854775808 ≤ dx) (x2 : dx ≤ 9223372036854775807) (y1 : -9223372036854775808 ≤ dy) (y2 : dy ≤ 9223372036854775807) :
    Calls Try.prog 22 #[.slice a n cap, .int .i64 dx, .int .i64 dy] w fun e w' => (∃ a' c', e = .returned (.tuple #[.slice a' (shiftR ks dx dy).length c', .int .i64 (shiftE ks dx dy)]) ∧ IsKnots w' a' (shiftR ks dx dy).length (shiftR ks dx dy)) ∧ Below w.heap.size w w' := by
  by_cases he : checkL ks = 0
  · obtain ⟨h0, h32, _, _⟩ := check_zero ks he
    obtain ⟨b, off, rfl, hb, rfl, hc⟩ := h.some h0
    exact shift_ok b off cap dx dy ks w he hb hc x1 x2 y1 y2
  · have hk := check_any a n cap ks w h
    have hE : shiftE ks dx dy = checkL ks := if_pos he
    rw [show shiftR ks dx dy = [] from if_neg (by rw [hE]; exact he), hE]
    obtain ⟨E, hE⟩ : ∃ E, E = checkL ks := ⟨_, rfl⟩
    rw [← hE] at hk he ⊢
    have HK := Lib.hid hk
    have t0 : (E != 0) = true := by rw [bne_iff_ne]; exact he
    clear hk he h hE
    go_enter Try.func22, Try.ntmps22
    go_wp2_with fail
    refine HK.out.mono ?_
    rintro e w1 ⟨rfl, hb1⟩
    have B1 := Lib.hid hb1
    clear hb1
    go_wp2_with fail
    go_ret2
    exact ⟨⟨_, _, rfl, .inl ⟨rfl, rfl⟩⟩, B1.out⟩
end Go.Proofs.Ythghcppdfeeloaa
