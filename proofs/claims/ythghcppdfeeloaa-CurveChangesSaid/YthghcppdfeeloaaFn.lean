/- Contracts of curve.firstNeedless and slices.Clone at knots. -/
import Derived.Test.YthghcppdfeeloaaSt
import Derived.OwnWalk
import Derived.Lib.SliceRun
namespace Go.Proofs.Ythghcppdfeeloaa
open Go.RowKit

/-- the index of the first knot that can be left out, or none -/
def firstN (ks : List (Int × Int)) : Option Nat := (List.range ks.length).find? fun i => needB ks i
def firstI (ks : List (Int × Int)) : Int := match firstN ks with | some i => i | none => -1
theorem firstN_some {ks : List (Int × Int)} {i : Nat} (hi : i < ks.length) (h : needB ks i = true) (hl : ∀ j, j < i → needB ks j = false) : firstN ks = some i := by
  unfold firstN
  rw [List.find?_range_eq_some]
  exact ⟨h, List.mem_range.2 hi, fun j hj => by rw [hl j hj]; rfl⟩
theorem firstN_none {ks : List (Int × Int)} (hl : ∀ j, j < ks.length → needB ks j = false) : firstN ks = none := by
  unfold firstN
  rw [List.find?_eq_none]
  intro j hj
  rw [hl j (List.mem_range.1 hj)]; simp

set_option maxHeartbeats 2000000 in
theorem first_any (b off cap : Nat) (ks : List (Int × Int)) (w : World) (h32 : ks.length ≤ 32) (hfit : fitL ks ks.length = true) (hb : b < w.heap.size) (hc : Knots w b off ks) :
    Calls Try.prog 36 #[.slice (some ⟨b, off, none⟩) ks.length cap] w fun e w' => e = .returned (.int .i64 (firstI ks)) ∧ Below w.heap.size w w' := by
  have HC := Lib.hid hc
  have HNd := Lib.hid fun i (hi : i < ks.length) w' (hw : Below w.heap.size w w') => needless_any b off cap i ks w' hi h32 hfit (Nat.lt_of_lt_of_le hb hw.size) (hc.at hb hw)
  have HS := Lib.hid fun i (hi : i < ks.length) (h : needB ks i = true) (hl : ∀ j, j < i → needB ks j = false) => (show firstI ks = i by unfold firstI; rw [firstN_some hi h hl])
  have HZ := Lib.hid fun (hl : ∀ j, j < ks.length → needB ks j = false) => (show firstI ks = -1 by unfold firstI; rw [firstN_none hl])
  obtain ⟨n, hn⟩ : ∃ n, n = ks.length := ⟨_, rfl⟩
  rw [← hn] at HNd HS HZ h32 ⊢
  obtain ⟨z, hz⟩ : ∃ z, z = firstI ks := ⟨_, rfl⟩
  rw [← hz] at HS HZ ⊢
  clear hn hz hc hfit
  go_enter Try.func36, Try.ntmps36
  go_wp2_with fail
  go_loopw [6] (fun i wr => ∃ k : Nat, k ≤ n ∧ i = .int .i64 k ∧ (∀ j, j < k → needB ks j = false) ∧ Below w.heap.size w wr) (fun i _ => n - (intOf i).toNat)
  case atStart => exact ⟨0, by omega, rfl, fun j hj => absurd hj (by omega), Below.refl _ _⟩
  case round =>
    obtain ⟨k, hk, rfl, hall, hbel⟩ := hrel
    have HB := Lib.hid hbel
    have HA := Lib.hid hall
    by_cases hlt : k < n
    · have HK := Lib.hid (HNd.out k hlt wr hbel)
      cases hnd : needB ks k
      · rw [hnd] at HK
        have HA2 := Lib.hid (show ∀ j, j < k + 1 → needB ks j = false from fun j hj => by
          rcases (by omega : j < k ∨ j = k) with h | rfl
          · exact hall j h
          · exact hnd)
        clear hnd hall hbel
        go_wp2_with fail
        refine HK.out.mono ?_
        rintro e w2 ⟨rfl, hb2⟩
        have B2 := Lib.hid (HB.out.trans (hb2.mono HB.out.size))
        clear hb2
        go_wp2_with fail
        go_roundw
        case rel => exact ⟨k + 1, by omega, by go_num, HA2.out, B2.out⟩
        case measure => simp [intOf]; omega
      · rw [hnd] at HK
        have HZ2 := Lib.hid (HS.out k hlt hnd hall)
        clear hnd hall hbel
        go_wp2_with fail
        refine HK.out.mono ?_
        rintro e w2 ⟨rfl, hb2⟩
        have B2 := Lib.hid (HB.out.trans (hb2.mono HB.out.size))
        clear hb2
        go_wp2_with fail
        go_ret
        exact ⟨ret_int HZ2.out.symm, B2.out⟩
    · obtain rfl : k = n := by omega
      have HZ2 := Lib.hid (HZ.out hall)
      clear hall hbel
      go_wp2_with fail
      go_ret
      exact ⟨ret_int HZ2.out.symm, HB.out⟩

/-- the cells of a list of knots -/
def cellsK (ks : List (Int × Int)) : List Value := ks.flatMap fun k => [.int .i64 k.1, .int .i64 k.2]
theorem cellsK_len (ks : List (Int × Int)) : (cellsK ks).length = ks.length * 2 := by
  induction ks with
  | nil => rfl
  | cons k ks ih =>
    have e : cellsK (k :: ks) = .int .i64 k.1 :: .int .i64 k.2 :: cellsK ks := rfl
    rw [e, List.length_cons, List.length_cons, ih, List.length_cons]; omega
theorem cellsK_at (ks : List (Int × Int)) (i : Nat) (hi : i < ks.length) : (cellsK ks)[i * 2]? = some (.int .i64 (kx ks i)) ∧ (cellsK ks)[i * 2 + 1]? = some (.int .i64 (ky ks i)) := by
  induction ks generalizing i with
  | nil => simp at hi
  | cons k ks ih =>
    cases i with
    | zero => exact ⟨rfl, rfl⟩
    | succ i =>
      have h := ih i (by simpa using hi)
      have e1 : (i + 1) * 2 = i * 2 + 1 + 1 := by omega
      rw [e1]
      exact h
theorem infoKnot : (Try.prog.info? 50).map (fun i => (i.zero, i.size, i.bytes)) = some (some (.agg #[.int .i64 0, .int .i64 0]), 2, 16) := by kernel_rfl
theorem add_plain (b off j : Nat) : (⟨b, off, none⟩ : Addr).add j = ⟨b, off + j, none⟩ := by unfold Addr.add; split <;> simp_all
/-- a list of knots in a row of the call's own -/
def OwnK (w : World) (B : Nat) (v : Value) (ks : List (Int × Int)) : Prop := w.ownsRow B 50 2 v ks.length (cellsK ks)

set_option maxRecDepth 100000 in
set_option maxHeartbeats 1000000 in
theorem clone_some (b off cap : Nat) (ks : List (Int × Int)) (w : World) (h0 : 0 < ks.length) (h32 : ks.length ≤ 32) (hb : b < w.heap.size) (hc : Knots w b off ks) :
    Calls Try.prog 35 #[.slice (some ⟨b, off, none⟩) ks.length cap] w fun e w' => ∃ v, e = .returned v ∧ OwnK w' w.heap.size v ks ∧ Below w.heap.size w w' := by
  obtain ⟨i0, hi, hz0, hz1, hz2⟩ := info_parts infoKnot
  have hnew : ∀ (j : Nat) u, (cellsK ks)[j]? = some u → w.cell? ⟨b, off + j, none⟩ = some u := fun j u hu => by
    have hj : j < (cellsK ks).length := by
      rcases Nat.lt_or_ge j (cellsK ks).length with h | h
      · exact h
      · rw [List.getElem?_eq_none h] at hu; cases hu
    rw [cellsK_len] at hj
    obtain ⟨q, rfl | rfl⟩ : ∃ q, j = q * 2 ∨ j = q * 2 + 1 := ⟨j / 2, by omega⟩
    · rw [(cellsK_at ks q (by omega)).1] at hu
      exact (hc q (by omega)).1.trans hu
    · rw [(cellsK_at ks q (by omega)).2] at hu
      exact (hc q (by omega)).2.trans hu
  have HNw := Lib.hid hnew
  have hO : (w.alloc (Obj.cells #[] 50)).ownsRow w.heap.size 50 2 (.slice (some ⟨w.heap.size, 0, none⟩) 0 0) 0 [] :=
    ⟨rfl, .inr ⟨w.heap.size, 0, #[], rfl, Nat.le_refl _, (by show (w.heap.push (Obj.cells #[] 50))[w.heap.size]? = _; simp), Nat.le_refl _, by simp, rfl, rfl⟩⟩
  have HO := Lib.hid hO
  have hnil := fun w => Lib.run_eql_slice_nil (P := Try.prog) w 22 50 (some ⟨b, off, none⟩) ks.length cap 0 0 Try.underlying22
  clear hnew hO
  go_enter Try.func35, Try.ntmps35
  go_wp2_with (at_builtin; refine wpList_append_own _ rfl _ _ 22 rfl w.heap.size 50 i0 (.agg #[.int .i64 0, .int .i64 0]) 2 16 Try.underlying22 hi hz0 hz1 hz2 rfl (by decide) _ _ _ rfl HO.out ⟨b, off, none⟩ ks.length cap (cellsK ks) rfl (cellsK_len ks) ?c1 ?c2 ?c3 ?c4 ?c5 ?_)
  case c1 => exact fun j u hu => by rw [add_plain, World.cell?_alloc_old _ _ _ (by simp; omega)]; exact HNw.out j u hu
  case c2 =>
    intro u hu
    unfold cellsK at hu
    rw [List.mem_flatMap] at hu
    obtain ⟨k, _, hk⟩ := hu
    simp at hk
    rcases hk with rfl | rfl <;> rfl
  case c3 => unfold maxLen; omega
  case c4 => omega
  case c5 => simp
  intro v' w1 hown hgrow _
  have hlt := HO.out.lt
  have B1 := Lib.hid (((Below.refl w.heap.size w).alloc (Nat.le_refl _) (Obj.cells #[] 50)).grown hgrow (by simp) (fun k hk => (hlt k hk).1))
  have HOw := Lib.hid hown
  clear hown hgrow hlt
  go_wp2_with fail
  go_ret
  exact ⟨v', rfl, HOw.out, B1.out⟩
end Go.Proofs.Ythghcppdfeeloaa
