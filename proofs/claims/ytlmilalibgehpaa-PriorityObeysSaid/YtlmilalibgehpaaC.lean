/- Contracts of compare and less. -/
import Derived.Test.YtlmilalibgehpaaB
import Derived.Deep.RegionWith
namespace Go.Proofs.Ytlmilalibgehpaa
open Go.RowKit

def cmpW (a b : WrD) : Int := orI (cmpI a.q b.q) (cmpI a.k b.k) (cmpI a.n b.n)
def lessB (a b : WrD) : Bool := if a.q ≠ b.q then decide (a.q < b.q) else if a.k ≠ b.k then decide (a.k < b.k) else decide (a.n < b.n)
theorem cmp_less (a b : WrD) : (0 < cmpW a b) ↔ lessB b a = true := by
  unfold cmpW lessB orI cmpI
  by_cases h1 : a.q < b.q
  · simp [*, show ¬ b.q < a.q by omega, show b.q ≠ a.q by omega]
  · by_cases h2 : b.q < a.q
    · simp [*, show b.q ≠ a.q by omega]
    · have e : b.q = a.q := by omega
      clear h1 h2
      by_cases h3 : a.k < b.k
      · simp [*, show ¬ b.k < a.k by omega, show b.k ≠ a.k by omega]
      · by_cases h4 : b.k < a.k
        · simp [*, show b.k ≠ a.k by omega]
        · have e2 : b.k = a.k := by omega
          clear h3 h4
          by_cases h5 : a.n < b.n
          · simp [*, show ¬ b.n < a.n by omega]
          · by_cases h6 : b.n < a.n <;> simp [*]
abbrev CSt (wb : World) (g h : Nat) (al aq ak an bl bq bk bn : Int) (w' : World) : Prop := w'.cell? ⟨g, 0, none⟩ = some (.int .i64 al) ∧ w'.cell? ⟨g, 1, none⟩ = some (.int .i64 aq) ∧ w'.cell? ⟨g, 2, none⟩ = some (.int .i64 ak) ∧ w'.cell? ⟨g, 3, none⟩ = some (.int .i64 an) ∧ w'.cell? ⟨h, 0, none⟩ = some (.int .i64 bl) ∧ w'.cell? ⟨h, 1, none⟩ = some (.int .i64 bq) ∧ w'.cell? ⟨h, 2, none⟩ = some (.int .i64 bk) ∧ w'.cell? ⟨h, 3, none⟩ = some (.int .i64 bn) ∧ Below wb.heap.size wb w'
theorem cst_of {wb w' : World} {g h : Nat} {al aq ak an bl bq bk bn : Int} (s : CSt wb g h al aq ak an bl bq bk bn wb) (hb : Below wb.heap.size wb w') : CSt wb g h al aq ak an bl bq bk bn w' := by
  obtain ⟨s0, s1, s2, s3, s4, s5, s6, s7, _⟩ := s
  have hg : g < wb.heap.size := World.block_lt_of_cell? _ _ s0
  have hh : h < wb.heap.size := World.block_lt_of_cell? _ _ s4
  exact ⟨(hb.cell (p := ⟨g, 0, none⟩) hg).trans s0, (hb.cell (p := ⟨g, 1, none⟩) hg).trans s1, (hb.cell (p := ⟨g, 2, none⟩) hg).trans s2, (hb.cell (p := ⟨g, 3, none⟩) hg).trans s3, (hb.cell (p := ⟨h, 0, none⟩) hh).trans s4, (hb.cell (p := ⟨h, 1, none⟩) hh).trans s5, (hb.cell (p := ⟨h, 2, none⟩) hh).trans s6, (hb.cell (p := ⟨h, 3, none⟩) hh).trans s7, hb⟩

set_option maxHeartbeats 4000000 in
set_option maxRecDepth 100000 in
theorem compare_any (al aq ak an bl bq bk bn : Int) (w : World) : Calls Try.prog 39 #[.agg #[.int .i64 al, .int .i64 aq, .int .i64 ak, .int .i64 an], .agg #[.int .i64 bl, .int .i64 bq, .int .i64 bk, .int .i64 bn]] w fun e w' => e = .returned (.int .i64 (cmpW ⟨al, aq, ak, an⟩ ⟨bl, bq, bk, bn⟩)) ∧ Below w.heap.size w w' := by
  obtain ⟨x, hx⟩ : ∃ x, x = cmpI aq bq := ⟨_, rfl⟩
  obtain ⟨y, hy⟩ : ∃ x, x = cmpI ak bk := ⟨_, rfl⟩
  obtain ⟨z, hz⟩ : ∃ x, x = cmpI an bn := ⟨_, rfl⟩
  have HR := Lib.hid (show cmpW ⟨al, aq, ak, an⟩ ⟨bl, bq, bk, bn⟩ = orI x y z by rw [hx, hy, hz]; rfl)
  have c1 := fun w => cmpi_any aq bq w
  have c2 := fun w => cmpi_any ak bk w
  have c3 := fun w => cmpl_any an bn w
  rw [← hx] at c1
  rw [← hy] at c2
  rw [← hz] at c3
  have HC1 := Lib.hid c1
  have HC2 := Lib.hid c2
  have HC3 := Lib.hid c3
  obtain ⟨W, g, h, hW, hg, hh, RP, RO, B, sz⟩ := box2 w #[.int .i64 al, .int .i64 aq, .int .i64 ak, .int .i64 an] 25 #[.int .i64 bl, .int .i64 bq, .int .i64 bk, .int .i64 bn] 25
  have HB0 := Lib.hid B
  have HP := Lib.hid RP
  have HO := Lib.hid RO
  clear hx hy hz c1 c2 c3 sz B RP RO
  go_enter Try.func39, Try.ntmps39
  go_wp2_with fail
  rw [← hW]
  try rw [← hh]
  try rw [← hg]
  clear hW hh hg
  have HC := Lib.hid (show CSt W g h al aq ak an bl bq bk bn W from ⟨HP.out.c 0 _ rfl, HP.out.c 1 _ rfl, HP.out.c 2 _ rfl, HP.out.c 3 _ rfl, HO.out.c 0 _ rfl, HO.out.c 1 _ rfl, HO.out.c 2 _ rfl, HO.out.c 3 _ rfl, Below.refl _ _⟩)
  have HCD := Lib.hid (cst_of HC.out (Below.refl _ _).drew)
  have HN := Lib.hid ((row_fresh W #[.int .i64 x, .int .i64 y, .int .i64 z] 3).drew)
  have KB := Lib.hid (((Below.refl W.heap.size W).alloc (Nat.le_refl _) (Obj.cells #[.int .i64 x, .int .i64 y, .int .i64 z] 3)).drew)
  have HOR := Lib.hid (or_any x y z W.heap.size _ (HN.out.c 0 _ rfl) (HN.out.c 1 _ rfl) (HN.out.c 2 _ rfl))
  have HCA := Lib.hid (cst_of HC.out KB.out)
  have p0 := HP.out.c 0 _ rfl
  have p1 := HP.out.c 1 _ rfl
  have p2 := HP.out.c 2 _ rfl
  have p3 := HP.out.c 3 _ rfl
  have o0 := HO.out.c 0 _ rfl
  have o1 := HO.out.c 1 _ rfl
  have o2 := HO.out.c 2 _ rfl
  have o3 := HO.out.c 3 _ rfl
  go_region_held3 (fun w' => w'.cell? ⟨g, 0, none⟩ = some (.int .i64 al) ∧ w'.cell? ⟨g, 1, none⟩ = some (.int .i64 aq) ∧ w'.cell? ⟨g, 2, none⟩ = some (.int .i64 ak) ∧ w'.cell? ⟨g, 3, none⟩ = some (.int .i64 an) ∧ w'.cell? ⟨h, 0, none⟩ = some (.int .i64 bl) ∧ w'.cell? ⟨h, 1, none⟩ = some (.int .i64 bq) ∧ w'.cell? ⟨h, 2, none⟩ = some (.int .i64 bk) ∧ w'.cell? ⟨h, 3, none⟩ = some (.int .i64 bn) ∧ Below W.heap.size W w')
    (first | (with_reducible exact HC.out) | (with_reducible exact HCD.out) | (with_reducible exact HCA.out) | go_keep)
    (first | (go_at_call_of 41 (Value.int IntKind.i64 aq); refine (HC1.out _).mono ?_; rintro e x1 ⟨rfl, rfl⟩) | (go_at_call_of 41 (Value.int IntKind.i64 ak); refine (HC2.out _).mono ?_; rintro e x1 ⟨rfl, rfl⟩) | (go_at_call 42; refine (HC3.out _).mono ?_; rintro e x1 ⟨rfl, rfl⟩) | (go_at_call 40; refine HOR.out.mono ?_; rintro e x1 ⟨rfl, rfl⟩))
  rename_i hHeld
  clear hHeld
  have hB := HB0.out.trans (KB.out.mono HB0.out.size)
  go_wp2_with fail
  go_ret
  exact ⟨congrArg (fun x => Ending.returned (.int .i64 x)) HR.out.symm, hB⟩

set_option maxHeartbeats 4000000 in
set_option maxRecDepth 100000 in
theorem less_any (al aq ak an bl bq bk bn : Int) (w : World) : Calls Try.prog 38 #[.agg #[.int .i64 al, .int .i64 aq, .int .i64 ak, .int .i64 an], .agg #[.int .i64 bl, .int .i64 bq, .int .i64 bk, .int .i64 bn]] w fun e w' => e = .returned (.bool (lessB ⟨al, aq, ak, an⟩ ⟨bl, bq, bk, bn⟩)) ∧ Below w.heap.size w w' := by
  have e1 : aq ≠ bq → lessB ⟨al, aq, ak, an⟩ ⟨bl, bq, bk, bn⟩ = decide (aq < bq) := fun h => if_pos h
  have e2 : aq = bq → ak ≠ bk → lessB ⟨al, aq, ak, an⟩ ⟨bl, bq, bk, bn⟩ = decide (ak < bk) := fun h h2 => (if_neg (fun g => g h)).trans (if_pos h2)
  have e3 : aq = bq → ak = bk → lessB ⟨al, aq, ak, an⟩ ⟨bl, bq, bk, bn⟩ = decide (an < bn) := fun h h2 => (if_neg (fun g => g h)).trans (if_neg (fun g => g h2))
  have HE1 := Lib.hid e1
  have HE2 := Lib.hid e2
  have HE3 := Lib.hid e3
  clear e1 e2 e3
  by_cases h1 : aq = bq
  · by_cases h2 : ak = bk
    · have HR := Lib.hid (HE3.out h1 h2)
      clear HE1 HE2 HE3
      subst h1 h2
      go_enter Try.func38, Try.ntmps38
      go_wp2_with fail
      go_ret
      exact ⟨congrArg (fun x => Ending.returned (.bool x)) (HR.out).symm, (((Below.refl w.heap.size w).alloc (Nat.le_refl _) _).alloc (by rw [World.size_alloc]; omega) _)⟩
    · have HR := Lib.hid (HE2.out h1 h2)
      have t2 : (ak != bk) = true := by simpa using h2
      clear HE1 HE2 HE3 h2
      subst h1
      go_enter Try.func38, Try.ntmps38
      go_wp2_with fail
      go_ret
      exact ⟨congrArg (fun x => Ending.returned (.bool x)) (HR.out).symm, (((Below.refl w.heap.size w).alloc (Nat.le_refl _) _).alloc (by rw [World.size_alloc]; omega) _)⟩
  · have HR := Lib.hid (HE1.out h1)
    have t1 : (aq != bq) = true := by simpa using h1
    clear HE1 HE2 HE3 h1
    go_enter Try.func38, Try.ntmps38
    go_wp2_with fail
    go_ret
    exact ⟨congrArg (fun x => Ending.returned (.bool x)) (HR.out).symm, (((Below.refl w.heap.size w).alloc (Nat.le_refl _) _).alloc (by rw [World.size_alloc]; omega) _)⟩
end Go.Proofs.Ytlmilalibgehpaa
