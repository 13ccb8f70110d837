/- The specification's times128: a number with a sign. -/
import Derived.Test.YtlahoohgbfjciaaGreatDoorRf
namespace Go.Proofs.YtlahoohgbfjciaaGreatDoor
open Go.RowKit Go.Shelf

def absI (a : Int) : Int := if a < 0 then -a else a
def sgnV (s : Bool) (M : Int) : Value := .agg #[.bool s, .int .u64 (hiW M), .int .u64 (loW M)]
set_option maxHeartbeats 2000000 in
theorem rtimes128_any (a b : Int) (w : World) (ha1 : -10000000000000 ≤ a) (ha2 : a ≤ 10000000000000) (hb1 : -10000000000000 ≤ b) (hb2 : b ≤ 10000000000000) :
    Calls Tryz.prog 16 #[.int .i64 a, .int .i64 b] w fun e w' => e = .returned (sgnV (decide (a < 0) != decide (b < 0)) (absI a * absI b)) ∧ Below w.heap.size w w' := by
  by_cases h1 : a < 0 <;> by_cases h2 : b < 0
  · have t1 : decide (a < 0) = true := decide_eq_true (by omega)
    have t2 : decide (b < 0) = true := decide_eq_true (by omega)
    rw [t1, t2, show absI a = (-a) by unfold absI; rw [if_pos (by omega)], show absI b = (-b) by unfold absI; rw [if_pos (by omega)]]
    have hp := fun w => rproduct_any (-a) (-b) w (by omega) (by omega) (by omega) (by omega)
    obtain ⟨na, hna⟩ : ∃ x, x = -a := ⟨_, rfl⟩
    rw [← hna] at hp ⊢
    have ga1 : -a = na := hna.symm
    have ga2 : wrap64 na = na := IntWalk.wrap64_in _ ⟨by omega, by omega⟩
    have ga3 : IntKind.i64.wrap (-a) = na := by rw [ga1]; exact IntWalk.i64_in _ ⟨by omega, by omega⟩
    have ga4 : IntKind.u64.wrap na = na := IntWalk.u64_in _ ⟨by omega, by omega⟩
    obtain ⟨ua, hua⟩ : ∃ x, x = IntKind.u64.wrap a := ⟨_, rfl⟩
    have ga5 : IntKind.u64.wrap a = ua := hua.symm
    clear hna hua
    obtain ⟨nb, hnb⟩ : ∃ x, x = -b := ⟨_, rfl⟩
    rw [← hnb] at hp ⊢
    have gb1 : -b = nb := hnb.symm
    have gb2 : wrap64 nb = nb := IntWalk.wrap64_in _ ⟨by omega, by omega⟩
    have gb3 : IntKind.i64.wrap (-b) = nb := by rw [gb1]; exact IntWalk.i64_in _ ⟨by omega, by omega⟩
    have gb4 : IntKind.u64.wrap nb = nb := IntWalk.u64_in _ ⟨by omega, by omega⟩
    obtain ⟨ub, hub⟩ : ∃ x, x = IntKind.u64.wrap b := ⟨_, rfl⟩
    have gb5 : IntKind.u64.wrap b = ub := hub.symm
    clear hnb hub
    simp only [pairV, wordsV] at hp
    obtain ⟨H, hH⟩ : ∃ x, x = hiW (na * nb) := ⟨_, rfl⟩
    obtain ⟨L, hL⟩ : ∃ x, x = loW (na * nb) := ⟨_, rfl⟩
    unfold sgnV
    rw [← hH, ← hL] at hp ⊢
    have HP := Lib.hid hp
    clear hp hH hL ha1 ha2 hb1 hb2
    go_enter Tryz.func16, Tryz.ntmps16
    go_wp2_with fail
    refine (HP.out _).mono ?_
    rintro e w1 ⟨rfl, hb⟩
    have h0 := (Below.refl w.heap.size w).alloc (Nat.le_refl _) (Obj.cells #[.bool false, .int .u64 0, .int .u64 0] 46)
    have hbel := h0.trans (hb.mono h0.size)
    have z0 : w1.cell? ⟨w.heap.size, 0, none⟩ = some (.bool false) := (hb.cell (p := ⟨w.heap.size, 0, none⟩) (by rw [World.size_alloc]; exact Nat.lt_succ_self _)).trans (World.cell?_alloc_new _ _ _ _)
    have z1 : w1.cell? ⟨w.heap.size, 1, none⟩ = some (.int .u64 0) := (hb.cell (p := ⟨w.heap.size, 1, none⟩) (by rw [World.size_alloc]; exact Nat.lt_succ_self _)).trans (World.cell?_alloc_new _ _ _ _)
    have z2 : w1.cell? ⟨w.heap.size, 2, none⟩ = some (.int .u64 0) := (hb.cell (p := ⟨w.heap.size, 2, none⟩) (by rw [World.size_alloc]; exact Nat.lt_succ_self _)).trans (World.cell?_alloc_new _ _ _ _)
    have zf : ∀ o, w1.frozen? ⟨w.heap.size, o, none⟩ = false := fun o => (hb.frozen (p := ⟨w.heap.size, o, none⟩) (by rw [World.size_alloc]; exact Nat.lt_succ_self _)).trans (by simp)
    have HB := Lib.hid hbel
    clear hb h0 hbel
    obtain ⟨R, hR⟩ : ∃ x, x = w.heap.size := ⟨_, rfl⟩
    have hwR : w.heap.size ≤ R := by omega
    rw [← hR] at z0 z1 z2 zf
    try rw [← hR]
    clear hR
    have k0 : (((w1.setCell ⟨R, 0, none⟩ (.bool false)).setCell ⟨R, 1, none⟩ (.int .u64 H)).setCell ⟨R, 2, none⟩ (.int .u64 L)).cell? ⟨R, 0, none⟩ = some (.bool false) := by
      rw [World.cell?_setCell_other _ _ _ _ (by simp), World.cell?_setCell_other _ _ _ _ (by simp)]; exact World.cell?_setCell_same _ _ _ z0
    have k1 : (((w1.setCell ⟨R, 0, none⟩ (.bool false)).setCell ⟨R, 1, none⟩ (.int .u64 H)).setCell ⟨R, 2, none⟩ (.int .u64 L)).cell? ⟨R, 1, none⟩ = some (.int .u64 H) := by
      rw [World.cell?_setCell_other _ _ _ _ (by simp)]; exact World.cell?_setCell_same _ _ _ (by rw [World.cell?_setCell_other _ _ _ _ (by simp)]; exact z1)
    have k2 : (((w1.setCell ⟨R, 0, none⟩ (.bool false)).setCell ⟨R, 1, none⟩ (.int .u64 H)).setCell ⟨R, 2, none⟩ (.int .u64 L)).cell? ⟨R, 2, none⟩ = some (.int .u64 L) :=
      World.cell?_setCell_same _ _ _ (by rw [World.cell?_setCell_other _ _ _ _ (by simp), World.cell?_setCell_other _ _ _ _ (by simp)]; exact z2)
    go_wp2_with fail
    (try simp only [Exit.inBlock, Exit.then])
    refine bodyPost_ret (v := .agg #[.bool false, .int .u64 H, .int .u64 L]) (by simp [results, Tryz.results16, go_sem, k0, k1, k2]; try rfl) rfl ?_
    first | exact ⟨rfl, ((HB.out.setCell hwR _).setCell hwR _).setCell hwR _⟩ | exact ⟨rfl, (((HB.out.setCell hwR _).setCell hwR _).setCell hwR _).drew⟩
  · have t1 : decide (a < 0) = true := decide_eq_true (by omega)
    have t2 : decide (b < 0) = false := decide_eq_false (by omega)
    rw [t1, t2, show absI a = (-a) by unfold absI; rw [if_pos (by omega)], show absI b = b by unfold absI; rw [if_neg (by omega)]]
    have hp := fun w => rproduct_any (-a) b w (by omega) (by omega) (by omega) (by omega)
    obtain ⟨na, hna⟩ : ∃ x, x = -a := ⟨_, rfl⟩
    rw [← hna] at hp ⊢
    have ga1 : -a = na := hna.symm
    have ga2 : wrap64 na = na := IntWalk.wrap64_in _ ⟨by omega, by omega⟩
    have ga3 : IntKind.i64.wrap (-a) = na := by rw [ga1]; exact IntWalk.i64_in _ ⟨by omega, by omega⟩
    have ga4 : IntKind.u64.wrap na = na := IntWalk.u64_in _ ⟨by omega, by omega⟩
    obtain ⟨ua, hua⟩ : ∃ x, x = IntKind.u64.wrap a := ⟨_, rfl⟩
    have ga5 : IntKind.u64.wrap a = ua := hua.symm
    clear hna hua
    have gb4 : IntKind.u64.wrap b = b := IntWalk.u64_in _ ⟨by omega, by omega⟩
    simp only [pairV, wordsV] at hp
    obtain ⟨H, hH⟩ : ∃ x, x = hiW (na * b) := ⟨_, rfl⟩
    obtain ⟨L, hL⟩ : ∃ x, x = loW (na * b) := ⟨_, rfl⟩
    unfold sgnV
    rw [← hH, ← hL] at hp ⊢
    have HP := Lib.hid hp
    clear hp hH hL ha1 ha2 hb1 hb2
    go_enter Tryz.func16, Tryz.ntmps16
    go_wp2_with fail
    refine (HP.out _).mono ?_
    rintro e w1 ⟨rfl, hb⟩
    have h0 := (Below.refl w.heap.size w).alloc (Nat.le_refl _) (Obj.cells #[.bool false, .int .u64 0, .int .u64 0] 46)
    have hbel := h0.trans (hb.mono h0.size)
    have z0 : w1.cell? ⟨w.heap.size, 0, none⟩ = some (.bool false) := (hb.cell (p := ⟨w.heap.size, 0, none⟩) (by rw [World.size_alloc]; exact Nat.lt_succ_self _)).trans (World.cell?_alloc_new _ _ _ _)
    have z1 : w1.cell? ⟨w.heap.size, 1, none⟩ = some (.int .u64 0) := (hb.cell (p := ⟨w.heap.size, 1, none⟩) (by rw [World.size_alloc]; exact Nat.lt_succ_self _)).trans (World.cell?_alloc_new _ _ _ _)
    have z2 : w1.cell? ⟨w.heap.size, 2, none⟩ = some (.int .u64 0) := (hb.cell (p := ⟨w.heap.size, 2, none⟩) (by rw [World.size_alloc]; exact Nat.lt_succ_self _)).trans (World.cell?_alloc_new _ _ _ _)
    have zf : ∀ o, w1.frozen? ⟨w.heap.size, o, none⟩ = false := fun o => (hb.frozen (p := ⟨w.heap.size, o, none⟩) (by rw [World.size_alloc]; exact Nat.lt_succ_self _)).trans (by simp)
    have HB := Lib.hid hbel
    clear hb h0 hbel
    obtain ⟨R, hR⟩ : ∃ x, x = w.heap.size := ⟨_, rfl⟩
    have hwR : w.heap.size ≤ R := by omega
    rw [← hR] at z0 z1 z2 zf
    try rw [← hR]
    clear hR
    have k0 : (((w1.setCell ⟨R, 0, none⟩ (.bool true)).setCell ⟨R, 1, none⟩ (.int .u64 H)).setCell ⟨R, 2, none⟩ (.int .u64 L)).cell? ⟨R, 0, none⟩ = some (.bool true) := by
      rw [World.cell?_setCell_other _ _ _ _ (by simp), World.cell?_setCell_other _ _ _ _ (by simp)]; exact World.cell?_setCell_same _ _ _ z0
    have k1 : (((w1.setCell ⟨R, 0, none⟩ (.bool true)).setCell ⟨R, 1, none⟩ (.int .u64 H)).setCell ⟨R, 2, none⟩ (.int .u64 L)).cell? ⟨R, 1, none⟩ = some (.int .u64 H) := by
      rw [World.cell?_setCell_other _ _ _ _ (by simp)]; exact World.cell?_setCell_same _ _ _ (by rw [World.cell?_setCell_other _ _ _ _ (by simp)]; exact z1)
    have k2 : (((w1.setCell ⟨R, 0, none⟩ (.bool true)).setCell ⟨R, 1, none⟩ (.int .u64 H)).setCell ⟨R, 2, none⟩ (.int .u64 L)).cell? ⟨R, 2, none⟩ = some (.int .u64 L) :=
      World.cell?_setCell_same _ _ _ (by rw [World.cell?_setCell_other _ _ _ _ (by simp), World.cell?_setCell_other _ _ _ _ (by simp)]; exact z2)
    go_wp2_with fail
    (try simp only [Exit.inBlock, Exit.then])
    refine bodyPost_ret (v := .agg #[.bool true, .int .u64 H, .int .u64 L]) (by simp [results, Tryz.results16, go_sem, k0, k1, k2]; try rfl) rfl ?_
    first | exact ⟨rfl, ((HB.out.setCell hwR _).setCell hwR _).setCell hwR _⟩ | exact ⟨rfl, (((HB.out.setCell hwR _).setCell hwR _).setCell hwR _).drew⟩
  · have t1 : decide (a < 0) = false := decide_eq_false (by omega)
    have t2 : decide (b < 0) = true := decide_eq_true (by omega)
    rw [t1, t2, show absI a = a by unfold absI; rw [if_neg (by omega)], show absI b = (-b) by unfold absI; rw [if_pos (by omega)]]
    have hp := fun w => rproduct_any a (-b) w (by omega) (by omega) (by omega) (by omega)
    have ga4 : IntKind.u64.wrap a = a := IntWalk.u64_in _ ⟨by omega, by omega⟩
    obtain ⟨nb, hnb⟩ : ∃ x, x = -b := ⟨_, rfl⟩
    rw [← hnb] at hp ⊢
    have gb1 : -b = nb := hnb.symm
    have gb2 : wrap64 nb = nb := IntWalk.wrap64_in _ ⟨by omega, by omega⟩
    have gb3 : IntKind.i64.wrap (-b) = nb := by rw [gb1]; exact IntWalk.i64_in _ ⟨by omega, by omega⟩
    have gb4 : IntKind.u64.wrap nb = nb := IntWalk.u64_in _ ⟨by omega, by omega⟩
    obtain ⟨ub, hub⟩ : ∃ x, x = IntKind.u64.wrap b := ⟨_, rfl⟩
    have gb5 : IntKind.u64.wrap b = ub := hub.symm
    clear hnb hub
    simp only [pairV, wordsV] at hp
    obtain ⟨H, hH⟩ : ∃ x, x = hiW (a * nb) := ⟨_, rfl⟩
    obtain ⟨L, hL⟩ : ∃ x, x = loW (a * nb) := ⟨_, rfl⟩
    unfold sgnV
    rw [← hH, ← hL] at hp ⊢
    have HP := Lib.hid hp
    clear hp hH hL ha1 ha2 hb1 hb2
    go_enter Tryz.func16, Tryz.ntmps16
    go_wp2_with fail
    refine (HP.out _).mono ?_
    rintro e w1 ⟨rfl, hb⟩
    have h0 := (Below.refl w.heap.size w).alloc (Nat.le_refl _) (Obj.cells #[.bool false, .int .u64 0, .int .u64 0] 46)
    have hbel := h0.trans (hb.mono h0.size)
    have z0 : w1.cell? ⟨w.heap.size, 0, none⟩ = some (.bool false) := (hb.cell (p := ⟨w.heap.size, 0, none⟩) (by rw [World.size_alloc]; exact Nat.lt_succ_self _)).trans (World.cell?_alloc_new _ _ _ _)
    have z1 : w1.cell? ⟨w.heap.size, 1, none⟩ = some (.int .u64 0) := (hb.cell (p := ⟨w.heap.size, 1, none⟩) (by rw [World.size_alloc]; exact Nat.lt_succ_self _)).trans (World.cell?_alloc_new _ _ _ _)
    have z2 : w1.cell? ⟨w.heap.size, 2, none⟩ = some (.int .u64 0) := (hb.cell (p := ⟨w.heap.size, 2, none⟩) (by rw [World.size_alloc]; exact Nat.lt_succ_self _)).trans (World.cell?_alloc_new _ _ _ _)
    have zf : ∀ o, w1.frozen? ⟨w.heap.size, o, none⟩ = false := fun o => (hb.frozen (p := ⟨w.heap.size, o, none⟩) (by rw [World.size_alloc]; exact Nat.lt_succ_self _)).trans (by simp)
    have HB := Lib.hid hbel
    clear hb h0 hbel
    obtain ⟨R, hR⟩ : ∃ x, x = w.heap.size := ⟨_, rfl⟩
    have hwR : w.heap.size ≤ R := by omega
    rw [← hR] at z0 z1 z2 zf
    try rw [← hR]
    clear hR
    have k0 : (((w1.setCell ⟨R, 0, none⟩ (.bool true)).setCell ⟨R, 1, none⟩ (.int .u64 H)).setCell ⟨R, 2, none⟩ (.int .u64 L)).cell? ⟨R, 0, none⟩ = some (.bool true) := by
      rw [World.cell?_setCell_other _ _ _ _ (by simp), World.cell?_setCell_other _ _ _ _ (by simp)]; exact World.cell?_setCell_same _ _ _ z0
    have k1 : (((w1.setCell ⟨R, 0, none⟩ (.bool true)).setCell ⟨R, 1, none⟩ (.int .u64 H)).setCell ⟨R, 2, none⟩ (.int .u64 L)).cell? ⟨R, 1, none⟩ = some (.int .u64 H) := by
      rw [World.cell?_setCell_other _ _ _ _ (by simp)]; exact World.cell?_setCell_same _ _ _ (by rw [World.cell?_setCell_other _ _ _ _ (by simp)]; exact z1)
    have k2 : (((w1.setCell ⟨R, 0, none⟩ (.bool true)).setCell ⟨R, 1, none⟩ (.int .u64 H)).setCell ⟨R, 2, none⟩ (.int .u64 L)).cell? ⟨R, 2, none⟩ = some (.int .u64 L) :=
      World.cell?_setCell_same _ _ _ (by rw [World.cell?_setCell_other _ _ _ _ (by simp), World.cell?_setCell_other _ _ _ _ (by simp)]; exact z2)
    go_wp2_with fail
    (try simp only [Exit.inBlock, Exit.then])
    refine bodyPost_ret (v := .agg #[.bool true, .int .u64 H, .int .u64 L]) (by simp [results, Tryz.results16, go_sem, k0, k1, k2]; try rfl) rfl ?_
    first | exact ⟨rfl, ((HB.out.setCell hwR _).setCell hwR _).setCell hwR _⟩ | exact ⟨rfl, (((HB.out.setCell hwR _).setCell hwR _).setCell hwR _).drew⟩
  · have t1 : decide (a < 0) = false := decide_eq_false (by omega)
    have t2 : decide (b < 0) = false := decide_eq_false (by omega)
    rw [t1, t2, show absI a = a by unfold absI; rw [if_neg (by omega)], show absI b = b by unfold absI; rw [if_neg (by omega)]]
    have hp := fun w => rproduct_any a b w (by omega) (by omega) (by omega) (by omega)
    have ga4 : IntKind.u64.wrap a = a := IntWalk.u64_in _ ⟨by omega, by omega⟩
    have gb4 : IntKind.u64.wrap b = b := IntWalk.u64_in _ ⟨by omega, by omega⟩
    simp only [pairV, wordsV] at hp
    obtain ⟨H, hH⟩ : ∃ x, x = hiW (a * b) := ⟨_, rfl⟩
    obtain ⟨L, hL⟩ : ∃ x, x = loW (a * b) := ⟨_, rfl⟩
    unfold sgnV
    rw [← hH, ← hL] at hp ⊢
    have HP := Lib.hid hp
    clear hp hH hL ha1 ha2 hb1 hb2
    go_enter Tryz.func16, Tryz.ntmps16
    go_wp2_with fail
    refine (HP.out _).mono ?_
    rintro e w1 ⟨rfl, hb⟩
    have h0 := (Below.refl w.heap.size w).alloc (Nat.le_refl _) (Obj.cells #[.bool false, .int .u64 0, .int .u64 0] 46)
    have hbel := h0.trans (hb.mono h0.size)
    have z0 : w1.cell? ⟨w.heap.size, 0, none⟩ = some (.bool false) := (hb.cell (p := ⟨w.heap.size, 0, none⟩) (by rw [World.size_alloc]; exact Nat.lt_succ_self _)).trans (World.cell?_alloc_new _ _ _ _)
    have z1 : w1.cell? ⟨w.heap.size, 1, none⟩ = some (.int .u64 0) := (hb.cell (p := ⟨w.heap.size, 1, none⟩) (by rw [World.size_alloc]; exact Nat.lt_succ_self _)).trans (World.cell?_alloc_new _ _ _ _)
    have z2 : w1.cell? ⟨w.heap.size, 2, none⟩ = some (.int .u64 0) := (hb.cell (p := ⟨w.heap.size, 2, none⟩) (by rw [World.size_alloc]; exact Nat.lt_succ_self _)).trans (World.cell?_alloc_new _ _ _ _)
    have zf : ∀ o, w1.frozen? ⟨w.heap.size, o, none⟩ = false := fun o => (hb.frozen (p := ⟨w.heap.size, o, none⟩) (by rw [World.size_alloc]; exact Nat.lt_succ_self _)).trans (by simp)
    have HB := Lib.hid hbel
    clear hb h0 hbel
    obtain ⟨R, hR⟩ : ∃ x, x = w.heap.size := ⟨_, rfl⟩
    have hwR : w.heap.size ≤ R := by omega
    rw [← hR] at z0 z1 z2 zf
    try rw [← hR]
    clear hR
    have k0 : (((w1.setCell ⟨R, 0, none⟩ (.bool false)).setCell ⟨R, 1, none⟩ (.int .u64 H)).setCell ⟨R, 2, none⟩ (.int .u64 L)).cell? ⟨R, 0, none⟩ = some (.bool false) := by
      rw [World.cell?_setCell_other _ _ _ _ (by simp), World.cell?_setCell_other _ _ _ _ (by simp)]; exact World.cell?_setCell_same _ _ _ z0
    have k1 : (((w1.setCell ⟨R, 0, none⟩ (.bool false)).setCell ⟨R, 1, none⟩ (.int .u64 H)).setCell ⟨R, 2, none⟩ (.int .u64 L)).cell? ⟨R, 1, none⟩ = some (.int .u64 H) := by
      rw [World.cell?_setCell_other _ _ _ _ (by simp)]; exact World.cell?_setCell_same _ _ _ (by rw [World.cell?_setCell_other _ _ _ _ (by simp)]; exact z1)
    have k2 : (((w1.setCell ⟨R, 0, none⟩ (.bool false)).setCell ⟨R, 1, none⟩ (.int .u64 H)).setCell ⟨R, 2, none⟩ (.int .u64 L)).cell? ⟨R, 2, none⟩ = some (.int .u64 L) :=
      World.cell?_setCell_same _ _ _ (by rw [World.cell?_setCell_other _ _ _ _ (by simp), World.cell?_setCell_other _ _ _ _ (by simp)]; exact z2)
    go_wp2_with fail
    (try simp only [Exit.inBlock, Exit.then])
    refine bodyPost_ret (v := .agg #[.bool false, .int .u64 H, .int .u64 L]) (by simp [results, Tryz.results16, go_sem, k0, k1, k2]; try rfl) rfl ?_
    first | exact ⟨rfl, ((HB.out.setCell hwR _).setCell hwR _).setCell hwR _⟩ | exact ⟨rfl, (((HB.out.setCell hwR _).setCell hwR _).setCell hwR _).drew⟩

end Go.Proofs.YtlahoohgbfjciaaGreatDoor
