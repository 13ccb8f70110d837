/- Contracts of Active and Under. -/
import Derived.Test.YtlmilalibgehpaaI
namespace Go.Proofs.Ytlmilalibgehpaa
open Go.RowKit

theorem fresh_keptR {p w2 : World} {A : Array Value} {t : TypeId} (hb : Below (p.alloc (Obj.cells A t)).heap.size (p.alloc (Obj.cells A t)) w2) : RowAt w2 p.heap.size A.toList := (row_fresh p A t).keep hb
theorem fresh_keptR_drew {p w2 : World} {A : Array Value} {t : TypeId} (hb : Below (p.alloc (Obj.cells A t)).drew.heap.size (p.alloc (Obj.cells A t)).drew w2) : RowAt w2 p.heap.size A.toList := (row_fresh p A t).drew.keep hb
theorem rkept {w w' : World} {b : Nat} {L : List Value} (h : RowAt w b L) (hb : Below w.heap.size w w') : RowAt w' b L := h.keep hb
theorem rkept_drew {w w' : World} {b : Nat} {L : List Value} (h : RowAt w b L) (hb : Below w.drew.heap.size w.drew w') : RowAt w' b L := h.drew.keep hb
abbrev OS (w : World) (h : Nat) (c m : Int) (w' : World) : Prop := w'.cell? ⟨h, 0, none⟩ = some (.int .i64 c) ∧ w'.cell? ⟨h, 1, none⟩ = some (.int .i64 m) ∧ Below w.heap.size w w'
theorem os_keep {w w1 w2 : World} {h : Nat} {c m : Int} (hb : Below w1.heap.size w1 w2) (s : OS w h c m w1) : OS w h c m w2 := by
  obtain ⟨s0, s1, B⟩ := s
  have hh : h < w1.heap.size := World.block_lt_of_cell? _ _ s0
  exact ⟨(hb.cell (p := ⟨h, 0, none⟩) hh).trans s0, (hb.cell (p := ⟨h, 1, none⟩) hh).trans s1, B.trans (hb.mono B.size)⟩
theorem os_drew {w w1 : World} {h : Nat} {c m : Int} (s : OS w h c m w1) : OS w h c m w1.drew := ⟨s.1, s.2.1, s.2.2.drew⟩
theorem os_alloc {w w1 : World} {h : Nat} {c m : Int} (x : Obj) (s : OS w h c m w1) : OS w h c m (w1.alloc x) := os_keep ((Below.refl _ _).alloc (Nat.le_refl _) x) s
theorem os_store {w w1 : World} {h r : Nat} {c m : Int} (hne : r ≠ h) (hr : w.heap.size ≤ r) (k : Nat) (x : Value) (s : OS w h c m w1) : OS w h c m (w1.setCell ⟨r, k, none⟩ x) :=
  ⟨(World.cell?_setCell_other _ _ _ _ (fun e => hne (congrArg Addr.block e))).trans s.1, (World.cell?_setCell_other _ _ _ _ (fun e => hne (congrArg Addr.block e))).trans s.2.1, s.2.2.setCell (p := ⟨r, k, none⟩) hr x⟩
theorem undV_is (S : Nat → WrD) (lv : Nat) (c m : Int) : ∃ x y z : Int, undV S lv c m = .tuple #[.int .i64 x, .agg #[.int .i64 y, .int .i64 z]] := by
  unfold undV
  split
  · exact ⟨_, _, _, rfl⟩
  · exact ⟨_, _, _, rfl⟩

set_option maxHeartbeats 4000000 in
set_option maxRecDepth 100000 in
theorem active_any (a : Option Addr) (cap : Nat) (xs : List WrD) (c m : Int) (w : World) (hmax : xs.length ≤ 200) (hin : InS w a xs.length 4 (flat wrL xs)) : Calls Try.prog 21 #[.slice a xs.length cap, .agg #[.int .i64 c, .int .i64 m]] w fun e w' => e = .returned (undV (bestS xs) 0 c m) ∧ Below w.heap.size w w' := by
  obtain ⟨x, y, z, hu⟩ := undV_is (bestS xs) 0 c m
  have hun := fun w => under_any (bestS xs) 0 (by omega) c m w
  rw [hu] at hun ⊢
  obtain ⟨C, hC⟩ : ∃ C, C = (slotC (bestS xs)).toArray := ⟨_, rfl⟩
  have HS := Lib.hid (show ∀ w1, Below w.heap.size w w1 → Calls Try.prog 33 #[.slice a xs.length cap] w1 fun e w' => e = .returned (.agg C) ∧ Below w1.heap.size w1 w' by rw [hC]; exact fun w1 hb => slotsOf_any a cap xs w1 hmax (hin.keep hb))
  have HU := Lib.hid (show ∀ w, Calls Try.prog 37 #[.agg C, .int .i64 0, .agg #[.int .i64 c, .int .i64 m]] w fun e w' => e = .returned (.tuple #[.int .i64 x, .agg #[.int .i64 y, .int .i64 z]]) ∧ Below w.heap.size w w' by rw [hC]; exact hun)
  obtain ⟨N, hN⟩ : ∃ N, N = xs.length := ⟨_, rfl⟩
  rw [← hN] at HS ⊢
  obtain ⟨W, h, r, hW, hh, hr, RO, RR, B, sz⟩ := box2 w #[.int .i64 c, .int .i64 m] 23 #[.int .i64 0, .int .i64 0] 23
  have HR0 := Lib.hid RR
  have HD := Lib.hid (show OS w h c m W from ⟨RO.c 0 _ rfl, RO.c 1 _ rfl, B⟩)
  have HDD := Lib.hid (os_drew HD.out)
  have HWR := Lib.hid (show w.heap.size ≤ r by omega)
  have HRH := Lib.hid (show r ≠ h by omega)
  clear hu hun hC hmax hin hN RR B sz
  go_enter Try.func21, Try.ntmps21
  go_wp2_with fail
  rw [← hW]
  try rw [← hr]
  try rw [← hh]
  clear hW hr hh
  have o0 := RO.c 0 _ rfl
  have o1 := RO.c 1 _ rfl
  clear RO
  go_region_held3 (fun w' => w'.cell? ⟨h, 0, none⟩ = some (.int .i64 c) ∧ w'.cell? ⟨h, 1, none⟩ = some (.int .i64 m) ∧ Below w.heap.size w w')
    (first | (with_reducible exact HD.out) | (with_reducible exact HDD.out) | (with_reducible exact HS1.out) | (with_reducible exact HS2.out) | (with_reducible exact os_store HRH.out HWR.out _ _ (os_store HRH.out HWR.out _ _ HS2.out)) | (with_reducible exact os_drew (os_store HRH.out HWR.out _ _ (os_store HRH.out HWR.out _ _ HS2.out))) | go_keep)
    (first | (go_at_call 33; refine (HS.out _ (by first | exact HD.out.2.2 | exact HDD.out.2.2)).mono ?_; rintro e x1 ⟨rfl, hb2⟩; have KB1 : Hid (Below W.heap.size W x1) := (by first | exact hb2 | exact (Below.refl _ _).drew.trans hb2); have HS1 : Hid (OS w h c m x1) := os_keep KB1.out HD.out) | (go_at_call 37; refine (HU.out _).mono ?_; rintro e x2 ⟨rfl, hb2⟩; have KB2 : Hid (Below W.heap.size W x2) := KB1.out.trans (hb2.mono KB1.out.size); have HS2 : Hid (OS w h c m x2) := os_keep KB2.out HD.out; have rr := HR0.out.keep KB2.out; have n0 := rr.c 0 _ rfl; have n1 := rr.c 1 _ rfl; have nz := rr.fz))
  all_goals
    rename_i hHeld
    clear hHeld
    have hs := (HR0.out.keep KB2.out).setRow [.int .i64 y, .int .i64 z] rfl
    have hB := set_below HS2.out.2.2 HWR.out [.int .i64 y, .int .i64 z]
    have y0 : ((x2.setCell ⟨r, 0, none⟩ (.int .i64 y)).setCell ⟨r, 1, none⟩ (.int .i64 z)).cell? ⟨r, 0, none⟩ = some (.int .i64 y) := hs.c 0 _ rfl
    have y1 : ((x2.setCell ⟨r, 0, none⟩ (.int .i64 y)).setCell ⟨r, 1, none⟩ (.int .i64 z)).cell? ⟨r, 1, none⟩ = some (.int .i64 z) := hs.c 1 _ rfl
    go_wp2_with fail
    (try simp only [Exit.inBlock, Exit.then])
    refine bodyPost_ret (by simp [results, Try.results21, go_sem, y0, y1]; try rfl) rfl ?_
    exact ⟨rfl, hB⟩

def undW (S : Nat → WrD) (l c m : Int) : Value := if l = 0 ∨ lvB l = true then (match undV S l.toNat c m with | .tuple a => .tuple (a.push (.int .i64 0)) | v => v) else .tuple #[.int .i64 0, .agg #[.int .i64 0, .int .i64 0], .int .i64 1]
theorem undW_ok {S : Nat → WrD} {l c m x y z : Int} (h : l = 0 ∨ lvB l = true) (hu : undV S l.toNat c m = .tuple #[.int .i64 x, .agg #[.int .i64 y, .int .i64 z]]) : undW S l c m = .tuple #[.int .i64 x, .agg #[.int .i64 y, .int .i64 z], .int .i64 0] := by
  unfold undW
  rw [if_pos h, hu]; rfl
set_option maxHeartbeats 4000000 in
set_option maxRecDepth 100000 in
theorem punder_any (a : Option Addr) (cap : Nat) (xs : List WrD) (l c m : Int) (w : World) (hmax : xs.length ≤ 200) (hin : InS w a xs.length 4 (flat wrL xs)) : Calls Try.prog 25 #[.slice a xs.length cap, .int .i64 l, .agg #[.int .i64 c, .int .i64 m]] w fun e w' => e = .returned (undW (bestS xs) l c m) ∧ Below w.heap.size w w' := by
  have hlv := fun w => level_any l w
  obtain ⟨Z, hZ⟩ : ∃ Z, Z = lvB l := ⟨_, rfl⟩
  rw [← hZ] at hlv
  have HLV := Lib.hid hlv
  obtain ⟨W, h, r, hW, hh, hr, RO, RR, B, sz⟩ := box2 w #[.int .i64 c, .int .i64 m] 23 #[.int .i64 0, .int .i64 0] 23
  have HWR := Lib.hid (show w.heap.size ≤ r by omega)
  have HRH := Lib.hid (show r ≠ h by omega)
  have HO0 := Lib.hid RO
  have HR0 := Lib.hid RR
  have HB0 := Lib.hid B
  have hcase : (l = 0 ∨ (l ≠ 0 ∧ Z = true)) ∨ (l ≠ 0 ∧ Z = false) := by
    by_cases h0 : l = 0
    · exact .inl (.inl h0)
    · cases Z
      · exact .inr ⟨h0, rfl⟩
      · exact .inl (.inr ⟨h0, rfl⟩)
  have HZ := Lib.hid hZ
  clear hlv hZ RO RR B sz
  rcases hcase with hok | ⟨h0, rfl⟩
  · have hl16 : 0 ≤ l ∧ l ≤ 16 := by
      rcases hok with h | ⟨_, rfl⟩
      · omega
      · have := HZ.out.symm
        unfold lvB at this
        simp at this
        omega
    have hor : l = 0 ∨ lvB l = true := by
      rcases hok with h | ⟨_, h⟩
      · exact .inl h
      · exact .inr (HZ.out.symm.trans h)
    obtain ⟨x, y, z, hu⟩ := undV_is (bestS xs) l.toNat c m
    have HV := Lib.hid (undW_ok hor hu)
    have hun := fun w => under_any (bestS xs) l.toNat (by omega) c m w
    rw [hu, Int.toNat_of_nonneg hl16.1] at hun
    obtain ⟨C, hC⟩ : ∃ C, C = (slotC (bestS xs)).toArray := ⟨_, rfl⟩
    have HS := Lib.hid (show ∀ w1, Below w.heap.size w w1 → Calls Try.prog 33 #[.slice a xs.length cap] w1 fun e w' => e = .returned (.agg C) ∧ Below w1.heap.size w1 w' by rw [hC]; exact fun w1 hb => slotsOf_any a cap xs w1 hmax (hin.keep hb))
    have HU := Lib.hid (show ∀ w, Calls Try.prog 37 #[.agg C, .int .i64 l, .agg #[.int .i64 c, .int .i64 m]] w fun e w' => e = .returned (.tuple #[.int .i64 x, .agg #[.int .i64 y, .int .i64 z]]) ∧ Below w.heap.size w w' by rw [hC]; exact hun)
    obtain ⟨N, hN⟩ : ∃ N, N = xs.length := ⟨_, rfl⟩
    rw [← hN] at HS ⊢
    clear hl16 hor hu hun hC hmax hin hN HZ
    rcases hok with rfl | ⟨h0, rfl⟩
    · go_enter Try.func25, Try.ntmps25
      go_wp2_with fail
      rw [← hW]
      try rw [← hr]
      try rw [← hh]
      clear hW hr hh HLV
      have HD := Lib.hid (show OS w h c m W from ⟨HO0.out.c 0 _ rfl, HO0.out.c 1 _ rfl, HB0.out⟩)
      have HDD := Lib.hid (os_drew HD.out)
      have o0 := HO0.out.c 0 _ rfl
      have o1 := HO0.out.c 1 _ rfl
      have HNH := Lib.hid (show W.heap.size ≠ h from Nat.ne_of_gt HO0.out.lt)
      have HNW := Lib.hid HB0.out.size
      go_wp2_with fail
      go_cut [9, 10] from 11 to 28 (fun xx p wx => xx = .int .i64 x ∧ ∃ M : Nat, p = .pointer (some ⟨M, 0, none⟩) ∧ RowAt wx M [.int .i64 y, .int .i64 z] ∧ W.heap.size ≤ M ∧ Below W.heap.size W wx)
      case first =>
        go_region_held3 (fun w' => w'.cell? ⟨h, 0, none⟩ = some (.int .i64 c) ∧ w'.cell? ⟨h, 1, none⟩ = some (.int .i64 m) ∧ Below w.heap.size w w')
          (first | (with_reducible exact HD.out) | (with_reducible exact HDD.out) | (with_reducible exact HS1.out) | (with_reducible exact HS2.out) | (with_reducible exact os_alloc _ HD.out) | (with_reducible exact os_drew (os_alloc _ HD.out)) | (with_reducible exact os_alloc _ HS1.out) | (with_reducible exact os_alloc _ HS2.out) | (with_reducible exact os_store HNH.out HNW.out _ _ (os_store HNH.out HNW.out _ _ HS2.out)) | (with_reducible exact os_store HNH1.out HNW1.out _ _ (os_store HNH1.out HNW1.out _ _ HS2.out)) | go_keep)
          (first | (go_at_call 33; refine (HS.out _ (by first | exact HD.out.2.2 | exact HDD.out.2.2 | exact (os_alloc _ HD.out).2.2 | exact (os_drew (os_alloc _ HD.out)).2.2)).mono ?_; rintro e x1 ⟨rfl, hb2⟩; have KB1 : Hid (Below W.heap.size W x1) := (by first | exact hb2 | exact (Below.refl _ _).drew.trans hb2 | exact ((Below.refl _ _).alloc (Nat.le_refl _) _).trans (hb2.mono (by rw [World.size_alloc]; omega)) | exact ((Below.refl _ _).alloc (Nat.le_refl _) _).drew.trans (hb2.mono (by show _ ≤ (World.alloc _ _).heap.size; rw [World.size_alloc]; omega))); have HS1 : Hid (OS w h c m x1) := os_keep KB1.out HD.out; (first | (with_reducible have nn := fresh_keptR hb2) | (with_reducible have nn := fresh_keptR_drew hb2) | skip); (try (have n0 := nn.c 0 _ rfl; have n1 := nn.c 1 _ rfl; have nz := nn.fz)); have HNH1 := Lib.hid (show x1.heap.size ≠ h from Nat.ne_of_gt (Nat.lt_of_lt_of_le HO0.out.lt KB1.out.size)); have HNW1 := Lib.hid (Nat.le_trans HB0.out.size KB1.out.size)) | (go_at_call 37; refine (HU.out _).mono ?_; rintro e x2 ⟨rfl, hb2⟩; have KB2 : Hid (Below W.heap.size W x2) := (by first | exact KB1.out.trans (hb2.mono KB1.out.size) | exact (KB1.out.alloc KB1.out.size _).trans (hb2.mono (by rw [World.size_alloc]; have := KB1.out.size; omega))); have HS2 : Hid (OS w h c m x2) := os_keep KB2.out HD.out; (first | (with_reducible have nn := fresh_keptR hb2) | (with_reducible have nn := fresh_keptR_drew hb2) | (with_reducible have nn := rkept nn hb2) | (with_reducible have nn := rkept_drew nn hb2) | skip); (try (have n0 := nn.c 0 _ rfl; have n1 := nn.c 1 _ rfl; have nz := nn.fz))))
        all_goals
          rename_i hHeld
          clear hHeld
          go_wp2_with fail
          go_meet
          first
            | exact ⟨rfl, _, rfl, row_fresh x2 #[.int .i64 y, .int .i64 z] 23, KB2.out.size, KB2.out.alloc KB2.out.size _⟩
            | exact ⟨rfl, _, rfl, nn.setRow [.int .i64 y, .int .i64 z] rfl, KB1.out.size, set_below KB2.out KB1.out.size [.int .i64 y, .int .i64 z]⟩
            | exact ⟨rfl, _, rfl, nn.setRow [.int .i64 y, .int .i64 z] rfl, Nat.le_refl _, set_below KB2.out (Nat.le_refl _) [.int .i64 y, .int .i64 z]⟩
      case rest =>
        obtain ⟨rfl, M, rfl, hM, hMb, hK⟩ := hcut
        have HRr := Lib.hid (HR0.out.keep hK)
        have HBr := Lib.hid (HB0.out.trans (hK.mono HB0.out.size))
        have hrM : r ≠ M := by have := HR0.out.lt; omega
        have m0 := hM.c 0 _ rfl
        have m1 := hM.c 1 _ rfl
        have s0 := HRr.out.c 0 _ rfl
        have s1 := HRr.out.c 1 _ rfl
        have sz := HRr.out.fz
        clear o0 o1 HD HDD HNH HNW hK hMb hM HS HU
        go_wp2_with fail
        go_region_held3 (fun w' => w'.cell? ⟨M, 0, none⟩ = some (.int .i64 y) ∧ w'.cell? ⟨M, 1, none⟩ = some (.int .i64 z)) (first | go_keep) ((fail))
        all_goals
          rename_i hHeld
          clear hHeld
          have hs := HRr.out.setRow [.int .i64 y, .int .i64 z] rfl
          have hB := (set_below HBr.out HWR.out [.int .i64 y, .int .i64 z]).drew
          have y0 : ((wc.setCell ⟨r, 0, none⟩ (.int .i64 y)).setCell ⟨r, 1, none⟩ (.int .i64 z)).cell? ⟨r, 0, none⟩ = some (.int .i64 y) := hs.c 0 _ rfl
          have y1 : ((wc.setCell ⟨r, 0, none⟩ (.int .i64 y)).setCell ⟨r, 1, none⟩ (.int .i64 z)).cell? ⟨r, 1, none⟩ = some (.int .i64 z) := hs.c 1 _ rfl
          go_wp2_with fail
          (try simp only [Exit.inBlock, Exit.then])
          refine bodyPost_ret (by simp [results, Try.results25, go_sem, y0, y1]; try rfl) rfl ?_
          exact ⟨congrArg Ending.returned HV.out.symm, hB⟩
    · have t1 : (l != 0) = true := by simpa using h0
      clear h0
      go_enter Try.func25, Try.ntmps25
      go_wp2_with fail
      rw [← hW]
      try rw [← hr]
      try rw [← hh]
      clear hW hr hh
      refine (HLV.out _).mono ?_
      rintro e w1 ⟨rfl, hb⟩
      have HR1 := Lib.hid (HR0.out.keep hb)
      have HO1 := Lib.hid (HO0.out.keep hb)
      have HB1 := Lib.hid (HB0.out.trans (hb.mono HB0.out.size))
      clear hb HR0 HO0 HB0 HLV
      have HD := Lib.hid (show OS w h c m w1 from ⟨HO1.out.c 0 _ rfl, HO1.out.c 1 _ rfl, HB1.out⟩)
      have HDD := Lib.hid (os_drew HD.out)
      have o0 := HO1.out.c 0 _ rfl
      have o1 := HO1.out.c 1 _ rfl
      have HNH := Lib.hid (show w1.heap.size ≠ h from Nat.ne_of_gt HO1.out.lt)
      have HNW := Lib.hid HB1.out.size
      go_wp2_with fail
      go_cut [9, 10] from 11 to 28 (fun xx p wx => xx = .int .i64 x ∧ ∃ M : Nat, p = .pointer (some ⟨M, 0, none⟩) ∧ RowAt wx M [.int .i64 y, .int .i64 z] ∧ w1.heap.size ≤ M ∧ Below w1.heap.size w1 wx)
      case first =>
        go_region_held3 (fun w' => w'.cell? ⟨h, 0, none⟩ = some (.int .i64 c) ∧ w'.cell? ⟨h, 1, none⟩ = some (.int .i64 m) ∧ Below w.heap.size w w')
          (first | (with_reducible exact HD.out) | (with_reducible exact HDD.out) | (with_reducible exact HS1.out) | (with_reducible exact HS2.out) | (with_reducible exact os_alloc _ HD.out) | (with_reducible exact os_drew (os_alloc _ HD.out)) | (with_reducible exact os_alloc _ HS1.out) | (with_reducible exact os_alloc _ HS2.out) | (with_reducible exact os_store HNH.out HNW.out _ _ (os_store HNH.out HNW.out _ _ HS2.out)) | (with_reducible exact os_store HNH1.out HNW1.out _ _ (os_store HNH1.out HNW1.out _ _ HS2.out)) | go_keep)
          (first | (go_at_call 33; refine (HS.out _ (by first | exact HD.out.2.2 | exact HDD.out.2.2 | exact (os_alloc _ HD.out).2.2 | exact (os_drew (os_alloc _ HD.out)).2.2)).mono ?_; rintro e x1 ⟨rfl, hb2⟩; have KB1 : Hid (Below w1.heap.size w1 x1) := (by first | exact hb2 | exact (Below.refl _ _).drew.trans hb2 | exact ((Below.refl _ _).alloc (Nat.le_refl _) _).trans (hb2.mono (by rw [World.size_alloc]; omega)) | exact ((Below.refl _ _).alloc (Nat.le_refl _) _).drew.trans (hb2.mono (by show _ ≤ (World.alloc _ _).heap.size; rw [World.size_alloc]; omega))); have HS1 : Hid (OS w h c m x1) := os_keep KB1.out HD.out; (first | (with_reducible have nn := fresh_keptR hb2) | (with_reducible have nn := fresh_keptR_drew hb2) | skip); (try (have n0 := nn.c 0 _ rfl; have n1 := nn.c 1 _ rfl; have nz := nn.fz)); have HNH1 := Lib.hid (show x1.heap.size ≠ h from Nat.ne_of_gt (Nat.lt_of_lt_of_le HO1.out.lt KB1.out.size)); have HNW1 := Lib.hid (Nat.le_trans HB1.out.size KB1.out.size)) | (go_at_call 37; refine (HU.out _).mono ?_; rintro e x2 ⟨rfl, hb2⟩; have KB2 : Hid (Below w1.heap.size w1 x2) := (by first | exact KB1.out.trans (hb2.mono KB1.out.size) | exact (KB1.out.alloc KB1.out.size _).trans (hb2.mono (by rw [World.size_alloc]; have := KB1.out.size; omega))); have HS2 : Hid (OS w h c m x2) := os_keep KB2.out HD.out; (first | (with_reducible have nn := fresh_keptR hb2) | (with_reducible have nn := fresh_keptR_drew hb2) | (with_reducible have nn := rkept nn hb2) | (with_reducible have nn := rkept_drew nn hb2) | skip); (try (have n0 := nn.c 0 _ rfl; have n1 := nn.c 1 _ rfl; have nz := nn.fz))))
        all_goals
          rename_i hHeld
          clear hHeld
          go_wp2_with fail
          go_meet
          first
            | exact ⟨rfl, _, rfl, row_fresh x2 #[.int .i64 y, .int .i64 z] 23, KB2.out.size, KB2.out.alloc KB2.out.size _⟩
            | exact ⟨rfl, _, rfl, nn.setRow [.int .i64 y, .int .i64 z] rfl, KB1.out.size, set_below KB2.out KB1.out.size [.int .i64 y, .int .i64 z]⟩
            | exact ⟨rfl, _, rfl, nn.setRow [.int .i64 y, .int .i64 z] rfl, Nat.le_refl _, set_below KB2.out (Nat.le_refl _) [.int .i64 y, .int .i64 z]⟩
      case rest =>
        obtain ⟨rfl, M, rfl, hM, hMb, hK⟩ := hcut
        have HRr := Lib.hid (HR1.out.keep hK)
        have HBr := Lib.hid (HB1.out.trans (hK.mono HB1.out.size))
        have hrM : r ≠ M := by have := HR1.out.lt; omega
        have m0 := hM.c 0 _ rfl
        have m1 := hM.c 1 _ rfl
        have s0 := HRr.out.c 0 _ rfl
        have s1 := HRr.out.c 1 _ rfl
        have sz := HRr.out.fz
        clear o0 o1 HD HDD HNH HNW hK hMb hM HS HU
        go_wp2_with fail
        go_region_held3 (fun w' => w'.cell? ⟨M, 0, none⟩ = some (.int .i64 y) ∧ w'.cell? ⟨M, 1, none⟩ = some (.int .i64 z)) (first | go_keep) ((fail))
        all_goals
          rename_i hHeld
          clear hHeld
          have hs := HRr.out.setRow [.int .i64 y, .int .i64 z] rfl
          have hB := (set_below HBr.out HWR.out [.int .i64 y, .int .i64 z]).drew
          have y0 : ((wc.setCell ⟨r, 0, none⟩ (.int .i64 y)).setCell ⟨r, 1, none⟩ (.int .i64 z)).cell? ⟨r, 0, none⟩ = some (.int .i64 y) := hs.c 0 _ rfl
          have y1 : ((wc.setCell ⟨r, 0, none⟩ (.int .i64 y)).setCell ⟨r, 1, none⟩ (.int .i64 z)).cell? ⟨r, 1, none⟩ = some (.int .i64 z) := hs.c 1 _ rfl
          go_wp2_with fail
          (try simp only [Exit.inBlock, Exit.then])
          refine bodyPost_ret (by simp [results, Try.results25, go_sem, y0, y1]; try rfl) rfl ?_
          exact ⟨congrArg Ending.returned HV.out.symm, hB⟩
  · have HV := Lib.hid (show undW (bestS xs) l c m = .tuple #[.int .i64 0, .agg #[.int .i64 0, .int .i64 0], .int .i64 1] from if_neg (by rintro (h | h); exact h0 h; rw [← HZ.out] at h; cases h))
    have t1 : (l != 0) = true := by simpa using h0
    obtain ⟨N, hN⟩ : ∃ N, N = xs.length := ⟨_, rfl⟩
    rw [← hN]
    clear hin hmax hN h0
    go_enter Try.func25, Try.ntmps25
    go_wp2_with fail
    rw [← hW]
    try rw [← hr]
    try rw [← hh]
    clear hW hr hh
    refine (HLV.out _).mono ?_
    rintro e w1 ⟨rfl, hb⟩
    have HR1 := Lib.hid (HR0.out.keep hb)
    have HB1 := Lib.hid (HB0.out.trans (hb.mono HB0.out.size))
    clear hb
    have s0 := HR1.out.c 0 _ rfl
    have s1 := HR1.out.c 1 _ rfl
    have sz := HR1.out.fz
    go_wp2_with fail
    have hs := (HR1.out).setRow [.int .i64 0, .int .i64 0] rfl
    have y0 : ((w1.setCell ⟨r, 0, none⟩ (.int .i64 0)).setCell ⟨r, 1, none⟩ (.int .i64 0)).cell? ⟨r, 0, none⟩ = some (.int .i64 0) := hs.c 0 _ rfl
    have y1 : ((w1.setCell ⟨r, 0, none⟩ (.int .i64 0)).setCell ⟨r, 1, none⟩ (.int .i64 0)).cell? ⟨r, 1, none⟩ = some (.int .i64 0) := hs.c 1 _ rfl
    (try simp only [Exit.inBlock, Exit.then])
    refine bodyPost_ret (by simp [results, Try.results25, go_sem, y0, y1]; try rfl) rfl ?_
    exact ⟨congrArg Ending.returned HV.out.symm, set_below HB1.out HWR.out [.int .i64 0, .int .i64 0]⟩
end Go.Proofs.Ytlmilalibgehpaa
