/- Eval of the specification at its two names; the law Evals. Asked: the table reads as laid; MaxLen's cell holds some number. -/
import Derived.Test.YtgpbcdelaipifaaDoorEv
namespace Go.Proofs.YtgpbcdelaipifaaDoor
open Go.RowKit Go.Shelf

set_option maxHeartbeats 4000000 in
set_option maxRecDepth 100000 in
theorem reval_e (pa : Option Addr) (np pc : Nat) (ia : Option Addr) (ic : Nat) (vs : List (Int × Int)) (w : World) (hl : vs.length ≤ 10) (hp : np ≤ 10) (hin : InS w ia vs.length 2 (flat pairL vs)) :
    Calls Tryd.prog 28 #[.string ⟨#[101, 110, 116, 104, 97, 108, 112, 121]⟩, .slice pa np pc, .slice ia vs.length ic] w fun e w' => e = .returned (ansV (evalO ⟨#[101, 110, 116, 104, 97, 108, 112, 121]⟩ np vs)) ∧ Below w.heap.size w w' := by
  have HIN := Lib.hid hin
  clear hin
  by_cases h0 : np = 0
  · subst h0
    by_cases h2 : vs.length = 2
    · obtain ⟨⟨k0, x⟩, ⟨k1, h⟩, rfl⟩ := two_of h2
      have HE := Lib.hid (evalO_two ⟨#[101, 110, 116, 104, 97, 108, 112, 121]⟩ k0 x k1 h (Or.inl rfl))
      clear h2 hl
      by_cases hk0 : k0 = 1
      · subst hk0
        have HE2 := Lib.hid (HE.out.trans (if_neg (fun c => c rfl)))
        by_cases hk1 : k1 = 1
        · subst hk1
          have HE3 := Lib.hid (show evalO ⟨#[101, 110, 116, 104, 97, 108, 112, 121]⟩ 0 [(1, x), (1, h)] = (1, entF x (ratF x h), 0) by rw [HE2.out, if_neg (fun c => c rfl)]; rw [if_neg (by decide)])
          obtain ⟨Q, hQ⟩ : ∃ q, q = ratF x h := ⟨_, rfl⟩
          have KR := Lib.hid (fun w => show Calls Tryd.prog 14 #[.int .i64 x, .int .i64 h] w fun e w' => e = .returned (.int .i64 Q) ∧ Below w.heap.size w w' by rw [hQ]; exact rratio_any x h w)
          rw [← hQ] at HE3
          clear HE HE2 hQ
          obtain ⟨W, g, hW, hg, RG, B0, sz⟩ := box1 w #[.int .i64 0, .int .i64 0] 37
          have HG := Lib.hid RG
          have HB := Lib.hid B0
          have HWG := Lib.hid (show w.heap.size ≤ g by omega)
          clear RG B0 sz
          go_enter Tryd.func28, Tryd.ntmps28
          go_upto_region 1 with fail
          rw [← hW]
          try rw [← hg]
          clear hW hg
          have HI2 := Lib.hid (HIN.out.keep HB.out)
          obtain ⟨ib, io, rfl, hil, hic⟩ := (show InS W ia [(1, x), (1, h)].length 2 (flat pairL [(1, x), (1, h)]) from HI2.out).at pairL_len (Nat.succ_pos _)
          have i0 := hic 0 _ rfl 0 _ rfl
          have i1 := hic 0 _ rfl 1 _ rfl
          have i2 := hic 1 _ rfl 0 _ rfl
          have i3 := hic 1 _ rfl 1 _ rfl
          simp only [Nat.zero_mul, Nat.one_mul, Nat.add_zero] at i0 i1 i2 i3
          have HX := Lib.hid (And.intro i1 i3)
          clear hic
          try simp only [List.length_cons, List.length_nil, Nat.zero_add, Nat.reduceAdd]
          go_upto_region 7 with fail
          have zz : W.heap.size ≤ W.heap.size := Nat.le_refl _
          go_region_held3 (fun w' => w'.cell? ⟨ib, io + 1, none⟩ = some (.int .i64 x) ∧ w'.cell? ⟨ib, io + 2 + 1, none⟩ = some (.int .i64 h))
            (first | (with_reducible exact ⟨q1, q2⟩) | go_keep)
            (((with_reducible refine (KR.out _).mono ?_); rintro e w2 ⟨rfl, hb2⟩; have q1 := (hb2.cell (p := ⟨ib, io + 1, none⟩) hil).trans HX.out.1; have q2 := (hb2.cell (p := ⟨ib, io + 2 + 1, none⟩) hil).trans HX.out.2))
          all_goals
            rename_i hHeld
            clear hHeld
            have hb3 : Below W.heap.size W w2.drew := by first | exact ((Below.refl W.heap.size W).drew.trans hb2).drew | exact hb2.drew
            have hb4 : Below W.heap.size W w2 := by first | exact (Below.refl W.heap.size W).drew.trans hb2 | exact hb2
            have HG4 := Lib.hid (HG.out.keep hb4)
            have HB4 := Lib.hid (below_step HB.out hb4)
            have i9 : w2.cell? ⟨ib, io + 1, none⟩ = some (.int .i64 x) := q1
            clear hb2 hb3 hb4 i0 i1 i2 i3 q2
            go_wp2_with fail
            refine (rent_any _ _ _).mono ?_
            rintro e w5 ⟨rfl, hb⟩
            have HG5 := Lib.hid (HG4.out.keep hb)
            have HB5 := Lib.hid (below_step HB4.out hb)
            clear hb i9 q1
            have g_0 := HG5.out.c 0 _ rfl
            have g_1 := HG5.out.c 1 _ rfl
            have g_z := HG5.out.fz
            go_wp2_with fail
            have hs := HG5.out.setRow [.int .i64 1, .int .i64 (entF x Q)] rfl
            have y0 : ((w5.setCell ⟨g, 0, none⟩ (.int .i64 1)).setCell ⟨g, 1, none⟩ (.int .i64 (entF x Q))).cell? ⟨g, 0, none⟩ = some (.int .i64 1) := hs.c 0 _ rfl
            have y1 : ((w5.setCell ⟨g, 0, none⟩ (.int .i64 1)).setCell ⟨g, 1, none⟩ (.int .i64 (entF x Q))).cell? ⟨g, 1, none⟩ = some (.int .i64 (entF x Q)) := hs.c 1 _ rfl
            (try simp only [Exit.inBlock, Exit.then])
            refine bodyPost_ret (by simp [results, Tryd.results28, go_sem, y0, y1]; try rfl) rfl ?_
            exact ⟨by rw [HE3.out]; rfl, set_below HB5.out HWG.out [.int .i64 1, .int .i64 (entF x Q)]⟩
        · have HE3 := Lib.hid (HE2.out.trans (if_pos hk1))
          have e1 : (k1 == 1) = false := beq_eq_false_iff_ne.2 hk1
          have e2 : (k1 != 1) = true := bne_iff_ne.2 hk1
          clear hk1 HE HE2
          obtain ⟨W, g, hW, hg, RG, B0, sz⟩ := box1 w #[.int .i64 0, .int .i64 0] 37
          have HG := Lib.hid RG
          have HB := Lib.hid B0
          have HWG := Lib.hid (show w.heap.size ≤ g by omega)
          clear RG B0 sz
          go_enter Tryd.func28, Tryd.ntmps28
          go_upto_region 1 with fail
          rw [← hW]
          try rw [← hg]
          clear hW hg
          have HI2 := Lib.hid (HIN.out.keep HB.out)
          obtain ⟨ib, io, rfl, hil, hic⟩ := (show InS W ia [(1, x), (k1, h)].length 2 (flat pairL [(1, x), (k1, h)]) from HI2.out).at pairL_len (Nat.succ_pos _)
          have i0 := hic 0 _ rfl 0 _ rfl
          have i1 := hic 0 _ rfl 1 _ rfl
          have i2 := hic 1 _ rfl 0 _ rfl
          have i3 := hic 1 _ rfl 1 _ rfl
          simp only [Nat.zero_mul, Nat.one_mul, Nat.add_zero] at i0 i1 i2 i3
          have HX := Lib.hid (And.intro i1 i3)
          clear hic
          try simp only [List.length_cons, List.length_nil, Nat.zero_add, Nat.reduceAdd]
          have g_0 := HG.out.c 0 _ rfl
          have g_1 := HG.out.c 1 _ rfl
          have g_z := HG.out.fz
          go_wp2_with fail
          have hs := HG.out.setRow [.int .i64 0, .int .i64 0] rfl
          have y0 : ((W.setCell ⟨g, 0, none⟩ (.int .i64 0)).setCell ⟨g, 1, none⟩ (.int .i64 0)).cell? ⟨g, 0, none⟩ = some (.int .i64 0) := hs.c 0 _ rfl
          have y1 : ((W.setCell ⟨g, 0, none⟩ (.int .i64 0)).setCell ⟨g, 1, none⟩ (.int .i64 0)).cell? ⟨g, 1, none⟩ = some (.int .i64 0) := hs.c 1 _ rfl
          (try simp only [Exit.inBlock, Exit.then])
          refine bodyPost_ret (by simp [results, Tryd.results28, go_sem, y0, y1]; try rfl) rfl ?_
          exact ⟨by rw [HE3.out]; rfl, set_below HB.out HWG.out [.int .i64 0, .int .i64 0]⟩
      · have HE3 := Lib.hid (HE.out.trans (if_pos hk0))
        have e1 : (k0 == 1) = false := beq_eq_false_iff_ne.2 hk0
        have e2 : (k0 != 1) = true := bne_iff_ne.2 hk0
        clear hk0 HE
        obtain ⟨W, g, hW, hg, RG, B0, sz⟩ := box1 w #[.int .i64 0, .int .i64 0] 37
        have HG := Lib.hid RG
        have HB := Lib.hid B0
        have HWG := Lib.hid (show w.heap.size ≤ g by omega)
        clear RG B0 sz
        go_enter Tryd.func28, Tryd.ntmps28
        go_upto_region 1 with fail
        rw [← hW]
        try rw [← hg]
        clear hW hg
        have HI2 := Lib.hid (HIN.out.keep HB.out)
        obtain ⟨ib, io, rfl, hil, hic⟩ := (show InS W ia [(k0, x), (k1, h)].length 2 (flat pairL [(k0, x), (k1, h)]) from HI2.out).at pairL_len (Nat.succ_pos _)
        have i0 := hic 0 _ rfl 0 _ rfl
        have i1 := hic 0 _ rfl 1 _ rfl
        have i2 := hic 1 _ rfl 0 _ rfl
        have i3 := hic 1 _ rfl 1 _ rfl
        simp only [Nat.zero_mul, Nat.one_mul, Nat.add_zero] at i0 i1 i2 i3
        have HX := Lib.hid (And.intro i1 i3)
        clear hic
        try simp only [List.length_cons, List.length_nil, Nat.zero_add, Nat.reduceAdd]
        have g_0 := HG.out.c 0 _ rfl
        have g_1 := HG.out.c 1 _ rfl
        have g_z := HG.out.fz
        go_wp2_with fail
        have hs := HG.out.setRow [.int .i64 0, .int .i64 0] rfl
        have y0 : ((W.setCell ⟨g, 0, none⟩ (.int .i64 0)).setCell ⟨g, 1, none⟩ (.int .i64 0)).cell? ⟨g, 0, none⟩ = some (.int .i64 0) := hs.c 0 _ rfl
        have y1 : ((W.setCell ⟨g, 0, none⟩ (.int .i64 0)).setCell ⟨g, 1, none⟩ (.int .i64 0)).cell? ⟨g, 1, none⟩ = some (.int .i64 0) := hs.c 1 _ rfl
        (try simp only [Exit.inBlock, Exit.then])
        refine bodyPost_ret (by simp [results, Tryd.results28, go_sem, y0, y1]; try rfl) rfl ?_
        exact ⟨by rw [HE3.out]; rfl, set_below HB.out HWG.out [.int .i64 0, .int .i64 0]⟩
    · have HE := Lib.hid (evalO_len ⟨#[101, 110, 116, 104, 97, 108, 112, 121]⟩ vs (Or.inl rfl) h2)
      obtain ⟨L, hL⟩ : ∃ l, l = vs.length := ⟨_, rfl⟩
      rw [← hL] at h2 ⊢
      have e1 : ((L : Int) == 2) = false := by rw [beq_eq_false_iff_ne]; omega
      have e2 : ((L : Int) != 2) = true := by rw [bne_iff_ne]; omega
      clear h2 hL
      obtain ⟨W, g, hW, hg, RG, B0, sz⟩ := box1 w #[.int .i64 0, .int .i64 0] 37
      have HG := Lib.hid RG
      have HB := Lib.hid B0
      have HWG := Lib.hid (show w.heap.size ≤ g by omega)
      clear RG B0 sz
      go_enter Tryd.func28, Tryd.ntmps28
      go_upto_region 1 with fail
      rw [← hW]
      try rw [← hg]
      clear hW hg
      have g_0 := HG.out.c 0 _ rfl
      have g_1 := HG.out.c 1 _ rfl
      have g_z := HG.out.fz
      go_wp2_with fail
      have hs := HG.out.setRow [.int .i64 0, .int .i64 0] rfl
      have y0 : ((W.setCell ⟨g, 0, none⟩ (.int .i64 0)).setCell ⟨g, 1, none⟩ (.int .i64 0)).cell? ⟨g, 0, none⟩ = some (.int .i64 0) := hs.c 0 _ rfl
      have y1 : ((W.setCell ⟨g, 0, none⟩ (.int .i64 0)).setCell ⟨g, 1, none⟩ (.int .i64 0)).cell? ⟨g, 1, none⟩ = some (.int .i64 0) := hs.c 1 _ rfl
      (try simp only [Exit.inBlock, Exit.then])
      refine bodyPost_ret (by simp [results, Tryd.results28, go_sem, y0, y1]; try rfl) rfl ?_
      exact ⟨by rw [HE.out]; rfl, set_below HB.out HWG.out [.int .i64 0, .int .i64 0]⟩
  · have HE := Lib.hid (evalO_np ⟨#[101, 110, 116, 104, 97, 108, 112, 121]⟩ np vs (Or.inl rfl) h0)
    have e1 : decide ((0 : Int) < (np : Int)) = true := decide_eq_true (by omega)
    have e3 : decide (0 < np) = true := decide_eq_true (by omega)
    clear h0
    obtain ⟨W, g, hW, hg, RG, B0, sz⟩ := box1 w #[.int .i64 0, .int .i64 0] 37
    have HG := Lib.hid RG
    have HB := Lib.hid B0
    have HWG := Lib.hid (show w.heap.size ≤ g by omega)
    clear RG B0 sz
    go_enter Tryd.func28, Tryd.ntmps28
    go_upto_region 1 with fail
    rw [← hW]
    try rw [← hg]
    clear hW hg
    have g_0 := HG.out.c 0 _ rfl
    have g_1 := HG.out.c 1 _ rfl
    have g_z := HG.out.fz
    go_wp2_with fail
    have hs := HG.out.setRow [.int .i64 0, .int .i64 0] rfl
    have y0 : ((W.setCell ⟨g, 0, none⟩ (.int .i64 0)).setCell ⟨g, 1, none⟩ (.int .i64 0)).cell? ⟨g, 0, none⟩ = some (.int .i64 0) := hs.c 0 _ rfl
    have y1 : ((W.setCell ⟨g, 0, none⟩ (.int .i64 0)).setCell ⟨g, 1, none⟩ (.int .i64 0)).cell? ⟨g, 1, none⟩ = some (.int .i64 0) := hs.c 1 _ rfl
    (try simp only [Exit.inBlock, Exit.then])
    refine bodyPost_ret (by simp [results, Tryd.results28, go_sem, y0, y1]; try rfl) rfl ?_
    exact ⟨by rw [HE.out]; rfl, set_below HB.out HWG.out [.int .i64 0, .int .i64 0]⟩
set_option maxHeartbeats 4000000 in
set_option maxRecDepth 100000 in
theorem reval_d (pa : Option Addr) (np pc : Nat) (ia : Option Addr) (ic : Nat) (vs : List (Int × Int)) (w : World) (hl : vs.length ≤ 10) (hp : np ≤ 10) (hin : InS w ia vs.length 2 (flat pairL vs)) :
    Calls Tryd.prog 28 #[.string ⟨#[100, 101, 119, 112, 111, 105, 110, 116]⟩, .slice pa np pc, .slice ia vs.length ic] w fun e w' => e = .returned (ansV (evalO ⟨#[100, 101, 119, 112, 111, 105, 110, 116]⟩ np vs)) ∧ Below w.heap.size w w' := by
  have HIN := Lib.hid hin
  clear hin
  by_cases h0 : np = 0
  · subst h0
    by_cases h2 : vs.length = 2
    · obtain ⟨⟨k0, x⟩, ⟨k1, h⟩, rfl⟩ := two_of h2
      have HE := Lib.hid (evalO_two ⟨#[100, 101, 119, 112, 111, 105, 110, 116]⟩ k0 x k1 h (Or.inr rfl))
      clear h2 hl
      by_cases hk0 : k0 = 1
      · subst hk0
        have HE2 := Lib.hid (HE.out.trans (if_neg (fun c => c rfl)))
        by_cases hk1 : k1 = 1
        · subst hk1
          have HE3 := Lib.hid (show evalO ⟨#[100, 101, 119, 112, 111, 105, 110, 116]⟩ 0 [(1, x), (1, h)] = (1, dewF (ratF x h), 0) by rw [HE2.out, if_neg (fun c => c rfl)]; rw [if_pos rfl])
          obtain ⟨Q, hQ⟩ : ∃ q, q = ratF x h := ⟨_, rfl⟩
          have KR := Lib.hid (fun w => show Calls Tryd.prog 14 #[.int .i64 x, .int .i64 h] w fun e w' => e = .returned (.int .i64 Q) ∧ Below w.heap.size w w' by rw [hQ]; exact rratio_any x h w)
          rw [← hQ] at HE3
          clear HE HE2 hQ
          obtain ⟨W, g, hW, hg, RG, B0, sz⟩ := box1 w #[.int .i64 0, .int .i64 0] 37
          have HG := Lib.hid RG
          have HB := Lib.hid B0
          have HWG := Lib.hid (show w.heap.size ≤ g by omega)
          clear RG B0 sz
          go_enter Tryd.func28, Tryd.ntmps28
          go_upto_region 1 with fail
          rw [← hW]
          try rw [← hg]
          clear hW hg
          have HI2 := Lib.hid (HIN.out.keep HB.out)
          obtain ⟨ib, io, rfl, hil, hic⟩ := (show InS W ia [(1, x), (1, h)].length 2 (flat pairL [(1, x), (1, h)]) from HI2.out).at pairL_len (Nat.succ_pos _)
          have i0 := hic 0 _ rfl 0 _ rfl
          have i1 := hic 0 _ rfl 1 _ rfl
          have i2 := hic 1 _ rfl 0 _ rfl
          have i3 := hic 1 _ rfl 1 _ rfl
          simp only [Nat.zero_mul, Nat.one_mul, Nat.add_zero] at i0 i1 i2 i3
          have HX := Lib.hid (And.intro i1 i3)
          clear hic
          try simp only [List.length_cons, List.length_nil, Nat.zero_add, Nat.reduceAdd]
          go_upto_region 7 with fail
          have zz : W.heap.size ≤ W.heap.size := Nat.le_refl _
          go_region_held3 (fun w' => w'.cell? ⟨ib, io + 1, none⟩ = some (.int .i64 x) ∧ w'.cell? ⟨ib, io + 2 + 1, none⟩ = some (.int .i64 h))
            (first | (with_reducible exact ⟨q1, q2⟩) | go_keep)
            (((with_reducible refine (KR.out _).mono ?_); rintro e w2 ⟨rfl, hb2⟩; have q1 := (hb2.cell (p := ⟨ib, io + 1, none⟩) hil).trans HX.out.1; have q2 := (hb2.cell (p := ⟨ib, io + 2 + 1, none⟩) hil).trans HX.out.2))
          all_goals
            rename_i hHeld
            clear hHeld
            have hb3 : Below W.heap.size W w2.drew := by first | exact ((Below.refl W.heap.size W).drew.trans hb2).drew | exact hb2.drew
            have hb4 : Below W.heap.size W w2 := by first | exact (Below.refl W.heap.size W).drew.trans hb2 | exact hb2
            have HG4 := Lib.hid (HG.out.keep hb4)
            have HB4 := Lib.hid (below_step HB.out hb4)
            have i9 : w2.cell? ⟨ib, io + 1, none⟩ = some (.int .i64 x) := q1
            clear hb2 hb3 hb4 i0 i1 i2 i3 q2
            go_wp2_with fail
            refine (rdew_any _ _).mono ?_
            rintro e w5 ⟨rfl, hb⟩
            have HG5 := Lib.hid (HG4.out.keep hb)
            have HB5 := Lib.hid (below_step HB4.out hb)
            clear hb i9 q1
            have g_0 := HG5.out.c 0 _ rfl
            have g_1 := HG5.out.c 1 _ rfl
            have g_z := HG5.out.fz
            go_wp2_with fail
            have hs := HG5.out.setRow [.int .i64 1, .int .i64 (dewF Q)] rfl
            have y0 : ((w5.setCell ⟨g, 0, none⟩ (.int .i64 1)).setCell ⟨g, 1, none⟩ (.int .i64 (dewF Q))).cell? ⟨g, 0, none⟩ = some (.int .i64 1) := hs.c 0 _ rfl
            have y1 : ((w5.setCell ⟨g, 0, none⟩ (.int .i64 1)).setCell ⟨g, 1, none⟩ (.int .i64 (dewF Q))).cell? ⟨g, 1, none⟩ = some (.int .i64 (dewF Q)) := hs.c 1 _ rfl
            (try simp only [Exit.inBlock, Exit.then])
            refine bodyPost_ret (by simp [results, Tryd.results28, go_sem, y0, y1]; try rfl) rfl ?_
            exact ⟨by rw [HE3.out]; rfl, set_below HB5.out HWG.out [.int .i64 1, .int .i64 (dewF Q)]⟩
        · have HE3 := Lib.hid (HE2.out.trans (if_pos hk1))
          have e1 : (k1 == 1) = false := beq_eq_false_iff_ne.2 hk1
          have e2 : (k1 != 1) = true := bne_iff_ne.2 hk1
          clear hk1 HE HE2
          obtain ⟨W, g, hW, hg, RG, B0, sz⟩ := box1 w #[.int .i64 0, .int .i64 0] 37
          have HG := Lib.hid RG
          have HB := Lib.hid B0
          have HWG := Lib.hid (show w.heap.size ≤ g by omega)
          clear RG B0 sz
          go_enter Tryd.func28, Tryd.ntmps28
          go_upto_region 1 with fail
          rw [← hW]
          try rw [← hg]
          clear hW hg
          have HI2 := Lib.hid (HIN.out.keep HB.out)
          obtain ⟨ib, io, rfl, hil, hic⟩ := (show InS W ia [(1, x), (k1, h)].length 2 (flat pairL [(1, x), (k1, h)]) from HI2.out).at pairL_len (Nat.succ_pos _)
          have i0 := hic 0 _ rfl 0 _ rfl
          have i1 := hic 0 _ rfl 1 _ rfl
          have i2 := hic 1 _ rfl 0 _ rfl
          have i3 := hic 1 _ rfl 1 _ rfl
          simp only [Nat.zero_mul, Nat.one_mul, Nat.add_zero] at i0 i1 i2 i3
          have HX := Lib.hid (And.intro i1 i3)
          clear hic
          try simp only [List.length_cons, List.length_nil, Nat.zero_add, Nat.reduceAdd]
          have g_0 := HG.out.c 0 _ rfl
          have g_1 := HG.out.c 1 _ rfl
          have g_z := HG.out.fz
          go_wp2_with fail
          have hs := HG.out.setRow [.int .i64 0, .int .i64 0] rfl
          have y0 : ((W.setCell ⟨g, 0, none⟩ (.int .i64 0)).setCell ⟨g, 1, none⟩ (.int .i64 0)).cell? ⟨g, 0, none⟩ = some (.int .i64 0) := hs.c 0 _ rfl
          have y1 : ((W.setCell ⟨g, 0, none⟩ (.int .i64 0)).setCell ⟨g, 1, none⟩ (.int .i64 0)).cell? ⟨g, 1, none⟩ = some (.int .i64 0) := hs.c 1 _ rfl
          (try simp only [Exit.inBlock, Exit.then])
          refine bodyPost_ret (by simp [results, Tryd.results28, go_sem, y0, y1]; try rfl) rfl ?_
          exact ⟨by rw [HE3.out]; rfl, set_below HB.out HWG.out [.int .i64 0, .int .i64 0]⟩
      · have HE3 := Lib.hid (HE.out.trans (if_pos hk0))
        have e1 : (k0 == 1) = false := beq_eq_false_iff_ne.2 hk0
        have e2 : (k0 != 1) = true := bne_iff_ne.2 hk0
        clear hk0 HE
        obtain ⟨W, g, hW, hg, RG, B0, sz⟩ := box1 w #[.int .i64 0, .int .i64 0] 37
        have HG := Lib.hid RG
        have HB := Lib.hid B0
        have HWG := Lib.hid (show w.heap.size ≤ g by omega)
        clear RG B0 sz
        go_enter Tryd.func28, Tryd.ntmps28
        go_upto_region 1 with fail
        rw [← hW]
        try rw [← hg]
        clear hW hg
        have HI2 := Lib.hid (HIN.out.keep HB.out)
        obtain ⟨ib, io, rfl, hil, hic⟩ := (show InS W ia [(k0, x), (k1, h)].length 2 (flat pairL [(k0, x), (k1, h)]) from HI2.out).at pairL_len (Nat.succ_pos _)
        have i0 := hic 0 _ rfl 0 _ rfl
        have i1 := hic 0 _ rfl 1 _ rfl
        have i2 := hic 1 _ rfl 0 _ rfl
        have i3 := hic 1 _ rfl 1 _ rfl
        simp only [Nat.zero_mul, Nat.one_mul, Nat.add_zero] at i0 i1 i2 i3
        have HX := Lib.hid (And.intro i1 i3)
        clear hic
        try simp only [List.length_cons, List.length_nil, Nat.zero_add, Nat.reduceAdd]
        have g_0 := HG.out.c 0 _ rfl
        have g_1 := HG.out.c 1 _ rfl
        have g_z := HG.out.fz
        go_wp2_with fail
        have hs := HG.out.setRow [.int .i64 0, .int .i64 0] rfl
        have y0 : ((W.setCell ⟨g, 0, none⟩ (.int .i64 0)).setCell ⟨g, 1, none⟩ (.int .i64 0)).cell? ⟨g, 0, none⟩ = some (.int .i64 0) := hs.c 0 _ rfl
        have y1 : ((W.setCell ⟨g, 0, none⟩ (.int .i64 0)).setCell ⟨g, 1, none⟩ (.int .i64 0)).cell? ⟨g, 1, none⟩ = some (.int .i64 0) := hs.c 1 _ rfl
        (try simp only [Exit.inBlock, Exit.then])
        refine bodyPost_ret (by simp [results, Tryd.results28, go_sem, y0, y1]; try rfl) rfl ?_
        exact ⟨by rw [HE3.out]; rfl, set_below HB.out HWG.out [.int .i64 0, .int .i64 0]⟩
    · have HE := Lib.hid (evalO_len ⟨#[100, 101, 119, 112, 111, 105, 110, 116]⟩ vs (Or.inr rfl) h2)
      obtain ⟨L, hL⟩ : ∃ l, l = vs.length := ⟨_, rfl⟩
      rw [← hL] at h2 ⊢
      have e1 : ((L : Int) == 2) = false := by rw [beq_eq_false_iff_ne]; omega
      have e2 : ((L : Int) != 2) = true := by rw [bne_iff_ne]; omega
      clear h2 hL
      obtain ⟨W, g, hW, hg, RG, B0, sz⟩ := box1 w #[.int .i64 0, .int .i64 0] 37
      have HG := Lib.hid RG
      have HB := Lib.hid B0
      have HWG := Lib.hid (show w.heap.size ≤ g by omega)
      clear RG B0 sz
      go_enter Tryd.func28, Tryd.ntmps28
      go_upto_region 1 with fail
      rw [← hW]
      try rw [← hg]
      clear hW hg
      have g_0 := HG.out.c 0 _ rfl
      have g_1 := HG.out.c 1 _ rfl
      have g_z := HG.out.fz
      go_wp2_with fail
      have hs := HG.out.setRow [.int .i64 0, .int .i64 0] rfl
      have y0 : ((W.setCell ⟨g, 0, none⟩ (.int .i64 0)).setCell ⟨g, 1, none⟩ (.int .i64 0)).cell? ⟨g, 0, none⟩ = some (.int .i64 0) := hs.c 0 _ rfl
      have y1 : ((W.setCell ⟨g, 0, none⟩ (.int .i64 0)).setCell ⟨g, 1, none⟩ (.int .i64 0)).cell? ⟨g, 1, none⟩ = some (.int .i64 0) := hs.c 1 _ rfl
      (try simp only [Exit.inBlock, Exit.then])
      refine bodyPost_ret (by simp [results, Tryd.results28, go_sem, y0, y1]; try rfl) rfl ?_
      exact ⟨by rw [HE.out]; rfl, set_below HB.out HWG.out [.int .i64 0, .int .i64 0]⟩
  · have HE := Lib.hid (evalO_np ⟨#[100, 101, 119, 112, 111, 105, 110, 116]⟩ np vs (Or.inr rfl) h0)
    have e1 : decide ((0 : Int) < (np : Int)) = true := decide_eq_true (by omega)
    have e3 : decide (0 < np) = true := decide_eq_true (by omega)
    clear h0
    obtain ⟨W, g, hW, hg, RG, B0, sz⟩ := box1 w #[.int .i64 0, .int .i64 0] 37
    have HG := Lib.hid RG
    have HB := Lib.hid B0
    have HWG := Lib.hid (show w.heap.size ≤ g by omega)
    clear RG B0 sz
    go_enter Tryd.func28, Tryd.ntmps28
    go_upto_region 1 with fail
    rw [← hW]
    try rw [← hg]
    clear hW hg
    have g_0 := HG.out.c 0 _ rfl
    have g_1 := HG.out.c 1 _ rfl
    have g_z := HG.out.fz
    go_wp2_with fail
    have hs := HG.out.setRow [.int .i64 0, .int .i64 0] rfl
    have y0 : ((W.setCell ⟨g, 0, none⟩ (.int .i64 0)).setCell ⟨g, 1, none⟩ (.int .i64 0)).cell? ⟨g, 0, none⟩ = some (.int .i64 0) := hs.c 0 _ rfl
    have y1 : ((W.setCell ⟨g, 0, none⟩ (.int .i64 0)).setCell ⟨g, 1, none⟩ (.int .i64 0)).cell? ⟨g, 1, none⟩ = some (.int .i64 0) := hs.c 1 _ rfl
    (try simp only [Exit.inBlock, Exit.then])
    refine bodyPost_ret (by simp [results, Tryd.results28, go_sem, y0, y1]; try rfl) rfl ?_
    exact ⟨by rw [HE.out]; rfl, set_below HB.out HWG.out [.int .i64 0, .int .i64 0]⟩
theorem eval_any (nm : ByteArray) (pa : Option Addr) (np pc : Nat) (ia : Option Addr) (ic : Nat) (vs : List (Int × Int)) (w : World) (ht : SatT w) (hm : MaxAt w) (hl : vs.length ≤ 10) (hp : np ≤ 10) (hin : InS w ia vs.length 2 (flat pairL vs)) :
    Calls Tryd.prog 27 #[.string nm, .slice pa np pc, .slice ia vs.length ic] w fun e w' => e = .returned (ansV (evalO nm np vs)) ∧ Below w.heap.size w w' := by
  by_cases h1 : nm = ⟨#[101, 110, 116, 104, 97, 108, 112, 121]⟩
  · subst h1; exact eval_e pa np pc ia ic vs w ht hm hl hp hin
  · by_cases h2 : nm = ⟨#[100, 101, 119, 112, 111, 105, 110, 116]⟩
    · subst h2; exact eval_d pa np pc ia ic vs w ht hm hl hp hin
    · exact eval_no nm pa np pc ia ic vs w h1 h2
theorem reval_any (nm : ByteArray) (pa : Option Addr) (np pc : Nat) (ia : Option Addr) (ic : Nat) (vs : List (Int × Int)) (w : World) (hl : vs.length ≤ 10) (hp : np ≤ 10) (hin : InS w ia vs.length 2 (flat pairL vs)) :
    Calls Tryd.prog 28 #[.string nm, .slice pa np pc, .slice ia vs.length ic] w fun e w' => e = .returned (ansV (evalO nm np vs)) ∧ Below w.heap.size w w' := by
  by_cases h1 : nm = ⟨#[101, 110, 116, 104, 97, 108, 112, 121]⟩
  · subst h1; exact reval_e pa np pc ia ic vs w hl hp hin
  · by_cases h2 : nm = ⟨#[100, 101, 119, 112, 111, 105, 110, 116]⟩
    · subst h2; exact reval_d pa np pc ia ic vs w hl hp hin
    · exact reval_no nm pa np pc ia ic vs w h1 h2
set_option maxHeartbeats 4000000 in
set_option maxRecDepth 100000 in
theorem evals_law (nm : ByteArray) (pa : Option Addr) (np pc : Nat) (ia : Option Addr) (ic : Nat) (vs : List (Int × Int)) (w : World) (ht : SatT w) (hm : MaxAt w) (hnm : nm.size ≤ maxLen) (hnp : np ≤ 9223372036854775807) (hin : InS w ia vs.length 2 (flat pairL vs)) :
    Calls Tryd.prog 9 #[.string nm, .slice pa np pc, .slice ia vs.length ic] w fun e w' => e = .returned (.bool true) ∧ Below w.heap.size w w' := by
  have KAW := Lib.hid (awake_yes w ht)
  obtain ⟨L, hL⟩ : ∃ l, l = vs.length := ⟨_, rfl⟩
  have hL63 : L ≤ 9223372036854775807 := by rw [hL]; exact hin.2.1
  unfold maxLen at hnm
  have HT := Lib.hid ht
  have HM := Lib.hid hm
  have HIN := Lib.hid hin
  have HL := Lib.hid hL
  rw [← hL]
  clear ht hm hin hL
  by_cases hbig : 100 < nm.size ∨ (¬ 100 < nm.size ∧ 10 < np) ∨ (¬ 100 < nm.size ∧ ¬ 10 < np ∧ 10 < L)
  · rcases hbig with h1 | ⟨h1, h2⟩ | ⟨h1, h2, h3⟩
    all_goals
      go_enter Tryd.func9, Tryd.ntmps9
      go_wp2_with fail
      refine KAW.out.mono ?_
      rintro e w1 ⟨rfl, hb⟩
      have HB1 := Lib.hid hb
      clear hb
      go_wp2_with fail
      go_ret
      exact ⟨rfl, HB1.out⟩
  · have h1 : ¬ 100 < nm.size := by omega
    have h2 : ¬ 10 < np := by omega
    have h3 : ¬ 10 < L := by omega
    clear hbig
    obtain ⟨⟨k, n, e0⟩, hO⟩ : ∃ r, r = evalO nm np vs := ⟨_, rfl⟩
    have K1 := Lib.hid (fun w1 (hb : Below w.heap.size w w1) => show Calls Tryd.prog 27 #[.string nm, .slice pa np pc, .slice ia L ic] w1 fun e w' => e = .returned (.tuple #[.agg #[.int .i64 k, .int .i64 n], .int .i64 e0]) ∧ Below w1.heap.size w1 w' by
      have h := eval_any nm pa np pc ia ic vs w1 (HT.out.below hb) (HM.out.keep hb) (by have := HL.out; omega) (by omega) (HIN.out.keep hb)
      rw [← hO, ← HL.out] at h
      exact h)
    have K2 := Lib.hid (fun w1 (hb : Below w.heap.size w w1) => show Calls Tryd.prog 28 #[.string nm, .slice pa np pc, .slice ia L ic] w1 fun e w' => e = .returned (.tuple #[.agg #[.int .i64 k, .int .i64 n], .int .i64 e0]) ∧ Below w1.heap.size w1 w' by
      have h := reval_any nm pa np pc ia ic vs w1 (by have := HL.out; omega) (by omega) (HIN.out.keep hb)
      rw [← hO, ← HL.out] at h
      exact h)
    clear hO
    go_enter Tryd.func9, Tryd.ntmps9
    go_wp2_with fail
    refine KAW.out.mono ?_
    rintro e w1 ⟨rfl, hb⟩
    have HB1 := Lib.hid hb
    clear hb
    go_wp2_with fail
    refine (K1.out _ HB1.out).mono ?_
    rintro e w2 ⟨rfl, hb⟩
    have HB2 := Lib.hid (below_step HB1.out hb)
    clear hb
    obtain ⟨W3, g, hW3, hg, RG, B3, sz3⟩ := box1 w2 #[.int .i64 k, .int .i64 n] 37
    have HG3 := Lib.hid RG
    have HB3 := Lib.hid (below_step HB2.out B3)
    go_upto_region 6 with fail
    rw [← hW3]
    try rw [← hg]
    clear hW3 hg RG B3 sz3
    go_wp2_with fail
    refine (K2.out _ HB3.out).mono ?_
    rintro e w4 ⟨rfl, hb⟩
    have HG4 := Lib.hid (HG3.out.keep hb)
    have HB4 := Lib.hid (below_step HB3.out hb)
    clear hb
    obtain ⟨W5, g2, hW5, hg2, RG2, B5, sz5⟩ := box1 w4 #[.int .i64 k, .int .i64 n] 37
    have HH5 := Lib.hid RG2
    have HG5 := Lib.hid (HG4.out.keep B5)
    have HB5 := Lib.hid (below_step HB4.out B5)
    go_upto_region 7 with fail
    rw [← hW5]
    try rw [← hg2]
    clear hW5 hg2 RG2 B5 sz5
    have g_0 := HG5.out.c 0 _ rfl
    have g_1 := HG5.out.c 1 _ rfl
    have h_0 := HH5.out.c 0 _ rfl
    have h_1 := HH5.out.c 1 _ rfl
    go_wp2_with fail
    go_ret
    exact ⟨rfl, HB5.out⟩
end Go.Proofs.YtgpbcdelaipifaaDoor
