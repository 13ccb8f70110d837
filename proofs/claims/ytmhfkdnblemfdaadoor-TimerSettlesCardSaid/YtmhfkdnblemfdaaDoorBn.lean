/- kindOf, fits; evaluate of a relay at edge and hyst. -/
import Derived.Test.YtmhfkdnblemfdaaDoorBm
namespace Go.Proofs.YtmhfkdnblemfdaaDoor
open Go.RowKit Go.Shelf

theorem kind_binary (p : ByteArray) (w : World) : Calls Tryd.prog 32 #[.agg #[.string p, .string ⟨#[98, 105, 110, 97, 114, 121]⟩]] w fun e w' => e = .returned (.int .i64 2) ∧ Below w.heap.size w w' := by
  obtain ⟨W, g, hW, hg, R, B, sz⟩ := box1 w #[.string p, .string ⟨#[98, 105, 110, 97, 114, 121]⟩] 70
  have c1 := R.c 1 _ rfl
  have HB := Lib.hid B
  clear R B sz
  go_enter Tryd.func32, Tryd.ntmps32
  go_upto_region 1 with fail
  rw [← hW]
  try rw [← hg]
  clear hW hg
  go_wp2_with fail
  go_ret
  exact ⟨rfl, HB.out⟩
theorem kind_analog (p : ByteArray) (w : World) : Calls Tryd.prog 32 #[.agg #[.string p, .string ⟨#[97, 110, 97, 108, 111, 103]⟩]] w fun e w' => e = .returned (.int .i64 1) ∧ Below w.heap.size w w' := by
  obtain ⟨W, g, hW, hg, R, B, sz⟩ := box1 w #[.string p, .string ⟨#[97, 110, 97, 108, 111, 103]⟩] 70
  have c1 := R.c 1 _ rfl
  have HB := Lib.hid B
  clear R B sz
  go_enter Tryd.func32, Tryd.ntmps32
  go_upto_region 1 with fail
  rw [← hW]
  try rw [← hg]
  clear hW hg
  go_wp2_with fail
  go_ret
  exact ⟨rfl, HB.out⟩
theorem kind_u (p : ByteArray) (w : World) : Calls Tryd.prog 32 #[.agg #[.string p, .string ⟨#[85]⟩]] w fun e w' => e = .returned (.int .i64 1) ∧ Below w.heap.size w w' := by
  obtain ⟨W, g, hW, hg, R, B, sz⟩ := box1 w #[.string p, .string ⟨#[85]⟩] 70
  have c1 := R.c 1 _ rfl
  have HB := Lib.hid B
  clear R B sz
  go_enter Tryd.func32, Tryd.ntmps32
  go_upto_region 1 with fail
  rw [← hW]
  try rw [← hg]
  clear hW hg
  go_wp2_with fail
  go_ret
  exact ⟨rfl, HB.out⟩
def fitsB (k n kind : Int) : Bool := decide (k = kind ∧ (kind = 1 ∨ n = 0 ∨ n = 1))
theorem fits_any (k n kind : Int) (w : World) : Calls Tryd.prog 31 #[.agg #[.int .i64 k, .int .i64 n], .int .i64 kind] w fun e w' => e = .returned (.bool (fitsB k n kind)) ∧ Below w.heap.size w w' := by
  by_cases hk : k = kind
  · subst hk
    by_cases h1 : k = 1
    · subst h1
      obtain ⟨W, g, hW, hg, R, B, sz⟩ := box1 w #[.int .i64 1, .int .i64 n] 26
      have c0 := R.c 0 _ rfl
      have c1 := R.c 1 _ rfl
      have HB := Lib.hid B
      have HE := Lib.hid (show fitsB 1 n 1 = true by simp [fitsB])
      clear R B sz 
      go_enter Tryd.func31, Tryd.ntmps31
      go_upto_region 1 with fail
      rw [← hW]
      try rw [← hg]
      clear hW hg
      go_wp2_with fail
      go_ret
      exact ⟨by rw [HE.out]; rfl, HB.out⟩
    · by_cases h2 : n = 0
      · subst h2
        obtain ⟨W, g, hW, hg, R, B, sz⟩ := box1 w #[.int .i64 k, .int .i64 0] 26
        have c0 := R.c 0 _ rfl
        have c1 := R.c 1 _ rfl
        have HB := Lib.hid B
        have HE := Lib.hid (show fitsB k 0 k = true by simp [fitsB, h1])
        have b_h1 := beq_eq_false_iff_ne.2 h1
        clear R B sz h1
        go_enter Tryd.func31, Tryd.ntmps31
        go_upto_region 1 with fail
        rw [← hW]
        try rw [← hg]
        clear hW hg
        go_wp2_with fail
        go_ret
        exact ⟨by rw [HE.out]; rfl, HB.out⟩
      · by_cases h3 : n = 1
        · subst h3
          obtain ⟨W, g, hW, hg, R, B, sz⟩ := box1 w #[.int .i64 k, .int .i64 1] 26
          have c0 := R.c 0 _ rfl
          have c1 := R.c 1 _ rfl
          have HB := Lib.hid B
          have HE := Lib.hid (show fitsB k 1 k = true by simp [fitsB, h1])
          have b_h1 := beq_eq_false_iff_ne.2 h1
          clear R B sz h1
          go_enter Tryd.func31, Tryd.ntmps31
          go_upto_region 1 with fail
          rw [← hW]
          try rw [← hg]
          clear hW hg
          go_wp2_with fail
          go_ret
          exact ⟨by rw [HE.out]; rfl, HB.out⟩
        ·
          obtain ⟨W, g, hW, hg, R, B, sz⟩ := box1 w #[.int .i64 k, .int .i64 n] 26
          have c0 := R.c 0 _ rfl
          have c1 := R.c 1 _ rfl
          have HB := Lib.hid B
          have HE := Lib.hid (show fitsB k n k = false by simp [fitsB, h1, h2, h3])
          have b_h1 := beq_eq_false_iff_ne.2 h1
          have b_h2 := beq_eq_false_iff_ne.2 h2
          have b_h3 := beq_eq_false_iff_ne.2 h3
          clear R B sz h1 h2 h3
          go_enter Tryd.func31, Tryd.ntmps31
          go_upto_region 1 with fail
          rw [← hW]
          try rw [← hg]
          clear hW hg
          go_wp2_with fail
          go_ret
          exact ⟨by rw [HE.out]; rfl, HB.out⟩
  ·
    obtain ⟨W, g, hW, hg, R, B, sz⟩ := box1 w #[.int .i64 k, .int .i64 n] 26
    have c0 := R.c 0 _ rfl
    have c1 := R.c 1 _ rfl
    have HB := Lib.hid B
    have HE := Lib.hid (show fitsB k n kind = false by simp [fitsB, hk])
    have b_hk := beq_eq_false_iff_ne.2 hk
    clear R B sz hk
    go_enter Tryd.func31, Tryd.ntmps31
    go_upto_region 1 with fail
    rw [← hW]
    try rw [← hg]
    clear hW hg
    go_wp2_with fail
    go_ret
    exact ⟨by rw [HE.out]; rfl, HB.out⟩
set_option maxHeartbeats 4000000 in
theorem eval_edge (rb sb n ib io ic : Nat) (v1 v2 v3 v4 v5 v6 : Value) (a x dt : Int) (r : List Value) (hn : 0 < n) (hne : rb ≠ sb) (w : World) (hr : RelAt w rb sb n (.string ⟨#[101, 100, 103, 101]⟩) v1 v2 v3 v4 v5 v6) (hs : RowAt w sb (.int .i64 x :: r)) (i0 : w.cell? ⟨ib, io, none⟩ = some (.int .i64 a)) :
    Calls Tryd.prog 33 #[.pointer (some ⟨rb, 0, none⟩), .slice (some ⟨ib, io, none⟩) 1 ic, .int .i64 dt] w fun e w' => e = .returned (.int .i64 (edgeN a x)) ∧ RowAt w' sb (.int .i64 a :: r) ∧ w.grownBy w' (some sb) := by
  have KE := Lib.hid (edge_any rb sb n _ v1 v2 v3 v4 v5 v6 a x r hn hne w hr hs)
  have r0 := hr.c 0 _ rfl
  clear hr hs hne
  go_enter Tryd.func33, Tryd.ntmps33
  go_wp2_with fail
  refine KE.out.mono ?_
  rintro e w1 ⟨rfl, h1, h2⟩
  have H1 := Lib.hid h1
  have H2 := Lib.hid h2
  clear h1 h2
  go_wp2_with fail
  go_ret
  exact ⟨rfl, H1.out, H2.out⟩
set_option maxHeartbeats 4000000 in
theorem eval_hyst (rb sb n pb po pc ib io ic : Nat) (v1 v2 v3 v4 v5 : Value) (lo hi a x dt : Int) (r : List Value) (hn : 0 < n) (w : World) (hr : RelAt w rb sb n (.string ⟨#[104, 121, 115, 116]⟩) v1 v2 v3 v4 v5 (.slice (some ⟨pb, po, none⟩) 2 pc)) (p0 : w.cell? ⟨pb, po, none⟩ = some (.int .i64 hi)) (p1 : w.cell? ⟨pb, po + 1, none⟩ = some (.int .i64 lo)) (hs : RowAt w sb (.int .i64 x :: r)) (i0 : w.cell? ⟨ib, io, none⟩ = some (.int .i64 a)) :
    Calls Tryd.prog 33 #[.pointer (some ⟨rb, 0, none⟩), .slice (some ⟨ib, io, none⟩) 1 ic, .int .i64 dt] w fun e w' => e = .returned (.int .i64 (hystN lo hi a x)) ∧ RowAt w' sb (.int .i64 (hystN lo hi a x) :: r) ∧ w.grownBy w' (some sb) := by
  have KE := Lib.hid (hyst_any rb sb n pb po pc _ v1 v2 v3 v4 v5 lo hi a x r hn w hr p0 p1 hs)
  have r0 := hr.c 0 _ rfl
  clear hr hs p0 p1
  go_enter Tryd.func33, Tryd.ntmps33
  go_wp2_with fail
  refine KE.out.mono ?_
  rintro e w1 ⟨rfl, h1, h2⟩
  have H1 := Lib.hid h1
  have H2 := Lib.hid h2
  clear h1 h2
  go_wp2_with fail
  go_ret
  exact ⟨rfl, H1.out, H2.out⟩
end Go.Proofs.YtmhfkdnblemfdaaDoor
