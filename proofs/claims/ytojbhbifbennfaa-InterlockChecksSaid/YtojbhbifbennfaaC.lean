/- Contract of winner's search. -/
import Derived.Test.YtojbhbifbennfaaB
import Derived.Deep.CutBlock
namespace Go.Proofs.Ytojbhbifbennfaa
open Go.RowKit Go.Shelf

def hitB (qs : List RqD) (on lo hi : Int) : Bool := if on = -1 then false else match qs[on.toNat]? with | some x => askB lo hi x | none => false
def searchI (qs : List RqD) (on lo hi : Int) : Int := if hitB qs on lo hi = true then on else firstI (askB lo hi) qs 0
theorem hit_none (qs : List RqD) (lo hi : Int) : hitB qs (-1) lo hi = false := if_pos rfl
theorem hit_at {qs : List RqD} {p : Nat} {x : RqD} (lo hi : Int) (h : qs[p]? = some x) : hitB qs (p : Int) lo hi = askB lo hi x := by
  unfold hitB
  rw [if_neg (by omega), show ((p : Int)).toNat = p by omega, h]
theorem eg_asks : ∀ args w, (callFunc 83 args).run Try.prog w = .ok (.enter 83 args) w := enters_of Try.func83 (by kernel_rfl) rfl
theorem pred_asks (lo hi : Int) (b1 b2 : Nat) (w : World) (h1 : w.cell? ⟨b1, 0, none⟩ = some (.int .i64 lo)) (h2 : w.cell? ⟨b2, 0, none⟩ = some (.int .i64 hi)) : PredQ 83 #[.pointer (some ⟨b1, 0, none⟩), .pointer (some ⟨b2, 0, none⟩)] (askB lo hi) w := fun W l k n hb =>
  asks_any lo hi l k n b1 b2 W ((hb.cell (p := ⟨b1, 0, none⟩) (World.block_lt_of_cell? _ _ h1)).trans h1) ((hb.cell (p := ⟨b2, 0, none⟩) (World.block_lt_of_cell? _ _ h2)).trans h2)

set_option maxHeartbeats 4000000 in
set_option maxRecDepth 100000 in
theorem search_none (lo hi : Int) (bs ba : Nat) (a : Option Addr) (cap : Nat) (qs : List RqD) (w : World) (hs : w.cell? ⟨bs, 0, none⟩ = some (.int .i64 (-1))) (ha : w.cell? ⟨ba, 0, none⟩ = some (.slice a qs.length cap)) (hin : InS w a qs.length 3 (flat rqL qs)) : Calls Try.prog 82 #[.int .i64 lo, .int .i64 hi, .pointer (some ⟨bs, 0, none⟩), .pointer (some ⟨ba, 0, none⟩)] w fun e w' => e = .returned (.int .i64 (searchI qs (-1) lo hi)) ∧ Below w.heap.size w w' := by
  obtain ⟨W, g1, g2, hW, hg1, hg2, R1, R2, B, sz⟩ := box2 w #[.int .i64 lo] 3 #[.int .i64 hi] 3
  have HB0 := Lib.hid B
  have HP := Lib.hid (pred_asks lo hi g1 g2 W (R1.c 0 _ rfl) (R2.c 0 _ rfl))
  have HCS := Lib.hid hs
  have HCA := Lib.hid ha
  have HLS := Lib.hid (World.block_lt_of_cell? _ _ hs)
  have HLA := Lib.hid (World.block_lt_of_cell? _ _ ha)
  have HI := Lib.hid hin
  obtain ⟨I, hI⟩ : ∃ I, I = firstI (askB lo hi) qs 0 := ⟨_, rfl⟩
  have hix := fun (W' : World) (hb : Below W.heap.size W W') => idx_any 83 #[.pointer (some ⟨g1, 0, none⟩), .pointer (some ⟨g2, 0, none⟩)] (askB lo hi) a cap qs W' eg_asks (fun W2 l k n hb2 => HP.out W2 l k n (hb.trans (hb2.mono hb.size))) (hin.keep (HB0.out.trans (hb.mono HB0.out.size)))
  rw [← hI] at hix
  have HII := Lib.hid hI
  obtain ⟨N, hN⟩ : ∃ N, N = qs.length := ⟨_, rfl⟩
  have HN := Lib.hid hN
  rw [← hN] at hix HCA
  have HIX := Lib.hid hix
  have x0 := (HB0.out.cell (p := ⟨bs, 0, none⟩) HLS.out).trans HCS.out
  have x1 := (HB0.out.cell (p := ⟨ba, 0, none⟩) HLA.out).trans HCA.out
  clear hin hs ha R1 R2 B sz hI hix hN
  go_enter Try.func82, Try.ntmps82
  go_upto_region 2 with fail
  rw [← hW]
  try rw [← hg2]
  try rw [← hg1]
  clear hW hg1 hg2
  go_wp2_with fail
  refine (HIX.out _ (Below.refl _ _)).mono ?_
  rintro e w1 ⟨rfl, hb⟩
  have HB1 := Lib.hid (HB0.out.trans (hb.mono HB0.out.size))
  have HY := Lib.hid (show searchI qs (-1) lo hi = I by unfold searchI; rw [if_neg (by rw [hit_none]; simp), HII.out])
  clear hb x0 x1
  go_wp2_with fail
  go_ret
  exact ⟨by rw [HY.out]; (first | done | rfl), HB1.out⟩

set_option maxHeartbeats 4000000 in
set_option maxRecDepth 100000 in
theorem search_at (lo hi : Int) (bs ba : Nat) (a : Option Addr) (cap : Nat) (qs : List RqD) (p : Nat) (hp : p < qs.length) (w : World) (hs : w.cell? ⟨bs, 0, none⟩ = some (.int .i64 p)) (ha : w.cell? ⟨ba, 0, none⟩ = some (.slice a qs.length cap)) (hin : InS w a qs.length 3 (flat rqL qs)) : Calls Try.prog 82 #[.int .i64 lo, .int .i64 hi, .pointer (some ⟨bs, 0, none⟩), .pointer (some ⟨ba, 0, none⟩)] w fun e w' => e = .returned (.int .i64 (searchI qs p lo hi)) ∧ Below w.heap.size w w' := by
  obtain ⟨W, g1, g2, hW, hg1, hg2, R1, R2, B, sz⟩ := box2 w #[.int .i64 lo] 3 #[.int .i64 hi] 3
  have HB0 := Lib.hid B
  have HP := Lib.hid (pred_asks lo hi g1 g2 W (R1.c 0 _ rfl) (R2.c 0 _ rfl))
  have HCS := Lib.hid hs
  have HCA := Lib.hid ha
  have HLS := Lib.hid (World.block_lt_of_cell? _ _ hs)
  have HLA := Lib.hid (World.block_lt_of_cell? _ _ ha)
  have HI := Lib.hid hin
  obtain ⟨I, hI⟩ : ∃ I, I = firstI (askB lo hi) qs 0 := ⟨_, rfl⟩
  have hix := fun (W' : World) (hb : Below W.heap.size W W') => idx_any 83 #[.pointer (some ⟨g1, 0, none⟩), .pointer (some ⟨g2, 0, none⟩)] (askB lo hi) a cap qs W' eg_asks (fun W2 l k n hb2 => HP.out W2 l k n (hb.trans (hb2.mono hb.size))) (hin.keep (HB0.out.trans (hb.mono HB0.out.size)))
  rw [← hI] at hix
  have HII := Lib.hid hI
  obtain ⟨N, hN⟩ : ∃ N, N = qs.length := ⟨_, rfl⟩
  have HN := Lib.hid hN
  rw [← hN] at hix HCA
  have HIX := Lib.hid hix
  have x0 := (HB0.out.cell (p := ⟨bs, 0, none⟩) HLS.out).trans HCS.out
  have x1 := (HB0.out.cell (p := ⟨ba, 0, none⟩) HLA.out).trans HCA.out
  obtain ⟨⟨l, k, n⟩, hx⟩ : ∃ x, qs[p]? = some x := ⟨_, List.getElem?_eq_getElem hp⟩
  have hp' : p < N := by rw [HN.out]; exact hp
  obtain ⟨b, o, hbo, hbl, hcell⟩ := (HI.out.keep HB0.out).at rqL_len (by omega)
  have c0 := hcell p _ hx 0 _ rfl
  have c1 := hcell p _ hx 1 _ rfl
  have c2 := hcell p _ hx 2 _ rfl
  rw [Nat.add_zero] at c0
  have HH := Lib.hid (hit_at lo hi hx)
  obtain ⟨F, hF⟩ : ∃ F, F = askB lo hi ⟨l, k, n⟩ := ⟨_, rfl⟩
  have hcl := HP.out W l k n (Below.refl _ _)
  rw [← hF] at hcl HH
  have hcl2 : Calls Try.prog 83 #[.agg #[.int .i64 l, .int .i64 k, .int .i64 n], .pointer (some ⟨g1, 0, none⟩), .pointer (some ⟨g2, 0, none⟩)] W fun e w' => e = .returned (.bool F) ∧ Below W.heap.size W w' := hcl
  have HCL := Lib.hid hcl2
  have k1 : (0 : Int) ≤ (p : Int) := by omega
  have k2 : (p : Int) < (N : Int) := by omega
  have k3 : N ≤ 9223372036854775807 := by have := HI.out.2.1; have := HN.out; omega
  have k4 : ((p : Int) != -1) = true := by (simp) <;> omega
  clear hx hcell hbl hp' hF hcl hcl2 hp
  clear hin hs ha R1 R2 B sz hI hix hN
  subst hbo
  go_enter Try.func82, Try.ntmps82
  go_upto_region 2 with fail
  rw [← hW]
  try rw [← hg2]
  try rw [← hg1]
  clear hW hg1 hg2
  cases F
  · have HY := Lib.hid (show searchI qs (p : Int) lo hi = I by unfold searchI; rw [if_neg (by rw [HH.out]; simp), HII.out])
    go_wp2_with fail
    refine HCL.out.mono ?_
    rintro e w1 ⟨rfl, hb⟩
    have HB1 := Lib.hid (HB0.out.trans (hb.mono HB0.out.size))
    have HBK := Lib.hid hb
    clear hb x0 x1 c0 c1 c2
    have x0 := (HB1.out.cell (p := ⟨bs, 0, none⟩) HLS.out).trans HCS.out
    have x1 := (HB1.out.cell (p := ⟨ba, 0, none⟩) HLA.out).trans HCA.out
    go_wp2_with fail
    refine (HIX.out _ HBK.out).mono ?_
    rintro e w2 ⟨rfl, hb⟩
    have HB2 := Lib.hid (HB1.out.trans (hb.mono HB1.out.size))
    clear hb x0 x1
    go_wp2_with fail
    go_ret
    exact ⟨by rw [HY.out]; (first | done | rfl), HB2.out⟩
  · have HY := Lib.hid (show searchI qs (p : Int) lo hi = (p : Int) by unfold searchI; rw [if_pos HH.out])
    go_wp2_with fail
    refine HCL.out.mono ?_
    rintro e w1 ⟨rfl, hb⟩
    have HB1 := Lib.hid (HB0.out.trans (hb.mono HB0.out.size))
    clear hb x0 x1 c0 c1 c2
    have x0 := (HB1.out.cell (p := ⟨bs, 0, none⟩) HLS.out).trans HCS.out
    have x1 := (HB1.out.cell (p := ⟨ba, 0, none⟩) HLA.out).trans HCA.out
    go_wp2_with fail
    go_ret
    exact ⟨by rw [HY.out]; (first | done | rfl), HB1.out⟩
theorem search_any (lo hi : Int) (bs ba : Nat) (a : Option Addr) (cap : Nat) (qs : List RqD) (on : Int) (ho : on = -1 ∨ (0 ≤ on ∧ on < qs.length)) (w : World) (hs : w.cell? ⟨bs, 0, none⟩ = some (.int .i64 on)) (ha : w.cell? ⟨ba, 0, none⟩ = some (.slice a qs.length cap)) (hin : InS w a qs.length 3 (flat rqL qs)) : Calls Try.prog 82 #[.int .i64 lo, .int .i64 hi, .pointer (some ⟨bs, 0, none⟩), .pointer (some ⟨ba, 0, none⟩)] w fun e w' => e = .returned (.int .i64 (searchI qs on lo hi)) ∧ Below w.heap.size w w' := by
  rcases ho with rfl | ⟨h1, h2⟩
  · exact search_none lo hi bs ba a cap qs w hs ha hin
  · obtain ⟨p, rfl⟩ : ∃ p : Nat, on = (p : Int) := ⟨on.toNat, by omega⟩
    exact search_at lo hi bs ba a cap qs p (by omega) w hs ha hin
end Go.Proofs.Ytojbhbifbennfaa
