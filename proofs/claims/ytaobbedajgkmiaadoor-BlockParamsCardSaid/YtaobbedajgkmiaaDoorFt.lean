/- index, value, Holds and Params of the specification. -/
import Derived.Test.YtaobbedajgkmiaaDoorFs
import Derived.Test.YtaobbedajgkmiaaDoorEc
import Derived.Test.YtaobbedajgkmiaaDoorEd
namespace Go.Proofs.YtaobbedajgkmiaaDoor
open Go.RowKit Go.Shelf Go.Maps Go.WideMaps

set_option linter.unusedVariables false
set_option linter.unusedSimpArgs false
set_option maxHeartbeats 4000000 in
set_option maxRecDepth 100000 in
theorem rindex_any (s : ByteArray) (a1 a2 a3 : Option Addr) (c1 n2 c2 n3 c3 : Nat) (rs rm : Int) (nm : ByteArray) (pl : List BndD) (N : Nat) (hN : N = pl.length) (w : World) (hp : InS w a1 N 4 (flat bndL pl)) :
    Calls Tryd.prog 33 #[.agg #[.string s, .slice a1 N c1, .slice a2 n2 c2, .slice a3 n3 c3, .int .i64 rs, .int .i64 rm], .string nm] w fun e w' => e = .returned (.int .i64 (firstI (fun x => eqS x.nm nm) pl 0)) ∧ Below w.heap.size w w' := by
  obtain ⟨W, g, hW, hg, RG, B0, sz⟩ := box1 w #[.string s, .slice a1 N c1, .slice a2 n2 c2, .slice a3 n3 c3, .int .i64 rs, .int .i64 rm] 30
  have HG := Lib.hid RG
  have HB0 := Lib.hid B0
  clear RG B0 sz
  have HP := Lib.hid (hp.keep HB0.out)
  have HN := Lib.hid hN
  have HL := Lib.hid (show N ≤ 9223372036854775807 from hp.2.1)
  clear hp hN
  go_enter Tryd.func33, Tryd.ntmps33
  go_upto_region 1 with fail
  rw [← hW]
  try rw [← hg]
  clear hW hg
  go_wp2_with fail
  go_loopw [5] (fun i wr => ∃ k : Nat, k ≤ N ∧ i = .int .i64 k ∧ Hid (firstI (fun x => eqS x.nm nm) pl 0 = firstI (fun x => eqS x.nm nm) (pl.drop k) k ∧ Below W.heap.size W wr)) (fun i _ => N - (intOf i).toNat)
  case atStart => exact ⟨0, Nat.zero_le _, rfl, Lib.hid ⟨rfl, Below.refl _ _⟩⟩
  case round =>
    obtain ⟨k, hk, rfl, hH⟩ := hrel
    have HFI := Lib.hid hH.out.1
    have HB := Lib.hid hH.out.2
    clear hH
    have g_1 := (HG.out.keep HB.out).c 1 _ rfl
    by_cases hlt : k < N
    · have n0 := HL.out
      obtain ⟨lb, lo, rfl, hll, hlc⟩ := (show InS wr a1 pl.length 4 (flat bndL pl) by rw [← HN.out]; exact HP.out.keep HB.out).at bndL_len (by have := HN.out; omega)
      obtain ⟨x, hx⟩ : ∃ x, pl[k]? = some x := ⟨_, List.getElem?_eq_getElem (by have := HN.out; omega)⟩
      obtain ⟨xn, xl, xh, xd⟩ := x
      have l0 : wr.cell? ⟨lb, lo + k * 4 + 0, none⟩ = some (.string xn) := hlc k _ hx 0 _ rfl
      rw [Nat.add_zero] at l0
      have HX := Lib.hid hx
      have kk : (k : Int) < (N : Int) := by omega
      clear hx hlc hll
      by_cases he : xn = nm
      · subst he
        have HM := Lib.hid (HFI.out.trans (firstI_hit HX.out (decide_eq_true rfl)))
        have e1 : (xn.toList == xn.toList) = true := by simp
        go_wp2_with fail
        go_ret
        exact ⟨by rw [HM.out]; (first | done | rfl), HB0.out.trans (HB.out.mono HB0.out.size)⟩
      · have HM := Lib.hid (HFI.out.trans (firstI_miss HX.out (decide_eq_false he)))
        have e1 := eqs_no he
        clear he
        go_wp2_with fail
        go_roundw
        case rel => exact ⟨k + 1, by omega, by go_num, Lib.hid ⟨HM.out, HB.out⟩⟩
        case measure => (simp [intOf]) <;> omega
    · obtain rfl : k = N := by omega
      have HM := Lib.hid (show firstI (fun x => eqS x.nm nm) pl 0 = -1 from HFI.out.trans (by rw [HN.out]; exact firstI_end _ pl))
      go_wp2_with fail
      go_ret
      exact ⟨by rw [HM.out]; (first | done | rfl), HB0.out.trans (HB.out.mono HB0.out.size)⟩
set_option maxHeartbeats 4000000 in
set_option maxRecDepth 100000 in
theorem rvalue_at (s : ByteArray) (a1 a2 a3 : Option Addr) (c1 n2 c2 n3 c3 : Nat) (rs rm : Int) (nm : ByteArray) (pl : List BndD) (N : Nat) (hN : N = pl.length) (j : Nat) (hj : firstI (fun x => eqS x.nm nm) pl 0 = j) (pb po pc : Nat) (v : Int) (hjN : j < N) (w : World) (hp : InS w a1 N 4 (flat bndL pl)) (hc : w.cell? ⟨pb, po + j, none⟩ = some (.int .i64 v)) :
    Calls Tryd.prog 45 #[.agg #[.string s, .slice a1 N c1, .slice a2 n2 c2, .slice a3 n3 c3, .int .i64 rs, .int .i64 rm], .slice (some ⟨pb, po, none⟩) N pc, .string nm] w fun e w' => e = .returned (.int .i64 v) ∧ Below w.heap.size w w' := by
  have hbl := World.block_lt_of_cell? _ _ hc
  obtain ⟨W, g, hW, hg, RG, B0, sz⟩ := box1 w #[.string s, .slice a1 N c1, .slice a2 n2 c2, .slice a3 n3 c3, .int .i64 rs, .int .i64 rm] 30
  have HG := Lib.hid RG
  have HB0 := Lib.hid B0
  clear RG B0 sz
  have ki := rindex_any s a1 a2 a3 c1 n2 c2 n3 c3 rs rm nm pl N hN W (hp.keep HB0.out)
  rw [hj] at ki
  have KI := Lib.hid ki
  have HC := Lib.hid ((HB0.out.cell (p := ⟨pb, po + j, none⟩) hbl).trans hc)
  have HBL := Lib.hid (Nat.lt_of_lt_of_le hbl HB0.out.size)
  have n0 : N ≤ 9223372036854775807 := hp.2.1
  have jk : (j : Int) < (N : Int) := by omega
  clear hp hc hbl hN hj ki
  go_enter Tryd.func45, Tryd.ntmps45
  go_upto_region 1 with fail
  rw [← hW]
  try rw [← hg]
  clear hW hg
  have g_0 := HG.out.c 0 _ rfl
  have g_1 := HG.out.c 1 _ rfl
  have g_2 := HG.out.c 2 _ rfl
  have g_3 := HG.out.c 3 _ rfl
  have g_4 := HG.out.c 4 _ rfl
  have g_5 := HG.out.c 5 _ rfl
  go_wp2_with fail
  refine KI.out.mono ?_
  rintro e w2 ⟨rfl, hb⟩
  have HB2 := Lib.hid (HB0.out.trans (hb.mono HB0.out.size))
  have c0 := (hb.cell (p := ⟨pb, po + j, none⟩) HBL.out).trans HC.out
  clear hb g_0 g_1 g_2 g_3 g_4 g_5
  go_wp2_with fail
  go_ret
  exact ⟨rfl, HB2.out⟩
def HoldsOk (s : ByteArray) (pl : List BndD) (ag : List Int → Bool) : Prop := ∀ (a1 a2 a3 : Option Addr) (c1 n2 c2 n3 c3 : Nat) (rs rm : Int) (pa : Option Addr) (pc : Nat) (ps : List Int) (w : World), ps.length = pl.length → InS w a1 pl.length 4 (flat bndL pl) → InS w pa ps.length 1 (flat iL ps) → Calls Tryd.prog 34 #[.agg #[.string s, .slice a1 pl.length c1, .slice a2 n2 c2, .slice a3 n3 c3, .int .i64 rs, .int .i64 rm], .slice pa ps.length pc] w fun e w' => e = .returned (.bool (ag ps)) ∧ Below w.heap.size w w'
set_option maxHeartbeats 2000000 in
theorem holds_above : HoldsOk ⟨#[97, 98, 111, 118, 101]⟩ [] (fun _ => true) := by
  intro a1 a2 a3 c1 n2 c2 n3 c3 rs rm pa pc ps w _ _ _
  obtain ⟨W, g, hW, hg, RG, B0, sz⟩ := box1 w #[.string ⟨#[97, 98, 111, 118, 101]⟩, .slice a1 0 c1, .slice a2 n2 c2, .slice a3 n3 c3, .int .i64 rs, .int .i64 rm] 30
  have g_0 := RG.c 0 _ rfl
  have HB0 := Lib.hid B0
  clear RG B0 sz
  go_enter Tryd.func34, Tryd.ntmps34
  go_upto_region 1 with fail
  try simp only [List.length_cons, List.length_nil, Nat.zero_add, Nat.reduceAdd]
  rw [← hW]
  try rw [← hg]
  clear hW hg
  go_wp2_with fail
  go_ret
  exact ⟨rfl, HB0.out⟩
set_option maxHeartbeats 2000000 in
theorem holds_abs : HoldsOk ⟨#[97, 98, 115]⟩ [] (fun _ => true) := by
  intro a1 a2 a3 c1 n2 c2 n3 c3 rs rm pa pc ps w _ _ _
  obtain ⟨W, g, hW, hg, RG, B0, sz⟩ := box1 w #[.string ⟨#[97, 98, 115]⟩, .slice a1 0 c1, .slice a2 n2 c2, .slice a3 n3 c3, .int .i64 rs, .int .i64 rm] 30
  have g_0 := RG.c 0 _ rfl
  have HB0 := Lib.hid B0
  clear RG B0 sz
  go_enter Tryd.func34, Tryd.ntmps34
  go_upto_region 1 with fail
  try simp only [List.length_cons, List.length_nil, Nat.zero_add, Nat.reduceAdd]
  rw [← hW]
  try rw [← hg]
  clear hW hg
  go_wp2_with fail
  go_ret
  exact ⟨rfl, HB0.out⟩
set_option maxHeartbeats 2000000 in
theorem holds_add : HoldsOk ⟨#[97, 100, 100]⟩ [] (fun _ => true) := by
  intro a1 a2 a3 c1 n2 c2 n3 c3 rs rm pa pc ps w _ _ _
  obtain ⟨W, g, hW, hg, RG, B0, sz⟩ := box1 w #[.string ⟨#[97, 100, 100]⟩, .slice a1 0 c1, .slice a2 n2 c2, .slice a3 n3 c3, .int .i64 rs, .int .i64 rm] 30
  have g_0 := RG.c 0 _ rfl
  have HB0 := Lib.hid B0
  clear RG B0 sz
  go_enter Tryd.func34, Tryd.ntmps34
  go_upto_region 1 with fail
  try simp only [List.length_cons, List.length_nil, Nat.zero_add, Nat.reduceAdd]
  rw [← hW]
  try rw [← hg]
  clear hW hg
  go_wp2_with fail
  go_ret
  exact ⟨rfl, HB0.out⟩
set_option maxHeartbeats 2000000 in
theorem holds_and : HoldsOk ⟨#[97, 110, 100]⟩ [] (fun _ => true) := by
  intro a1 a2 a3 c1 n2 c2 n3 c3 rs rm pa pc ps w _ _ _
  obtain ⟨W, g, hW, hg, RG, B0, sz⟩ := box1 w #[.string ⟨#[97, 110, 100]⟩, .slice a1 0 c1, .slice a2 n2 c2, .slice a3 n3 c3, .int .i64 rs, .int .i64 rm] 30
  have g_0 := RG.c 0 _ rfl
  have HB0 := Lib.hid B0
  clear RG B0 sz
  go_enter Tryd.func34, Tryd.ntmps34
  go_upto_region 1 with fail
  try simp only [List.length_cons, List.length_nil, Nat.zero_add, Nat.reduceAdd]
  rw [← hW]
  try rw [← hg]
  clear hW hg
  go_wp2_with fail
  go_ret
  exact ⟨rfl, HB0.out⟩
set_option maxHeartbeats 2000000 in
theorem holds_below : HoldsOk ⟨#[98, 101, 108, 111, 119]⟩ [] (fun _ => true) := by
  intro a1 a2 a3 c1 n2 c2 n3 c3 rs rm pa pc ps w _ _ _
  obtain ⟨W, g, hW, hg, RG, B0, sz⟩ := box1 w #[.string ⟨#[98, 101, 108, 111, 119]⟩, .slice a1 0 c1, .slice a2 n2 c2, .slice a3 n3 c3, .int .i64 rs, .int .i64 rm] 30
  have g_0 := RG.c 0 _ rfl
  have HB0 := Lib.hid B0
  clear RG B0 sz
  go_enter Tryd.func34, Tryd.ntmps34
  go_upto_region 1 with fail
  try simp only [List.length_cons, List.length_nil, Nat.zero_add, Nat.reduceAdd]
  rw [← hW]
  try rw [← hg]
  clear hW hg
  go_wp2_with fail
  go_ret
  exact ⟨rfl, HB0.out⟩
set_option maxHeartbeats 2000000 in
theorem holds_choose : HoldsOk ⟨#[99, 104, 111, 111, 115, 101]⟩ [] (fun _ => true) := by
  intro a1 a2 a3 c1 n2 c2 n3 c3 rs rm pa pc ps w _ _ _
  obtain ⟨W, g, hW, hg, RG, B0, sz⟩ := box1 w #[.string ⟨#[99, 104, 111, 111, 115, 101]⟩, .slice a1 0 c1, .slice a2 n2 c2, .slice a3 n3 c3, .int .i64 rs, .int .i64 rm] 30
  have g_0 := RG.c 0 _ rfl
  have HB0 := Lib.hid B0
  clear RG B0 sz
  go_enter Tryd.func34, Tryd.ntmps34
  go_upto_region 1 with fail
  try simp only [List.length_cons, List.length_nil, Nat.zero_add, Nat.reduceAdd]
  rw [← hW]
  try rw [← hg]
  clear hW hg
  go_wp2_with fail
  go_ret
  exact ⟨rfl, HB0.out⟩
set_option maxHeartbeats 2000000 in
theorem holds_count : HoldsOk ⟨#[99, 111, 117, 110, 116]⟩ [] (fun _ => true) := by
  intro a1 a2 a3 c1 n2 c2 n3 c3 rs rm pa pc ps w _ _ _
  obtain ⟨W, g, hW, hg, RG, B0, sz⟩ := box1 w #[.string ⟨#[99, 111, 117, 110, 116]⟩, .slice a1 0 c1, .slice a2 n2 c2, .slice a3 n3 c3, .int .i64 rs, .int .i64 rm] 30
  have g_0 := RG.c 0 _ rfl
  have HB0 := Lib.hid B0
  clear RG B0 sz
  go_enter Tryd.func34, Tryd.ntmps34
  go_upto_region 1 with fail
  try simp only [List.length_cons, List.length_nil, Nat.zero_add, Nat.reduceAdd]
  rw [← hW]
  try rw [← hg]
  clear hW hg
  go_wp2_with fail
  go_ret
  exact ⟨rfl, HB0.out⟩
set_option maxHeartbeats 2000000 in
theorem holds_dewpoint : HoldsOk ⟨#[100, 101, 119, 112, 111, 105, 110, 116]⟩ [] (fun _ => true) := by
  intro a1 a2 a3 c1 n2 c2 n3 c3 rs rm pa pc ps w _ _ _
  obtain ⟨W, g, hW, hg, RG, B0, sz⟩ := box1 w #[.string ⟨#[100, 101, 119, 112, 111, 105, 110, 116]⟩, .slice a1 0 c1, .slice a2 n2 c2, .slice a3 n3 c3, .int .i64 rs, .int .i64 rm] 30
  have g_0 := RG.c 0 _ rfl
  have HB0 := Lib.hid B0
  clear RG B0 sz
  go_enter Tryd.func34, Tryd.ntmps34
  go_upto_region 1 with fail
  try simp only [List.length_cons, List.length_nil, Nat.zero_add, Nat.reduceAdd]
  rw [← hW]
  try rw [← hg]
  clear hW hg
  go_wp2_with fail
  go_ret
  exact ⟨rfl, HB0.out⟩
set_option maxHeartbeats 2000000 in
theorem holds_div : HoldsOk ⟨#[100, 105, 118]⟩ [] (fun _ => true) := by
  intro a1 a2 a3 c1 n2 c2 n3 c3 rs rm pa pc ps w _ _ _
  obtain ⟨W, g, hW, hg, RG, B0, sz⟩ := box1 w #[.string ⟨#[100, 105, 118]⟩, .slice a1 0 c1, .slice a2 n2 c2, .slice a3 n3 c3, .int .i64 rs, .int .i64 rm] 30
  have g_0 := RG.c 0 _ rfl
  have HB0 := Lib.hid B0
  clear RG B0 sz
  go_enter Tryd.func34, Tryd.ntmps34
  go_upto_region 1 with fail
  try simp only [List.length_cons, List.length_nil, Nat.zero_add, Nat.reduceAdd]
  rw [← hW]
  try rw [← hg]
  clear hW hg
  go_wp2_with fail
  go_ret
  exact ⟨rfl, HB0.out⟩
set_option maxHeartbeats 2000000 in
theorem holds_edge : HoldsOk ⟨#[101, 100, 103, 101]⟩ [] (fun _ => true) := by
  intro a1 a2 a3 c1 n2 c2 n3 c3 rs rm pa pc ps w _ _ _
  obtain ⟨W, g, hW, hg, RG, B0, sz⟩ := box1 w #[.string ⟨#[101, 100, 103, 101]⟩, .slice a1 0 c1, .slice a2 n2 c2, .slice a3 n3 c3, .int .i64 rs, .int .i64 rm] 30
  have g_0 := RG.c 0 _ rfl
  have HB0 := Lib.hid B0
  clear RG B0 sz
  go_enter Tryd.func34, Tryd.ntmps34
  go_upto_region 1 with fail
  try simp only [List.length_cons, List.length_nil, Nat.zero_add, Nat.reduceAdd]
  rw [← hW]
  try rw [← hg]
  clear hW hg
  go_wp2_with fail
  go_ret
  exact ⟨rfl, HB0.out⟩
set_option maxHeartbeats 2000000 in
theorem holds_enthalpy : HoldsOk ⟨#[101, 110, 116, 104, 97, 108, 112, 121]⟩ [] (fun _ => true) := by
  intro a1 a2 a3 c1 n2 c2 n3 c3 rs rm pa pc ps w _ _ _
  obtain ⟨W, g, hW, hg, RG, B0, sz⟩ := box1 w #[.string ⟨#[101, 110, 116, 104, 97, 108, 112, 121]⟩, .slice a1 0 c1, .slice a2 n2 c2, .slice a3 n3 c3, .int .i64 rs, .int .i64 rm] 30
  have g_0 := RG.c 0 _ rfl
  have HB0 := Lib.hid B0
  clear RG B0 sz
  go_enter Tryd.func34, Tryd.ntmps34
  go_upto_region 1 with fail
  try simp only [List.length_cons, List.length_nil, Nat.zero_add, Nat.reduceAdd]
  rw [← hW]
  try rw [← hg]
  clear hW hg
  go_wp2_with fail
  go_ret
  exact ⟨rfl, HB0.out⟩
structure Cshyst (w : World) (pb po : Nat) (v0 v1 : Int) : Prop where
  c0 : w.cell? ⟨pb, po + 0, none⟩ = some (.int .i64 v0)
  c1 : w.cell? ⟨pb, po + 1, none⟩ = some (.int .i64 v1)
theorem Cshyst.keep {w w' : World} {pb po : Nat} {v0 v1 : Int} (h : Cshyst w pb po v0 v1) (hb : Below w.heap.size w w') : Cshyst w' pb po v0 v1 :=
  ⟨(hb.cell (p := ⟨pb, po + 0, none⟩) (World.block_lt_of_cell? _ _ h.c0)).trans h.c0, (hb.cell (p := ⟨pb, po + 1, none⟩) (World.block_lt_of_cell? _ _ h.c1)).trans h.c1⟩
theorem listhyst {ps : List Int} (h : ps.length = 2) : ∃ v0 v1, ps = [v0, v1] := by
  match ps, h with
  | [v0, v1], _ => exact ⟨v0, v1, rfl⟩
set_option maxHeartbeats 8000000 in
set_option maxRecDepth 100000 in
theorem holds_hyst : HoldsOk ⟨#[104, 121, 115, 116]⟩ [⟨⟨#[111, 110]⟩, (-1000000000000), 1000000000000, 1000⟩, ⟨⟨#[111, 102, 102]⟩, (-1000000000000), 1000000000000, 0⟩] agLt := by
  intro a1 a2 a3 c1 n2 c2 n3 c3 rs rm pa pc ps w hl hp hq
  obtain ⟨v0, v1, rfl⟩ := listhyst hl
  obtain ⟨pb, po, rfl, hpl, hpc⟩ := hq.at iL_len (by simp)
  have HC := Lib.hid (show Cshyst w pb po v0 v1 from ⟨iL_cells hpc 0 v0 rfl, iL_cells hpc 1 v1 rfl⟩)
  have HP := Lib.hid (show InS w a1 2 4 (flat bndL [⟨⟨#[111, 110]⟩, (-1000000000000), 1000000000000, 1000⟩, ⟨⟨#[111, 102, 102]⟩, (-1000000000000), 1000000000000, 0⟩]) from hp)
  clear hp hq hpc hpl hl
  obtain ⟨W, g, hW, hg, RG, B0, sz⟩ := box1 w #[.string ⟨#[104, 121, 115, 116]⟩, .slice a1 2 c1, .slice a2 n2 c2, .slice a3 n3 c3, .int .i64 rs, .int .i64 rm] 30
  have HG := Lib.hid RG
  have HBw0 := Lib.hid B0
  have HPw0 := Lib.hid (HP.out.keep B0)
  have HCw0 := Lib.hid (HC.out.keep B0)
  clear RG B0 sz HP HC
  simp only [List.length_cons, List.length_nil, Nat.zero_add, Nat.reduceAdd]
  go_enter Tryd.func34, Tryd.ntmps34
  go_upto_region 1 with fail
  rw [← hW]
  try rw [← hg]
  clear hW hg
  have g_0 := HG.out.c 0 _ rfl
  have g_1 := HG.out.c 1 _ rfl
  have g_2 := HG.out.c 2 _ rfl
  have g_3 := HG.out.c 3 _ rfl
  have g_4 := HG.out.c 4 _ rfl
  have g_5 := HG.out.c 5 _ rfl
  go_wp2_with fail
  have HS0 := Lib.hid (show (W.cell? ⟨g, 0, none⟩ = some (.string ⟨#[104, 121, 115, 116]⟩) ∧ W.cell? ⟨g, 1, none⟩ = some (.slice a1 2 c1) ∧ W.cell? ⟨g, 2, none⟩ = some (.slice a2 n2 c2) ∧ W.cell? ⟨g, 3, none⟩ = some (.slice a3 n3 c3) ∧ W.cell? ⟨g, 4, none⟩ = some (.int .i64 rs) ∧ W.cell? ⟨g, 5, none⟩ = some (.int .i64 rm)) from ⟨g_0, g_1, g_2, g_3, g_4, g_5⟩)
  refine wp_region_held_drew (S := fun w => (w.cell? ⟨g, 0, none⟩ = some (.string ⟨#[104, 121, 115, 116]⟩) ∧ w.cell? ⟨g, 1, none⟩ = some (.slice a1 2 c1) ∧ w.cell? ⟨g, 2, none⟩ = some (.slice a2 n2 c2) ∧ w.cell? ⟨g, 3, none⟩ = some (.slice a3 n3 c3) ∧ w.cell? ⟨g, 4, none⟩ = some (.int .i64 rs) ∧ w.cell? ⟨g, 5, none⟩ = some (.int .i64 rm))) (by kernel_rfl) HS0.out (fun hHeld => ?_)
  have hdr : Below W.heap.size W W.drew := (Below.refl _ _).drew
  have HBwx := Lib.hid (HBw0.out.trans (hdr.mono HBw0.out.size))
  have HPwx := Lib.hid (HPw0.out.keep hdr)
  have HCwx := Lib.hid (HCw0.out.keep hdr)
  obtain ⟨wx, hwx⟩ : ∃ x, x = W.drew := ⟨_, rfl⟩
  have HGLwx := Lib.hid (show g < wx.heap.size by rw [hwx]; exact HG.out.lt)
  rw [← hwx] at HBwx HPwx HCwx hHeld ⊢
  clear hwx hdr HBw0 HPw0 HCw0 HG HS0 g_0 g_1 g_2 g_3 g_4 g_5
  refine' wpAnyH_take (i := 0) (v := _) rfl (by kernel_rfl) (by kernel_rfl) (by kernel_rfl) (fun _ _ _ h => h) (Or.inl ⟨by rfl, ?_⟩) hHeld ?_
  rotate_left
  · intro w hSw
    (try dsimp only at hSw)
    go_simp
    try with_reducible rfl
  (try simp only [Act.put, List.getElem_toArray, List.getElem_cons_zero, List.getElem_cons_succ, List.setIfInBounds_toArray, List.set_cons_zero, List.set_cons_succ])
  refine' wpAnyH_take (i := 1) (v := _) rfl (by kernel_rfl) (by kernel_rfl) (by kernel_rfl) (fun _ _ _ h => h) (Or.inl ⟨by rfl, ?_⟩) hHeld ?_
  rotate_left
  · intro w hSw
    (try dsimp only at hSw)
    go_simp
    try with_reducible rfl
  (try simp only [Act.put, List.getElem_toArray, List.getElem_cons_zero, List.getElem_cons_succ, List.setIfInBounds_toArray, List.set_cons_zero, List.set_cons_succ])
  refine' wpAnyH_take (i := 3) (v := _) rfl (by kernel_rfl) (by kernel_rfl) (by kernel_rfl) (fun _ _ _ h => h) (Or.inl ⟨by rfl, ?_⟩) hHeld ?_
  rotate_left
  · intro w hSw
    (try dsimp only at hSw)
    go_simp
    try with_reducible rfl
  (try simp only [Act.put, List.getElem_toArray, List.getElem_cons_zero, List.getElem_cons_succ, List.setIfInBounds_toArray, List.set_cons_zero, List.set_cons_succ])
  refine' wpAnyH_take (i := 4) (v := _) rfl (by kernel_rfl) (by kernel_rfl) (by kernel_rfl) (fun _ _ _ h => h) (Or.inl ⟨by rfl, ?_⟩) hHeld ?_
  rotate_left
  · intro w hSw
    (try dsimp only at hSw)
    go_simp
    try with_reducible rfl
  (try simp only [Act.put, List.getElem_toArray, List.getElem_cons_zero, List.getElem_cons_succ, List.setIfInBounds_toArray, List.set_cons_zero, List.set_cons_succ])
  have hh := hHeld
  refine wpAnyH_ready (rs := [2]) (by kernel_rfl) (by simp) ?_
  refine AllReadyH.cons rfl (fun K hK => ?_) AllReadyH.nil
  go_simp
  refine (rvalue_at ⟨#[104, 121, 115, 116]⟩ a1 a2 a3 c1 n2 c2 n3 c3 rs rm ⟨#[111, 102, 102]⟩ [⟨⟨#[111, 110]⟩, (-1000000000000), 1000000000000, 1000⟩, ⟨⟨#[111, 102, 102]⟩, (-1000000000000), 1000000000000, 0⟩] 2 rfl 1 (by kernel_rfl) pb po pc v1 (by decide) _ HPwx.out HCwx.out.c1).mono ?_
  rintro e wy ⟨rfl, hb⟩
  have HBwy := Lib.hid (HBwx.out.trans (hb.mono HBwx.out.size))
  have HPwy := Lib.hid (HPwx.out.keep hb)
  have HCwy := Lib.hid (HCwx.out.keep hb)
  have hs2 : (wy.cell? ⟨g, 0, none⟩ = some (.string ⟨#[104, 121, 115, 116]⟩) ∧ wy.cell? ⟨g, 1, none⟩ = some (.slice a1 2 c1) ∧ wy.cell? ⟨g, 2, none⟩ = some (.slice a2 n2 c2) ∧ wy.cell? ⟨g, 3, none⟩ = some (.slice a3 n3 c3) ∧ wy.cell? ⟨g, 4, none⟩ = some (.int .i64 rs) ∧ wy.cell? ⟨g, 5, none⟩ = some (.int .i64 rm)) := ⟨(hb.cell (p := ⟨g, 0, none⟩) HGLwx.out).trans hh.1, (hb.cell (p := ⟨g, 1, none⟩) HGLwx.out).trans hh.2.1, (hb.cell (p := ⟨g, 2, none⟩) HGLwx.out).trans hh.2.2.1, (hb.cell (p := ⟨g, 3, none⟩) HGLwx.out).trans hh.2.2.2.1, (hb.cell (p := ⟨g, 4, none⟩) HGLwx.out).trans hh.2.2.2.2.1, (hb.cell (p := ⟨g, 5, none⟩) HGLwx.out).trans hh.2.2.2.2.2⟩
  have HGLwy := Lib.hid (Nat.lt_of_lt_of_le HGLwx.out hb.size)
  clear hb hHeld hh HBwx HPwx HCwx HGLwx
  (try go_simp)
  refine hK.out _ _ hs2 (fun hHeld => ?_)
  clear hK K hs2
  (try simp only [Act.put, List.getElem_toArray, List.getElem_cons_zero, List.getElem_cons_succ, List.setIfInBounds_toArray, List.set_cons_zero, List.set_cons_succ])
  have hh := hHeld
  refine wpAnyH_ready (rs := [5]) (by kernel_rfl) (by simp) ?_
  refine AllReadyH.cons rfl (fun K hK => ?_) AllReadyH.nil
  go_simp
  refine (rvalue_at ⟨#[104, 121, 115, 116]⟩ a1 a2 a3 c1 n2 c2 n3 c3 rs rm ⟨#[111, 110]⟩ [⟨⟨#[111, 110]⟩, (-1000000000000), 1000000000000, 1000⟩, ⟨⟨#[111, 102, 102]⟩, (-1000000000000), 1000000000000, 0⟩] 2 rfl 0 (by kernel_rfl) pb po pc v0 (by decide) _ HPwy.out HCwy.out.c0).mono ?_
  rintro e wz ⟨rfl, hb⟩
  have HBwz := Lib.hid (HBwy.out.trans (hb.mono HBwy.out.size))
  have HPwz := Lib.hid (HPwy.out.keep hb)
  have HCwz := Lib.hid (HCwy.out.keep hb)
  have hs2 : (wz.cell? ⟨g, 0, none⟩ = some (.string ⟨#[104, 121, 115, 116]⟩) ∧ wz.cell? ⟨g, 1, none⟩ = some (.slice a1 2 c1) ∧ wz.cell? ⟨g, 2, none⟩ = some (.slice a2 n2 c2) ∧ wz.cell? ⟨g, 3, none⟩ = some (.slice a3 n3 c3) ∧ wz.cell? ⟨g, 4, none⟩ = some (.int .i64 rs) ∧ wz.cell? ⟨g, 5, none⟩ = some (.int .i64 rm)) := ⟨(hb.cell (p := ⟨g, 0, none⟩) HGLwy.out).trans hh.1, (hb.cell (p := ⟨g, 1, none⟩) HGLwy.out).trans hh.2.1, (hb.cell (p := ⟨g, 2, none⟩) HGLwy.out).trans hh.2.2.1, (hb.cell (p := ⟨g, 3, none⟩) HGLwy.out).trans hh.2.2.2.1, (hb.cell (p := ⟨g, 4, none⟩) HGLwy.out).trans hh.2.2.2.2.1, (hb.cell (p := ⟨g, 5, none⟩) HGLwy.out).trans hh.2.2.2.2.2⟩
  have HGLwz := Lib.hid (Nat.lt_of_lt_of_le HGLwy.out hb.size)
  clear hb hHeld hh HBwy HPwy HCwy HGLwy
  (try go_simp)
  refine hK.out _ _ hs2 (fun hHeld => ?_)
  clear hK K hs2
  (try simp only [Act.put, List.getElem_toArray, List.getElem_cons_zero, List.getElem_cons_succ, List.setIfInBounds_toArray, List.set_cons_zero, List.set_cons_succ])
  refine' wpAnyH_take (i := 6) (v := _) rfl (by kernel_rfl) (by kernel_rfl) (by kernel_rfl) (fun _ _ _ h => h) (Or.inl ⟨by rfl, ?_⟩) hHeld ?_
  rotate_left
  · intro w hSw
    (try dsimp only at hSw)
    go_simp
    try with_reducible rfl
  (try simp only [Act.put, List.getElem_toArray, List.getElem_cons_zero, List.getElem_cons_succ, List.setIfInBounds_toArray, List.set_cons_zero, List.set_cons_succ])
  refine' wpAnyH_take (i := 7) (v := _) rfl (by kernel_rfl) (by kernel_rfl) (by kernel_rfl) (fun _ _ _ h => h) (Or.inl ⟨by rfl, ?_⟩) hHeld ?_
  rotate_left
  · intro w hSw
    (try dsimp only at hSw)
    go_simp
    try with_reducible rfl
  (try simp only [Act.put, List.getElem_toArray, List.getElem_cons_zero, List.getElem_cons_succ, List.setIfInBounds_toArray, List.set_cons_zero, List.set_cons_succ])
  refine wpAnyH_done (by kernel_rfl) ?_ _
  (try simp only [Act.put, List.getElem_toArray, List.getElem_cons_zero, List.getElem_cons_succ, List.setIfInBounds_toArray, List.set_cons_zero, List.set_cons_succ])
  clear hHeld
  go_wp2_with fail
  go_ret
  exact ⟨rfl, HBwz.out⟩
set_option maxHeartbeats 2000000 in
theorem holds_latch : HoldsOk ⟨#[108, 97, 116, 99, 104]⟩ [] (fun _ => true) := by
  intro a1 a2 a3 c1 n2 c2 n3 c3 rs rm pa pc ps w _ _ _
  obtain ⟨W, g, hW, hg, RG, B0, sz⟩ := box1 w #[.string ⟨#[108, 97, 116, 99, 104]⟩, .slice a1 0 c1, .slice a2 n2 c2, .slice a3 n3 c3, .int .i64 rs, .int .i64 rm] 30
  have g_0 := RG.c 0 _ rfl
  have HB0 := Lib.hid B0
  clear RG B0 sz
  go_enter Tryd.func34, Tryd.ntmps34
  go_upto_region 1 with fail
  try simp only [List.length_cons, List.length_nil, Nat.zero_add, Nat.reduceAdd]
  rw [← hW]
  try rw [← hg]
  clear hW hg
  go_wp2_with fail
  go_ret
  exact ⟨rfl, HB0.out⟩
structure Cslimit (w : World) (pb po : Nat) (v0 v1 : Int) : Prop where
  c0 : w.cell? ⟨pb, po + 0, none⟩ = some (.int .i64 v0)
  c1 : w.cell? ⟨pb, po + 1, none⟩ = some (.int .i64 v1)
theorem Cslimit.keep {w w' : World} {pb po : Nat} {v0 v1 : Int} (h : Cslimit w pb po v0 v1) (hb : Below w.heap.size w w') : Cslimit w' pb po v0 v1 :=
  ⟨(hb.cell (p := ⟨pb, po + 0, none⟩) (World.block_lt_of_cell? _ _ h.c0)).trans h.c0, (hb.cell (p := ⟨pb, po + 1, none⟩) (World.block_lt_of_cell? _ _ h.c1)).trans h.c1⟩
theorem listlimit {ps : List Int} (h : ps.length = 2) : ∃ v0 v1, ps = [v0, v1] := by
  match ps, h with
  | [v0, v1], _ => exact ⟨v0, v1, rfl⟩
set_option maxHeartbeats 8000000 in
set_option maxRecDepth 100000 in
theorem holds_limit : HoldsOk ⟨#[108, 105, 109, 105, 116]⟩ [⟨⟨#[108, 111, 119]⟩, (-1000000000000), 1000000000000, (-1000000000000)⟩, ⟨⟨#[104, 105, 103, 104]⟩, (-1000000000000), 1000000000000, 1000000000000⟩] agLe := by
  intro a1 a2 a3 c1 n2 c2 n3 c3 rs rm pa pc ps w hl hp hq
  obtain ⟨v0, v1, rfl⟩ := listlimit hl
  obtain ⟨pb, po, rfl, hpl, hpc⟩ := hq.at iL_len (by simp)
  have HC := Lib.hid (show Cslimit w pb po v0 v1 from ⟨iL_cells hpc 0 v0 rfl, iL_cells hpc 1 v1 rfl⟩)
  have HP := Lib.hid (show InS w a1 2 4 (flat bndL [⟨⟨#[108, 111, 119]⟩, (-1000000000000), 1000000000000, (-1000000000000)⟩, ⟨⟨#[104, 105, 103, 104]⟩, (-1000000000000), 1000000000000, 1000000000000⟩]) from hp)
  clear hp hq hpc hpl hl
  obtain ⟨W, g, hW, hg, RG, B0, sz⟩ := box1 w #[.string ⟨#[108, 105, 109, 105, 116]⟩, .slice a1 2 c1, .slice a2 n2 c2, .slice a3 n3 c3, .int .i64 rs, .int .i64 rm] 30
  have HG := Lib.hid RG
  have HBw0 := Lib.hid B0
  have HPw0 := Lib.hid (HP.out.keep B0)
  have HCw0 := Lib.hid (HC.out.keep B0)
  clear RG B0 sz HP HC
  simp only [List.length_cons, List.length_nil, Nat.zero_add, Nat.reduceAdd]
  go_enter Tryd.func34, Tryd.ntmps34
  go_upto_region 1 with fail
  rw [← hW]
  try rw [← hg]
  clear hW hg
  have g_0 := HG.out.c 0 _ rfl
  have g_1 := HG.out.c 1 _ rfl
  have g_2 := HG.out.c 2 _ rfl
  have g_3 := HG.out.c 3 _ rfl
  have g_4 := HG.out.c 4 _ rfl
  have g_5 := HG.out.c 5 _ rfl
  go_wp2_with fail
  have HS0 := Lib.hid (show (W.cell? ⟨g, 0, none⟩ = some (.string ⟨#[108, 105, 109, 105, 116]⟩) ∧ W.cell? ⟨g, 1, none⟩ = some (.slice a1 2 c1) ∧ W.cell? ⟨g, 2, none⟩ = some (.slice a2 n2 c2) ∧ W.cell? ⟨g, 3, none⟩ = some (.slice a3 n3 c3) ∧ W.cell? ⟨g, 4, none⟩ = some (.int .i64 rs) ∧ W.cell? ⟨g, 5, none⟩ = some (.int .i64 rm)) from ⟨g_0, g_1, g_2, g_3, g_4, g_5⟩)
  refine wp_region_held_drew (S := fun w => (w.cell? ⟨g, 0, none⟩ = some (.string ⟨#[108, 105, 109, 105, 116]⟩) ∧ w.cell? ⟨g, 1, none⟩ = some (.slice a1 2 c1) ∧ w.cell? ⟨g, 2, none⟩ = some (.slice a2 n2 c2) ∧ w.cell? ⟨g, 3, none⟩ = some (.slice a3 n3 c3) ∧ w.cell? ⟨g, 4, none⟩ = some (.int .i64 rs) ∧ w.cell? ⟨g, 5, none⟩ = some (.int .i64 rm))) (by kernel_rfl) HS0.out (fun hHeld => ?_)
  have hdr : Below W.heap.size W W.drew := (Below.refl _ _).drew
  have HBwx := Lib.hid (HBw0.out.trans (hdr.mono HBw0.out.size))
  have HPwx := Lib.hid (HPw0.out.keep hdr)
  have HCwx := Lib.hid (HCw0.out.keep hdr)
  obtain ⟨wx, hwx⟩ : ∃ x, x = W.drew := ⟨_, rfl⟩
  have HGLwx := Lib.hid (show g < wx.heap.size by rw [hwx]; exact HG.out.lt)
  rw [← hwx] at HBwx HPwx HCwx hHeld ⊢
  clear hwx hdr HBw0 HPw0 HCw0 HG HS0 g_0 g_1 g_2 g_3 g_4 g_5
  refine' wpAnyH_take (i := 0) (v := _) rfl (by kernel_rfl) (by kernel_rfl) (by kernel_rfl) (fun _ _ _ h => h) (Or.inl ⟨by rfl, ?_⟩) hHeld ?_
  rotate_left
  · intro w hSw
    (try dsimp only at hSw)
    go_simp
    try with_reducible rfl
  (try simp only [Act.put, List.getElem_toArray, List.getElem_cons_zero, List.getElem_cons_succ, List.setIfInBounds_toArray, List.set_cons_zero, List.set_cons_succ])
  refine' wpAnyH_take (i := 1) (v := _) rfl (by kernel_rfl) (by kernel_rfl) (by kernel_rfl) (fun _ _ _ h => h) (Or.inl ⟨by rfl, ?_⟩) hHeld ?_
  rotate_left
  · intro w hSw
    (try dsimp only at hSw)
    go_simp
    try with_reducible rfl
  (try simp only [Act.put, List.getElem_toArray, List.getElem_cons_zero, List.getElem_cons_succ, List.setIfInBounds_toArray, List.set_cons_zero, List.set_cons_succ])
  refine' wpAnyH_take (i := 3) (v := _) rfl (by kernel_rfl) (by kernel_rfl) (by kernel_rfl) (fun _ _ _ h => h) (Or.inl ⟨by rfl, ?_⟩) hHeld ?_
  rotate_left
  · intro w hSw
    (try dsimp only at hSw)
    go_simp
    try with_reducible rfl
  (try simp only [Act.put, List.getElem_toArray, List.getElem_cons_zero, List.getElem_cons_succ, List.setIfInBounds_toArray, List.set_cons_zero, List.set_cons_succ])
  refine' wpAnyH_take (i := 4) (v := _) rfl (by kernel_rfl) (by kernel_rfl) (by kernel_rfl) (fun _ _ _ h => h) (Or.inl ⟨by rfl, ?_⟩) hHeld ?_
  rotate_left
  · intro w hSw
    (try dsimp only at hSw)
    go_simp
    try with_reducible rfl
  (try simp only [Act.put, List.getElem_toArray, List.getElem_cons_zero, List.getElem_cons_succ, List.setIfInBounds_toArray, List.set_cons_zero, List.set_cons_succ])
  have hh := hHeld
  refine wpAnyH_ready (rs := [2]) (by kernel_rfl) (by simp) ?_
  refine AllReadyH.cons rfl (fun K hK => ?_) AllReadyH.nil
  go_simp
  refine (rvalue_at ⟨#[108, 105, 109, 105, 116]⟩ a1 a2 a3 c1 n2 c2 n3 c3 rs rm ⟨#[108, 111, 119]⟩ [⟨⟨#[108, 111, 119]⟩, (-1000000000000), 1000000000000, (-1000000000000)⟩, ⟨⟨#[104, 105, 103, 104]⟩, (-1000000000000), 1000000000000, 1000000000000⟩] 2 rfl 0 (by kernel_rfl) pb po pc v0 (by decide) _ HPwx.out HCwx.out.c0).mono ?_
  rintro e wy ⟨rfl, hb⟩
  have HBwy := Lib.hid (HBwx.out.trans (hb.mono HBwx.out.size))
  have HPwy := Lib.hid (HPwx.out.keep hb)
  have HCwy := Lib.hid (HCwx.out.keep hb)
  have hs2 : (wy.cell? ⟨g, 0, none⟩ = some (.string ⟨#[108, 105, 109, 105, 116]⟩) ∧ wy.cell? ⟨g, 1, none⟩ = some (.slice a1 2 c1) ∧ wy.cell? ⟨g, 2, none⟩ = some (.slice a2 n2 c2) ∧ wy.cell? ⟨g, 3, none⟩ = some (.slice a3 n3 c3) ∧ wy.cell? ⟨g, 4, none⟩ = some (.int .i64 rs) ∧ wy.cell? ⟨g, 5, none⟩ = some (.int .i64 rm)) := ⟨(hb.cell (p := ⟨g, 0, none⟩) HGLwx.out).trans hh.1, (hb.cell (p := ⟨g, 1, none⟩) HGLwx.out).trans hh.2.1, (hb.cell (p := ⟨g, 2, none⟩) HGLwx.out).trans hh.2.2.1, (hb.cell (p := ⟨g, 3, none⟩) HGLwx.out).trans hh.2.2.2.1, (hb.cell (p := ⟨g, 4, none⟩) HGLwx.out).trans hh.2.2.2.2.1, (hb.cell (p := ⟨g, 5, none⟩) HGLwx.out).trans hh.2.2.2.2.2⟩
  have HGLwy := Lib.hid (Nat.lt_of_lt_of_le HGLwx.out hb.size)
  clear hb hHeld hh HBwx HPwx HCwx HGLwx
  (try go_simp)
  refine hK.out _ _ hs2 (fun hHeld => ?_)
  clear hK K hs2
  (try simp only [Act.put, List.getElem_toArray, List.getElem_cons_zero, List.getElem_cons_succ, List.setIfInBounds_toArray, List.set_cons_zero, List.set_cons_succ])
  have hh := hHeld
  refine wpAnyH_ready (rs := [5]) (by kernel_rfl) (by simp) ?_
  refine AllReadyH.cons rfl (fun K hK => ?_) AllReadyH.nil
  go_simp
  refine (rvalue_at ⟨#[108, 105, 109, 105, 116]⟩ a1 a2 a3 c1 n2 c2 n3 c3 rs rm ⟨#[104, 105, 103, 104]⟩ [⟨⟨#[108, 111, 119]⟩, (-1000000000000), 1000000000000, (-1000000000000)⟩, ⟨⟨#[104, 105, 103, 104]⟩, (-1000000000000), 1000000000000, 1000000000000⟩] 2 rfl 1 (by kernel_rfl) pb po pc v1 (by decide) _ HPwy.out HCwy.out.c1).mono ?_
  rintro e wz ⟨rfl, hb⟩
  have HBwz := Lib.hid (HBwy.out.trans (hb.mono HBwy.out.size))
  have HPwz := Lib.hid (HPwy.out.keep hb)
  have HCwz := Lib.hid (HCwy.out.keep hb)
  have hs2 : (wz.cell? ⟨g, 0, none⟩ = some (.string ⟨#[108, 105, 109, 105, 116]⟩) ∧ wz.cell? ⟨g, 1, none⟩ = some (.slice a1 2 c1) ∧ wz.cell? ⟨g, 2, none⟩ = some (.slice a2 n2 c2) ∧ wz.cell? ⟨g, 3, none⟩ = some (.slice a3 n3 c3) ∧ wz.cell? ⟨g, 4, none⟩ = some (.int .i64 rs) ∧ wz.cell? ⟨g, 5, none⟩ = some (.int .i64 rm)) := ⟨(hb.cell (p := ⟨g, 0, none⟩) HGLwy.out).trans hh.1, (hb.cell (p := ⟨g, 1, none⟩) HGLwy.out).trans hh.2.1, (hb.cell (p := ⟨g, 2, none⟩) HGLwy.out).trans hh.2.2.1, (hb.cell (p := ⟨g, 3, none⟩) HGLwy.out).trans hh.2.2.2.1, (hb.cell (p := ⟨g, 4, none⟩) HGLwy.out).trans hh.2.2.2.2.1, (hb.cell (p := ⟨g, 5, none⟩) HGLwy.out).trans hh.2.2.2.2.2⟩
  have HGLwz := Lib.hid (Nat.lt_of_lt_of_le HGLwy.out hb.size)
  clear hb hHeld hh HBwy HPwy HCwy HGLwy
  (try go_simp)
  refine hK.out _ _ hs2 (fun hHeld => ?_)
  clear hK K hs2
  (try simp only [Act.put, List.getElem_toArray, List.getElem_cons_zero, List.getElem_cons_succ, List.setIfInBounds_toArray, List.set_cons_zero, List.set_cons_succ])
  refine' wpAnyH_take (i := 6) (v := _) rfl (by kernel_rfl) (by kernel_rfl) (by kernel_rfl) (fun _ _ _ h => h) (Or.inl ⟨by rfl, ?_⟩) hHeld ?_
  rotate_left
  · intro w hSw
    (try dsimp only at hSw)
    go_simp
    try with_reducible rfl
  (try simp only [Act.put, List.getElem_toArray, List.getElem_cons_zero, List.getElem_cons_succ, List.setIfInBounds_toArray, List.set_cons_zero, List.set_cons_succ])
  refine' wpAnyH_take (i := 7) (v := _) rfl (by kernel_rfl) (by kernel_rfl) (by kernel_rfl) (fun _ _ _ h => h) (Or.inl ⟨by rfl, ?_⟩) hHeld ?_
  rotate_left
  · intro w hSw
    (try dsimp only at hSw)
    go_simp
    try with_reducible rfl
  (try simp only [Act.put, List.getElem_toArray, List.getElem_cons_zero, List.getElem_cons_succ, List.setIfInBounds_toArray, List.set_cons_zero, List.set_cons_succ])
  refine wpAnyH_done (by kernel_rfl) ?_ _
  (try simp only [Act.put, List.getElem_toArray, List.getElem_cons_zero, List.getElem_cons_succ, List.setIfInBounds_toArray, List.set_cons_zero, List.set_cons_succ])
  clear hHeld
  go_wp2_with fail
  go_ret
  exact ⟨rfl, HBwz.out⟩
structure Csline (w : World) (pb po : Nat) (v0 v1 v2 v3 : Int) : Prop where
  c0 : w.cell? ⟨pb, po + 0, none⟩ = some (.int .i64 v0)
  c1 : w.cell? ⟨pb, po + 1, none⟩ = some (.int .i64 v1)
  c2 : w.cell? ⟨pb, po + 2, none⟩ = some (.int .i64 v2)
  c3 : w.cell? ⟨pb, po + 3, none⟩ = some (.int .i64 v3)
theorem Csline.keep {w w' : World} {pb po : Nat} {v0 v1 v2 v3 : Int} (h : Csline w pb po v0 v1 v2 v3) (hb : Below w.heap.size w w') : Csline w' pb po v0 v1 v2 v3 :=
  ⟨(hb.cell (p := ⟨pb, po + 0, none⟩) (World.block_lt_of_cell? _ _ h.c0)).trans h.c0, (hb.cell (p := ⟨pb, po + 1, none⟩) (World.block_lt_of_cell? _ _ h.c1)).trans h.c1, (hb.cell (p := ⟨pb, po + 2, none⟩) (World.block_lt_of_cell? _ _ h.c2)).trans h.c2, (hb.cell (p := ⟨pb, po + 3, none⟩) (World.block_lt_of_cell? _ _ h.c3)).trans h.c3⟩
theorem listline {ps : List Int} (h : ps.length = 4) : ∃ v0 v1 v2 v3, ps = [v0, v1, v2, v3] := by
  match ps, h with
  | [v0, v1, v2, v3], _ => exact ⟨v0, v1, v2, v3, rfl⟩
set_option maxHeartbeats 8000000 in
set_option maxRecDepth 100000 in
theorem holds_line : HoldsOk ⟨#[108, 105, 110, 101]⟩ [⟨⟨#[120, 49]⟩, (-1000000000000), 1000000000000, 0⟩, ⟨⟨#[121, 49]⟩, (-1000000000000), 1000000000000, 0⟩, ⟨⟨#[120, 50]⟩, (-1000000000000), 1000000000000, 100000⟩, ⟨⟨#[121, 50]⟩, (-1000000000000), 1000000000000, 100000⟩] agLine := by
  intro a1 a2 a3 c1 n2 c2 n3 c3 rs rm pa pc ps w hl hp hq
  obtain ⟨v0, v1, v2, v3, rfl⟩ := listline hl
  obtain ⟨pb, po, rfl, hpl, hpc⟩ := hq.at iL_len (by simp)
  have HC := Lib.hid (show Csline w pb po v0 v1 v2 v3 from ⟨iL_cells hpc 0 v0 rfl, iL_cells hpc 1 v1 rfl, iL_cells hpc 2 v2 rfl, iL_cells hpc 3 v3 rfl⟩)
  have HP := Lib.hid (show InS w a1 4 4 (flat bndL [⟨⟨#[120, 49]⟩, (-1000000000000), 1000000000000, 0⟩, ⟨⟨#[121, 49]⟩, (-1000000000000), 1000000000000, 0⟩, ⟨⟨#[120, 50]⟩, (-1000000000000), 1000000000000, 100000⟩, ⟨⟨#[121, 50]⟩, (-1000000000000), 1000000000000, 100000⟩]) from hp)
  clear hp hq hpc hpl hl
  obtain ⟨W, g, hW, hg, RG, B0, sz⟩ := box1 w #[.string ⟨#[108, 105, 110, 101]⟩, .slice a1 4 c1, .slice a2 n2 c2, .slice a3 n3 c3, .int .i64 rs, .int .i64 rm] 30
  have HG := Lib.hid RG
  have HBw0 := Lib.hid B0
  have HPw0 := Lib.hid (HP.out.keep B0)
  have HCw0 := Lib.hid (HC.out.keep B0)
  clear RG B0 sz HP HC
  simp only [List.length_cons, List.length_nil, Nat.zero_add, Nat.reduceAdd]
  go_enter Tryd.func34, Tryd.ntmps34
  go_upto_region 1 with fail
  rw [← hW]
  try rw [← hg]
  clear hW hg
  have g_0 := HG.out.c 0 _ rfl
  have g_1 := HG.out.c 1 _ rfl
  have g_2 := HG.out.c 2 _ rfl
  have g_3 := HG.out.c 3 _ rfl
  have g_4 := HG.out.c 4 _ rfl
  have g_5 := HG.out.c 5 _ rfl
  go_wp2_with fail
  have HS0 := Lib.hid (show (W.cell? ⟨g, 0, none⟩ = some (.string ⟨#[108, 105, 110, 101]⟩) ∧ W.cell? ⟨g, 1, none⟩ = some (.slice a1 4 c1) ∧ W.cell? ⟨g, 2, none⟩ = some (.slice a2 n2 c2) ∧ W.cell? ⟨g, 3, none⟩ = some (.slice a3 n3 c3) ∧ W.cell? ⟨g, 4, none⟩ = some (.int .i64 rs) ∧ W.cell? ⟨g, 5, none⟩ = some (.int .i64 rm)) from ⟨g_0, g_1, g_2, g_3, g_4, g_5⟩)
  refine wp_region_held_drew (S := fun w => (w.cell? ⟨g, 0, none⟩ = some (.string ⟨#[108, 105, 110, 101]⟩) ∧ w.cell? ⟨g, 1, none⟩ = some (.slice a1 4 c1) ∧ w.cell? ⟨g, 2, none⟩ = some (.slice a2 n2 c2) ∧ w.cell? ⟨g, 3, none⟩ = some (.slice a3 n3 c3) ∧ w.cell? ⟨g, 4, none⟩ = some (.int .i64 rs) ∧ w.cell? ⟨g, 5, none⟩ = some (.int .i64 rm))) (by kernel_rfl) HS0.out (fun hHeld => ?_)
  have hdr : Below W.heap.size W W.drew := (Below.refl _ _).drew
  have HBwx := Lib.hid (HBw0.out.trans (hdr.mono HBw0.out.size))
  have HPwx := Lib.hid (HPw0.out.keep hdr)
  have HCwx := Lib.hid (HCw0.out.keep hdr)
  obtain ⟨wx, hwx⟩ : ∃ x, x = W.drew := ⟨_, rfl⟩
  have HGLwx := Lib.hid (show g < wx.heap.size by rw [hwx]; exact HG.out.lt)
  rw [← hwx] at HBwx HPwx HCwx hHeld ⊢
  clear hwx hdr HBw0 HPw0 HCw0 HG HS0 g_0 g_1 g_2 g_3 g_4 g_5
  refine' wpAnyH_take (i := 0) (v := _) rfl (by kernel_rfl) (by kernel_rfl) (by kernel_rfl) (fun _ _ _ h => h) (Or.inl ⟨by rfl, ?_⟩) hHeld ?_
  rotate_left
  · intro w hSw
    (try dsimp only at hSw)
    go_simp
    try with_reducible rfl
  (try simp only [Act.put, List.getElem_toArray, List.getElem_cons_zero, List.getElem_cons_succ, List.setIfInBounds_toArray, List.set_cons_zero, List.set_cons_succ])
  refine' wpAnyH_take (i := 1) (v := _) rfl (by kernel_rfl) (by kernel_rfl) (by kernel_rfl) (fun _ _ _ h => h) (Or.inl ⟨by rfl, ?_⟩) hHeld ?_
  rotate_left
  · intro w hSw
    (try dsimp only at hSw)
    go_simp
    try with_reducible rfl
  (try simp only [Act.put, List.getElem_toArray, List.getElem_cons_zero, List.getElem_cons_succ, List.setIfInBounds_toArray, List.set_cons_zero, List.set_cons_succ])
  refine' wpAnyH_take (i := 3) (v := _) rfl (by kernel_rfl) (by kernel_rfl) (by kernel_rfl) (fun _ _ _ h => h) (Or.inl ⟨by rfl, ?_⟩) hHeld ?_
  rotate_left
  · intro w hSw
    (try dsimp only at hSw)
    go_simp
    try with_reducible rfl
  (try simp only [Act.put, List.getElem_toArray, List.getElem_cons_zero, List.getElem_cons_succ, List.setIfInBounds_toArray, List.set_cons_zero, List.set_cons_succ])
  refine' wpAnyH_take (i := 4) (v := _) rfl (by kernel_rfl) (by kernel_rfl) (by kernel_rfl) (fun _ _ _ h => h) (Or.inl ⟨by rfl, ?_⟩) hHeld ?_
  rotate_left
  · intro w hSw
    (try dsimp only at hSw)
    go_simp
    try with_reducible rfl
  (try simp only [Act.put, List.getElem_toArray, List.getElem_cons_zero, List.getElem_cons_succ, List.setIfInBounds_toArray, List.set_cons_zero, List.set_cons_succ])
  have hh := hHeld
  refine wpAnyH_ready (rs := [2]) (by kernel_rfl) (by simp) ?_
  refine AllReadyH.cons rfl (fun K hK => ?_) AllReadyH.nil
  go_simp
  refine (rvalue_at ⟨#[108, 105, 110, 101]⟩ a1 a2 a3 c1 n2 c2 n3 c3 rs rm ⟨#[120, 49]⟩ [⟨⟨#[120, 49]⟩, (-1000000000000), 1000000000000, 0⟩, ⟨⟨#[121, 49]⟩, (-1000000000000), 1000000000000, 0⟩, ⟨⟨#[120, 50]⟩, (-1000000000000), 1000000000000, 100000⟩, ⟨⟨#[121, 50]⟩, (-1000000000000), 1000000000000, 100000⟩] 4 rfl 0 (by kernel_rfl) pb po pc v0 (by decide) _ HPwx.out HCwx.out.c0).mono ?_
  rintro e wy ⟨rfl, hb⟩
  have HBwy := Lib.hid (HBwx.out.trans (hb.mono HBwx.out.size))
  have HPwy := Lib.hid (HPwx.out.keep hb)
  have HCwy := Lib.hid (HCwx.out.keep hb)
  have hs2 : (wy.cell? ⟨g, 0, none⟩ = some (.string ⟨#[108, 105, 110, 101]⟩) ∧ wy.cell? ⟨g, 1, none⟩ = some (.slice a1 4 c1) ∧ wy.cell? ⟨g, 2, none⟩ = some (.slice a2 n2 c2) ∧ wy.cell? ⟨g, 3, none⟩ = some (.slice a3 n3 c3) ∧ wy.cell? ⟨g, 4, none⟩ = some (.int .i64 rs) ∧ wy.cell? ⟨g, 5, none⟩ = some (.int .i64 rm)) := ⟨(hb.cell (p := ⟨g, 0, none⟩) HGLwx.out).trans hh.1, (hb.cell (p := ⟨g, 1, none⟩) HGLwx.out).trans hh.2.1, (hb.cell (p := ⟨g, 2, none⟩) HGLwx.out).trans hh.2.2.1, (hb.cell (p := ⟨g, 3, none⟩) HGLwx.out).trans hh.2.2.2.1, (hb.cell (p := ⟨g, 4, none⟩) HGLwx.out).trans hh.2.2.2.2.1, (hb.cell (p := ⟨g, 5, none⟩) HGLwx.out).trans hh.2.2.2.2.2⟩
  have HGLwy := Lib.hid (Nat.lt_of_lt_of_le HGLwx.out hb.size)
  clear hb hHeld hh HBwx HPwx HCwx HGLwx
  (try go_simp)
  refine hK.out _ _ hs2 (fun hHeld => ?_)
  clear hK K hs2
  (try simp only [Act.put, List.getElem_toArray, List.getElem_cons_zero, List.getElem_cons_succ, List.setIfInBounds_toArray, List.set_cons_zero, List.set_cons_succ])
  have hh := hHeld
  refine wpAnyH_ready (rs := [5]) (by kernel_rfl) (by simp) ?_
  refine AllReadyH.cons rfl (fun K hK => ?_) AllReadyH.nil
  go_simp
  refine (rvalue_at ⟨#[108, 105, 110, 101]⟩ a1 a2 a3 c1 n2 c2 n3 c3 rs rm ⟨#[120, 50]⟩ [⟨⟨#[120, 49]⟩, (-1000000000000), 1000000000000, 0⟩, ⟨⟨#[121, 49]⟩, (-1000000000000), 1000000000000, 0⟩, ⟨⟨#[120, 50]⟩, (-1000000000000), 1000000000000, 100000⟩, ⟨⟨#[121, 50]⟩, (-1000000000000), 1000000000000, 100000⟩] 4 rfl 2 (by kernel_rfl) pb po pc v2 (by decide) _ HPwy.out HCwy.out.c2).mono ?_
  rintro e wz ⟨rfl, hb⟩
  have HBwz := Lib.hid (HBwy.out.trans (hb.mono HBwy.out.size))
  have HPwz := Lib.hid (HPwy.out.keep hb)
  have HCwz := Lib.hid (HCwy.out.keep hb)
  have hs2 : (wz.cell? ⟨g, 0, none⟩ = some (.string ⟨#[108, 105, 110, 101]⟩) ∧ wz.cell? ⟨g, 1, none⟩ = some (.slice a1 4 c1) ∧ wz.cell? ⟨g, 2, none⟩ = some (.slice a2 n2 c2) ∧ wz.cell? ⟨g, 3, none⟩ = some (.slice a3 n3 c3) ∧ wz.cell? ⟨g, 4, none⟩ = some (.int .i64 rs) ∧ wz.cell? ⟨g, 5, none⟩ = some (.int .i64 rm)) := ⟨(hb.cell (p := ⟨g, 0, none⟩) HGLwy.out).trans hh.1, (hb.cell (p := ⟨g, 1, none⟩) HGLwy.out).trans hh.2.1, (hb.cell (p := ⟨g, 2, none⟩) HGLwy.out).trans hh.2.2.1, (hb.cell (p := ⟨g, 3, none⟩) HGLwy.out).trans hh.2.2.2.1, (hb.cell (p := ⟨g, 4, none⟩) HGLwy.out).trans hh.2.2.2.2.1, (hb.cell (p := ⟨g, 5, none⟩) HGLwy.out).trans hh.2.2.2.2.2⟩
  have HGLwz := Lib.hid (Nat.lt_of_lt_of_le HGLwy.out hb.size)
  clear hb hHeld hh HBwy HPwy HCwy HGLwy
  (try go_simp)
  refine hK.out _ _ hs2 (fun hHeld => ?_)
  clear hK K hs2
  (try simp only [Act.put, List.getElem_toArray, List.getElem_cons_zero, List.getElem_cons_succ, List.setIfInBounds_toArray, List.set_cons_zero, List.set_cons_succ])
  refine' wpAnyH_take (i := 6) (v := _) rfl (by kernel_rfl) (by kernel_rfl) (by kernel_rfl) (fun _ _ _ h => h) (Or.inl ⟨by rfl, ?_⟩) hHeld ?_
  rotate_left
  · intro w hSw
    (try dsimp only at hSw)
    go_simp
    try with_reducible rfl
  (try simp only [Act.put, List.getElem_toArray, List.getElem_cons_zero, List.getElem_cons_succ, List.setIfInBounds_toArray, List.set_cons_zero, List.set_cons_succ])
  refine' wpAnyH_take (i := 7) (v := _) rfl (by kernel_rfl) (by kernel_rfl) (by kernel_rfl) (fun _ _ _ h => h) (Or.inl ⟨by rfl, ?_⟩) hHeld ?_
  rotate_left
  · intro w hSw
    (try dsimp only at hSw)
    go_simp
    try with_reducible rfl
  (try simp only [Act.put, List.getElem_toArray, List.getElem_cons_zero, List.getElem_cons_succ, List.setIfInBounds_toArray, List.set_cons_zero, List.set_cons_succ])
  refine wpAnyH_done (by kernel_rfl) ?_ _
  (try simp only [Act.put, List.getElem_toArray, List.getElem_cons_zero, List.getElem_cons_succ, List.setIfInBounds_toArray, List.set_cons_zero, List.set_cons_succ])
  clear hHeld
  go_wp2_with fail
  go_ret
  exact ⟨rfl, HBwz.out⟩
set_option maxHeartbeats 2000000 in
theorem holds_max : HoldsOk ⟨#[109, 97, 120]⟩ [] (fun _ => true) := by
  intro a1 a2 a3 c1 n2 c2 n3 c3 rs rm pa pc ps w _ _ _
  obtain ⟨W, g, hW, hg, RG, B0, sz⟩ := box1 w #[.string ⟨#[109, 97, 120]⟩, .slice a1 0 c1, .slice a2 n2 c2, .slice a3 n3 c3, .int .i64 rs, .int .i64 rm] 30
  have g_0 := RG.c 0 _ rfl
  have HB0 := Lib.hid B0
  clear RG B0 sz
  go_enter Tryd.func34, Tryd.ntmps34
  go_upto_region 1 with fail
  try simp only [List.length_cons, List.length_nil, Nat.zero_add, Nat.reduceAdd]
  rw [← hW]
  try rw [← hg]
  clear hW hg
  go_wp2_with fail
  go_ret
  exact ⟨rfl, HB0.out⟩
set_option maxHeartbeats 2000000 in
theorem holds_mean : HoldsOk ⟨#[109, 101, 97, 110]⟩ [] (fun _ => true) := by
  intro a1 a2 a3 c1 n2 c2 n3 c3 rs rm pa pc ps w _ _ _
  obtain ⟨W, g, hW, hg, RG, B0, sz⟩ := box1 w #[.string ⟨#[109, 101, 97, 110]⟩, .slice a1 0 c1, .slice a2 n2 c2, .slice a3 n3 c3, .int .i64 rs, .int .i64 rm] 30
  have g_0 := RG.c 0 _ rfl
  have HB0 := Lib.hid B0
  clear RG B0 sz
  go_enter Tryd.func34, Tryd.ntmps34
  go_upto_region 1 with fail
  try simp only [List.length_cons, List.length_nil, Nat.zero_add, Nat.reduceAdd]
  rw [← hW]
  try rw [← hg]
  clear hW hg
  go_wp2_with fail
  go_ret
  exact ⟨rfl, HB0.out⟩
set_option maxHeartbeats 2000000 in
theorem holds_min : HoldsOk ⟨#[109, 105, 110]⟩ [] (fun _ => true) := by
  intro a1 a2 a3 c1 n2 c2 n3 c3 rs rm pa pc ps w _ _ _
  obtain ⟨W, g, hW, hg, RG, B0, sz⟩ := box1 w #[.string ⟨#[109, 105, 110]⟩, .slice a1 0 c1, .slice a2 n2 c2, .slice a3 n3 c3, .int .i64 rs, .int .i64 rm] 30
  have g_0 := RG.c 0 _ rfl
  have HB0 := Lib.hid B0
  clear RG B0 sz
  go_enter Tryd.func34, Tryd.ntmps34
  go_upto_region 1 with fail
  try simp only [List.length_cons, List.length_nil, Nat.zero_add, Nat.reduceAdd]
  rw [← hW]
  try rw [← hg]
  clear hW hg
  go_wp2_with fail
  go_ret
  exact ⟨rfl, HB0.out⟩
set_option maxHeartbeats 2000000 in
theorem holds_minrun : HoldsOk ⟨#[109, 105, 110, 114, 117, 110]⟩ [⟨⟨#[111, 110]⟩, 0, 86400, 0⟩, ⟨⟨#[111, 102, 102]⟩, 0, 86400, 0⟩] (fun _ => true) := by
  intro a1 a2 a3 c1 n2 c2 n3 c3 rs rm pa pc ps w _ _ _
  obtain ⟨W, g, hW, hg, RG, B0, sz⟩ := box1 w #[.string ⟨#[109, 105, 110, 114, 117, 110]⟩, .slice a1 2 c1, .slice a2 n2 c2, .slice a3 n3 c3, .int .i64 rs, .int .i64 rm] 30
  have g_0 := RG.c 0 _ rfl
  have HB0 := Lib.hid B0
  clear RG B0 sz
  go_enter Tryd.func34, Tryd.ntmps34
  go_upto_region 1 with fail
  try simp only [List.length_cons, List.length_nil, Nat.zero_add, Nat.reduceAdd]
  rw [← hW]
  try rw [← hg]
  clear hW hg
  go_wp2_with fail
  go_ret
  exact ⟨rfl, HB0.out⟩
set_option maxHeartbeats 2000000 in
theorem holds_mul : HoldsOk ⟨#[109, 117, 108]⟩ [] (fun _ => true) := by
  intro a1 a2 a3 c1 n2 c2 n3 c3 rs rm pa pc ps w _ _ _
  obtain ⟨W, g, hW, hg, RG, B0, sz⟩ := box1 w #[.string ⟨#[109, 117, 108]⟩, .slice a1 0 c1, .slice a2 n2 c2, .slice a3 n3 c3, .int .i64 rs, .int .i64 rm] 30
  have g_0 := RG.c 0 _ rfl
  have HB0 := Lib.hid B0
  clear RG B0 sz
  go_enter Tryd.func34, Tryd.ntmps34
  go_upto_region 1 with fail
  try simp only [List.length_cons, List.length_nil, Nat.zero_add, Nat.reduceAdd]
  rw [← hW]
  try rw [← hg]
  clear hW hg
  go_wp2_with fail
  go_ret
  exact ⟨rfl, HB0.out⟩
set_option maxHeartbeats 2000000 in
theorem holds_neg : HoldsOk ⟨#[110, 101, 103]⟩ [] (fun _ => true) := by
  intro a1 a2 a3 c1 n2 c2 n3 c3 rs rm pa pc ps w _ _ _
  obtain ⟨W, g, hW, hg, RG, B0, sz⟩ := box1 w #[.string ⟨#[110, 101, 103]⟩, .slice a1 0 c1, .slice a2 n2 c2, .slice a3 n3 c3, .int .i64 rs, .int .i64 rm] 30
  have g_0 := RG.c 0 _ rfl
  have HB0 := Lib.hid B0
  clear RG B0 sz
  go_enter Tryd.func34, Tryd.ntmps34
  go_upto_region 1 with fail
  try simp only [List.length_cons, List.length_nil, Nat.zero_add, Nat.reduceAdd]
  rw [← hW]
  try rw [← hg]
  clear hW hg
  go_wp2_with fail
  go_ret
  exact ⟨rfl, HB0.out⟩
set_option maxHeartbeats 2000000 in
theorem holds_not : HoldsOk ⟨#[110, 111, 116]⟩ [] (fun _ => true) := by
  intro a1 a2 a3 c1 n2 c2 n3 c3 rs rm pa pc ps w _ _ _
  obtain ⟨W, g, hW, hg, RG, B0, sz⟩ := box1 w #[.string ⟨#[110, 111, 116]⟩, .slice a1 0 c1, .slice a2 n2 c2, .slice a3 n3 c3, .int .i64 rs, .int .i64 rm] 30
  have g_0 := RG.c 0 _ rfl
  have HB0 := Lib.hid B0
  clear RG B0 sz
  go_enter Tryd.func34, Tryd.ntmps34
  go_upto_region 1 with fail
  try simp only [List.length_cons, List.length_nil, Nat.zero_add, Nat.reduceAdd]
  rw [← hW]
  try rw [← hg]
  clear hW hg
  go_wp2_with fail
  go_ret
  exact ⟨rfl, HB0.out⟩
set_option maxHeartbeats 2000000 in
theorem holds_offdelay : HoldsOk ⟨#[111, 102, 102, 100, 101, 108, 97, 121]⟩ [⟨⟨#[116, 105, 109, 101]⟩, 0, 86400, 0⟩] (fun _ => true) := by
  intro a1 a2 a3 c1 n2 c2 n3 c3 rs rm pa pc ps w _ _ _
  obtain ⟨W, g, hW, hg, RG, B0, sz⟩ := box1 w #[.string ⟨#[111, 102, 102, 100, 101, 108, 97, 121]⟩, .slice a1 1 c1, .slice a2 n2 c2, .slice a3 n3 c3, .int .i64 rs, .int .i64 rm] 30
  have g_0 := RG.c 0 _ rfl
  have HB0 := Lib.hid B0
  clear RG B0 sz
  go_enter Tryd.func34, Tryd.ntmps34
  go_upto_region 1 with fail
  try simp only [List.length_cons, List.length_nil, Nat.zero_add, Nat.reduceAdd]
  rw [← hW]
  try rw [← hg]
  clear hW hg
  go_wp2_with fail
  go_ret
  exact ⟨rfl, HB0.out⟩
set_option maxHeartbeats 2000000 in
theorem holds_ondelay : HoldsOk ⟨#[111, 110, 100, 101, 108, 97, 121]⟩ [⟨⟨#[116, 105, 109, 101]⟩, 0, 86400, 0⟩] (fun _ => true) := by
  intro a1 a2 a3 c1 n2 c2 n3 c3 rs rm pa pc ps w _ _ _
  obtain ⟨W, g, hW, hg, RG, B0, sz⟩ := box1 w #[.string ⟨#[111, 110, 100, 101, 108, 97, 121]⟩, .slice a1 1 c1, .slice a2 n2 c2, .slice a3 n3 c3, .int .i64 rs, .int .i64 rm] 30
  have g_0 := RG.c 0 _ rfl
  have HB0 := Lib.hid B0
  clear RG B0 sz
  go_enter Tryd.func34, Tryd.ntmps34
  go_upto_region 1 with fail
  try simp only [List.length_cons, List.length_nil, Nat.zero_add, Nat.reduceAdd]
  rw [← hW]
  try rw [← hg]
  clear hW hg
  go_wp2_with fail
  go_ret
  exact ⟨rfl, HB0.out⟩
set_option maxHeartbeats 2000000 in
theorem holds_or : HoldsOk ⟨#[111, 114]⟩ [] (fun _ => true) := by
  intro a1 a2 a3 c1 n2 c2 n3 c3 rs rm pa pc ps w _ _ _
  obtain ⟨W, g, hW, hg, RG, B0, sz⟩ := box1 w #[.string ⟨#[111, 114]⟩, .slice a1 0 c1, .slice a2 n2 c2, .slice a3 n3 c3, .int .i64 rs, .int .i64 rm] 30
  have g_0 := RG.c 0 _ rfl
  have HB0 := Lib.hid B0
  clear RG B0 sz
  go_enter Tryd.func34, Tryd.ntmps34
  go_upto_region 1 with fail
  try simp only [List.length_cons, List.length_nil, Nat.zero_add, Nat.reduceAdd]
  rw [← hW]
  try rw [← hg]
  clear hW hg
  go_wp2_with fail
  go_ret
  exact ⟨rfl, HB0.out⟩
set_option maxHeartbeats 2000000 in
theorem holds_pick : HoldsOk ⟨#[112, 105, 99, 107]⟩ [] (fun _ => true) := by
  intro a1 a2 a3 c1 n2 c2 n3 c3 rs rm pa pc ps w _ _ _
  obtain ⟨W, g, hW, hg, RG, B0, sz⟩ := box1 w #[.string ⟨#[112, 105, 99, 107]⟩, .slice a1 0 c1, .slice a2 n2 c2, .slice a3 n3 c3, .int .i64 rs, .int .i64 rm] 30
  have g_0 := RG.c 0 _ rfl
  have HB0 := Lib.hid B0
  clear RG B0 sz
  go_enter Tryd.func34, Tryd.ntmps34
  go_upto_region 1 with fail
  try simp only [List.length_cons, List.length_nil, Nat.zero_add, Nat.reduceAdd]
  rw [← hW]
  try rw [← hg]
  clear hW hg
  go_wp2_with fail
  go_ret
  exact ⟨rfl, HB0.out⟩
structure Cspid (w : World) (pb po : Nat) (v0 v1 v2 v3 v4 : Int) : Prop where
  c0 : w.cell? ⟨pb, po + 0, none⟩ = some (.int .i64 v0)
  c1 : w.cell? ⟨pb, po + 1, none⟩ = some (.int .i64 v1)
  c2 : w.cell? ⟨pb, po + 2, none⟩ = some (.int .i64 v2)
  c3 : w.cell? ⟨pb, po + 3, none⟩ = some (.int .i64 v3)
  c4 : w.cell? ⟨pb, po + 4, none⟩ = some (.int .i64 v4)
theorem Cspid.keep {w w' : World} {pb po : Nat} {v0 v1 v2 v3 v4 : Int} (h : Cspid w pb po v0 v1 v2 v3 v4) (hb : Below w.heap.size w w') : Cspid w' pb po v0 v1 v2 v3 v4 :=
  ⟨(hb.cell (p := ⟨pb, po + 0, none⟩) (World.block_lt_of_cell? _ _ h.c0)).trans h.c0, (hb.cell (p := ⟨pb, po + 1, none⟩) (World.block_lt_of_cell? _ _ h.c1)).trans h.c1, (hb.cell (p := ⟨pb, po + 2, none⟩) (World.block_lt_of_cell? _ _ h.c2)).trans h.c2, (hb.cell (p := ⟨pb, po + 3, none⟩) (World.block_lt_of_cell? _ _ h.c3)).trans h.c3, (hb.cell (p := ⟨pb, po + 4, none⟩) (World.block_lt_of_cell? _ _ h.c4)).trans h.c4⟩
theorem listpid {ps : List Int} (h : ps.length = 5) : ∃ v0 v1 v2 v3 v4, ps = [v0, v1, v2, v3, v4] := by
  match ps, h with
  | [v0, v1, v2, v3, v4], _ => exact ⟨v0, v1, v2, v3, v4, rfl⟩
set_option maxHeartbeats 8000000 in
set_option maxRecDepth 100000 in
theorem holds_pid : HoldsOk ⟨#[112, 105, 100]⟩ [⟨⟨#[107, 112]⟩, 0, 1000000000, 1000⟩, ⟨⟨#[116, 105]⟩, 0, 86400, 0⟩, ⟨⟨#[108, 111, 119]⟩, (-1000000000000), 1000000000000, 0⟩, ⟨⟨#[104, 105, 103, 104]⟩, (-1000000000000), 1000000000000, 100000⟩, ⟨⟨#[114, 101, 118, 101, 114, 115, 101]⟩, 0, 1, 0⟩] agPid := by
  intro a1 a2 a3 c1 n2 c2 n3 c3 rs rm pa pc ps w hl hp hq
  obtain ⟨v0, v1, v2, v3, v4, rfl⟩ := listpid hl
  obtain ⟨pb, po, rfl, hpl, hpc⟩ := hq.at iL_len (by simp)
  have HC := Lib.hid (show Cspid w pb po v0 v1 v2 v3 v4 from ⟨iL_cells hpc 0 v0 rfl, iL_cells hpc 1 v1 rfl, iL_cells hpc 2 v2 rfl, iL_cells hpc 3 v3 rfl, iL_cells hpc 4 v4 rfl⟩)
  have HP := Lib.hid (show InS w a1 5 4 (flat bndL [⟨⟨#[107, 112]⟩, 0, 1000000000, 1000⟩, ⟨⟨#[116, 105]⟩, 0, 86400, 0⟩, ⟨⟨#[108, 111, 119]⟩, (-1000000000000), 1000000000000, 0⟩, ⟨⟨#[104, 105, 103, 104]⟩, (-1000000000000), 1000000000000, 100000⟩, ⟨⟨#[114, 101, 118, 101, 114, 115, 101]⟩, 0, 1, 0⟩]) from hp)
  clear hp hq hpc hpl hl
  obtain ⟨W, g, hW, hg, RG, B0, sz⟩ := box1 w #[.string ⟨#[112, 105, 100]⟩, .slice a1 5 c1, .slice a2 n2 c2, .slice a3 n3 c3, .int .i64 rs, .int .i64 rm] 30
  have HG := Lib.hid RG
  have HBw0 := Lib.hid B0
  have HPw0 := Lib.hid (HP.out.keep B0)
  have HCw0 := Lib.hid (HC.out.keep B0)
  clear RG B0 sz HP HC
  simp only [List.length_cons, List.length_nil, Nat.zero_add, Nat.reduceAdd]
  go_enter Tryd.func34, Tryd.ntmps34
  go_upto_region 1 with fail
  rw [← hW]
  try rw [← hg]
  clear hW hg
  have g_0 := HG.out.c 0 _ rfl
  have g_1 := HG.out.c 1 _ rfl
  have g_2 := HG.out.c 2 _ rfl
  have g_3 := HG.out.c 3 _ rfl
  have g_4 := HG.out.c 4 _ rfl
  have g_5 := HG.out.c 5 _ rfl
  go_wp2_with fail
  have HS0 := Lib.hid (show (W.cell? ⟨g, 0, none⟩ = some (.string ⟨#[112, 105, 100]⟩) ∧ W.cell? ⟨g, 1, none⟩ = some (.slice a1 5 c1) ∧ W.cell? ⟨g, 2, none⟩ = some (.slice a2 n2 c2) ∧ W.cell? ⟨g, 3, none⟩ = some (.slice a3 n3 c3) ∧ W.cell? ⟨g, 4, none⟩ = some (.int .i64 rs) ∧ W.cell? ⟨g, 5, none⟩ = some (.int .i64 rm)) from ⟨g_0, g_1, g_2, g_3, g_4, g_5⟩)
  refine wp_region_held_drew (S := fun w => (w.cell? ⟨g, 0, none⟩ = some (.string ⟨#[112, 105, 100]⟩) ∧ w.cell? ⟨g, 1, none⟩ = some (.slice a1 5 c1) ∧ w.cell? ⟨g, 2, none⟩ = some (.slice a2 n2 c2) ∧ w.cell? ⟨g, 3, none⟩ = some (.slice a3 n3 c3) ∧ w.cell? ⟨g, 4, none⟩ = some (.int .i64 rs) ∧ w.cell? ⟨g, 5, none⟩ = some (.int .i64 rm))) (by kernel_rfl) HS0.out (fun hHeld => ?_)
  have hdr : Below W.heap.size W W.drew := (Below.refl _ _).drew
  have HBwx := Lib.hid (HBw0.out.trans (hdr.mono HBw0.out.size))
  have HPwx := Lib.hid (HPw0.out.keep hdr)
  have HCwx := Lib.hid (HCw0.out.keep hdr)
  obtain ⟨wx, hwx⟩ : ∃ x, x = W.drew := ⟨_, rfl⟩
  have HGLwx := Lib.hid (show g < wx.heap.size by rw [hwx]; exact HG.out.lt)
  rw [← hwx] at HBwx HPwx HCwx hHeld ⊢
  clear hwx hdr HBw0 HPw0 HCw0 HG HS0 g_0 g_1 g_2 g_3 g_4 g_5
  refine' wpAnyH_take (i := 0) (v := _) rfl (by kernel_rfl) (by kernel_rfl) (by kernel_rfl) (fun _ _ _ h => h) (Or.inl ⟨by rfl, ?_⟩) hHeld ?_
  rotate_left
  · intro w hSw
    (try dsimp only at hSw)
    go_simp
    try with_reducible rfl
  (try simp only [Act.put, List.getElem_toArray, List.getElem_cons_zero, List.getElem_cons_succ, List.setIfInBounds_toArray, List.set_cons_zero, List.set_cons_succ])
  refine' wpAnyH_take (i := 1) (v := _) rfl (by kernel_rfl) (by kernel_rfl) (by kernel_rfl) (fun _ _ _ h => h) (Or.inl ⟨by rfl, ?_⟩) hHeld ?_
  rotate_left
  · intro w hSw
    (try dsimp only at hSw)
    go_simp
    try with_reducible rfl
  (try simp only [Act.put, List.getElem_toArray, List.getElem_cons_zero, List.getElem_cons_succ, List.setIfInBounds_toArray, List.set_cons_zero, List.set_cons_succ])
  refine' wpAnyH_take (i := 3) (v := _) rfl (by kernel_rfl) (by kernel_rfl) (by kernel_rfl) (fun _ _ _ h => h) (Or.inl ⟨by rfl, ?_⟩) hHeld ?_
  rotate_left
  · intro w hSw
    (try dsimp only at hSw)
    go_simp
    try with_reducible rfl
  (try simp only [Act.put, List.getElem_toArray, List.getElem_cons_zero, List.getElem_cons_succ, List.setIfInBounds_toArray, List.set_cons_zero, List.set_cons_succ])
  refine' wpAnyH_take (i := 4) (v := _) rfl (by kernel_rfl) (by kernel_rfl) (by kernel_rfl) (fun _ _ _ h => h) (Or.inl ⟨by rfl, ?_⟩) hHeld ?_
  rotate_left
  · intro w hSw
    (try dsimp only at hSw)
    go_simp
    try with_reducible rfl
  (try simp only [Act.put, List.getElem_toArray, List.getElem_cons_zero, List.getElem_cons_succ, List.setIfInBounds_toArray, List.set_cons_zero, List.set_cons_succ])
  have hh := hHeld
  refine wpAnyH_ready (rs := [2]) (by kernel_rfl) (by simp) ?_
  refine AllReadyH.cons rfl (fun K hK => ?_) AllReadyH.nil
  go_simp
  refine (rvalue_at ⟨#[112, 105, 100]⟩ a1 a2 a3 c1 n2 c2 n3 c3 rs rm ⟨#[108, 111, 119]⟩ [⟨⟨#[107, 112]⟩, 0, 1000000000, 1000⟩, ⟨⟨#[116, 105]⟩, 0, 86400, 0⟩, ⟨⟨#[108, 111, 119]⟩, (-1000000000000), 1000000000000, 0⟩, ⟨⟨#[104, 105, 103, 104]⟩, (-1000000000000), 1000000000000, 100000⟩, ⟨⟨#[114, 101, 118, 101, 114, 115, 101]⟩, 0, 1, 0⟩] 5 rfl 2 (by kernel_rfl) pb po pc v2 (by decide) _ HPwx.out HCwx.out.c2).mono ?_
  rintro e wy ⟨rfl, hb⟩
  have HBwy := Lib.hid (HBwx.out.trans (hb.mono HBwx.out.size))
  have HPwy := Lib.hid (HPwx.out.keep hb)
  have HCwy := Lib.hid (HCwx.out.keep hb)
  have hs2 : (wy.cell? ⟨g, 0, none⟩ = some (.string ⟨#[112, 105, 100]⟩) ∧ wy.cell? ⟨g, 1, none⟩ = some (.slice a1 5 c1) ∧ wy.cell? ⟨g, 2, none⟩ = some (.slice a2 n2 c2) ∧ wy.cell? ⟨g, 3, none⟩ = some (.slice a3 n3 c3) ∧ wy.cell? ⟨g, 4, none⟩ = some (.int .i64 rs) ∧ wy.cell? ⟨g, 5, none⟩ = some (.int .i64 rm)) := ⟨(hb.cell (p := ⟨g, 0, none⟩) HGLwx.out).trans hh.1, (hb.cell (p := ⟨g, 1, none⟩) HGLwx.out).trans hh.2.1, (hb.cell (p := ⟨g, 2, none⟩) HGLwx.out).trans hh.2.2.1, (hb.cell (p := ⟨g, 3, none⟩) HGLwx.out).trans hh.2.2.2.1, (hb.cell (p := ⟨g, 4, none⟩) HGLwx.out).trans hh.2.2.2.2.1, (hb.cell (p := ⟨g, 5, none⟩) HGLwx.out).trans hh.2.2.2.2.2⟩
  have HGLwy := Lib.hid (Nat.lt_of_lt_of_le HGLwx.out hb.size)
  clear hb hHeld hh HBwx HPwx HCwx HGLwx
  (try go_simp)
  refine hK.out _ _ hs2 (fun hHeld => ?_)
  clear hK K hs2
  (try simp only [Act.put, List.getElem_toArray, List.getElem_cons_zero, List.getElem_cons_succ, List.setIfInBounds_toArray, List.set_cons_zero, List.set_cons_succ])
  have hh := hHeld
  refine wpAnyH_ready (rs := [5]) (by kernel_rfl) (by simp) ?_
  refine AllReadyH.cons rfl (fun K hK => ?_) AllReadyH.nil
  go_simp
  refine (rvalue_at ⟨#[112, 105, 100]⟩ a1 a2 a3 c1 n2 c2 n3 c3 rs rm ⟨#[104, 105, 103, 104]⟩ [⟨⟨#[107, 112]⟩, 0, 1000000000, 1000⟩, ⟨⟨#[116, 105]⟩, 0, 86400, 0⟩, ⟨⟨#[108, 111, 119]⟩, (-1000000000000), 1000000000000, 0⟩, ⟨⟨#[104, 105, 103, 104]⟩, (-1000000000000), 1000000000000, 100000⟩, ⟨⟨#[114, 101, 118, 101, 114, 115, 101]⟩, 0, 1, 0⟩] 5 rfl 3 (by kernel_rfl) pb po pc v3 (by decide) _ HPwy.out HCwy.out.c3).mono ?_
  rintro e wz ⟨rfl, hb⟩
  have HBwz := Lib.hid (HBwy.out.trans (hb.mono HBwy.out.size))
  have HPwz := Lib.hid (HPwy.out.keep hb)
  have HCwz := Lib.hid (HCwy.out.keep hb)
  have hs2 : (wz.cell? ⟨g, 0, none⟩ = some (.string ⟨#[112, 105, 100]⟩) ∧ wz.cell? ⟨g, 1, none⟩ = some (.slice a1 5 c1) ∧ wz.cell? ⟨g, 2, none⟩ = some (.slice a2 n2 c2) ∧ wz.cell? ⟨g, 3, none⟩ = some (.slice a3 n3 c3) ∧ wz.cell? ⟨g, 4, none⟩ = some (.int .i64 rs) ∧ wz.cell? ⟨g, 5, none⟩ = some (.int .i64 rm)) := ⟨(hb.cell (p := ⟨g, 0, none⟩) HGLwy.out).trans hh.1, (hb.cell (p := ⟨g, 1, none⟩) HGLwy.out).trans hh.2.1, (hb.cell (p := ⟨g, 2, none⟩) HGLwy.out).trans hh.2.2.1, (hb.cell (p := ⟨g, 3, none⟩) HGLwy.out).trans hh.2.2.2.1, (hb.cell (p := ⟨g, 4, none⟩) HGLwy.out).trans hh.2.2.2.2.1, (hb.cell (p := ⟨g, 5, none⟩) HGLwy.out).trans hh.2.2.2.2.2⟩
  have HGLwz := Lib.hid (Nat.lt_of_lt_of_le HGLwy.out hb.size)
  clear hb hHeld hh HBwy HPwy HCwy HGLwy
  (try go_simp)
  refine hK.out _ _ hs2 (fun hHeld => ?_)
  clear hK K hs2
  (try simp only [Act.put, List.getElem_toArray, List.getElem_cons_zero, List.getElem_cons_succ, List.setIfInBounds_toArray, List.set_cons_zero, List.set_cons_succ])
  refine' wpAnyH_take (i := 6) (v := _) rfl (by kernel_rfl) (by kernel_rfl) (by kernel_rfl) (fun _ _ _ h => h) (Or.inl ⟨by rfl, ?_⟩) hHeld ?_
  rotate_left
  · intro w hSw
    (try dsimp only at hSw)
    go_simp
    try with_reducible rfl
  (try simp only [Act.put, List.getElem_toArray, List.getElem_cons_zero, List.getElem_cons_succ, List.setIfInBounds_toArray, List.set_cons_zero, List.set_cons_succ])
  refine' wpAnyH_take (i := 7) (v := _) rfl (by kernel_rfl) (by kernel_rfl) (by kernel_rfl) (fun _ _ _ h => h) (Or.inl ⟨by rfl, ?_⟩) hHeld ?_
  rotate_left
  · intro w hSw
    (try dsimp only at hSw)
    go_simp
    try with_reducible rfl
  (try simp only [Act.put, List.getElem_toArray, List.getElem_cons_zero, List.getElem_cons_succ, List.setIfInBounds_toArray, List.set_cons_zero, List.set_cons_succ])
  refine wpAnyH_done (by kernel_rfl) ?_ _
  (try simp only [Act.put, List.getElem_toArray, List.getElem_cons_zero, List.getElem_cons_succ, List.setIfInBounds_toArray, List.set_cons_zero, List.set_cons_succ])
  clear hHeld
  go_wp2_with fail
  go_ret
  exact ⟨rfl, HBwz.out⟩
set_option maxHeartbeats 2000000 in
theorem holds_pulse : HoldsOk ⟨#[112, 117, 108, 115, 101]⟩ [⟨⟨#[116, 105, 109, 101]⟩, 0, 86400, 0⟩] (fun _ => true) := by
  intro a1 a2 a3 c1 n2 c2 n3 c3 rs rm pa pc ps w _ _ _
  obtain ⟨W, g, hW, hg, RG, B0, sz⟩ := box1 w #[.string ⟨#[112, 117, 108, 115, 101]⟩, .slice a1 1 c1, .slice a2 n2 c2, .slice a3 n3 c3, .int .i64 rs, .int .i64 rm] 30
  have g_0 := RG.c 0 _ rfl
  have HB0 := Lib.hid B0
  clear RG B0 sz
  go_enter Tryd.func34, Tryd.ntmps34
  go_upto_region 1 with fail
  try simp only [List.length_cons, List.length_nil, Nat.zero_add, Nat.reduceAdd]
  rw [← hW]
  try rw [← hg]
  clear hW hg
  go_wp2_with fail
  go_ret
  exact ⟨rfl, HB0.out⟩
set_option maxHeartbeats 2000000 in
theorem holds_rate : HoldsOk ⟨#[114, 97, 116, 101]⟩ [⟨⟨#[117, 112]⟩, 0, 1000000000000, 1000⟩, ⟨⟨#[100, 111, 119, 110]⟩, 0, 1000000000000, 1000⟩] (fun _ => true) := by
  intro a1 a2 a3 c1 n2 c2 n3 c3 rs rm pa pc ps w _ _ _
  obtain ⟨W, g, hW, hg, RG, B0, sz⟩ := box1 w #[.string ⟨#[114, 97, 116, 101]⟩, .slice a1 2 c1, .slice a2 n2 c2, .slice a3 n3 c3, .int .i64 rs, .int .i64 rm] 30
  have g_0 := RG.c 0 _ rfl
  have HB0 := Lib.hid B0
  clear RG B0 sz
  go_enter Tryd.func34, Tryd.ntmps34
  go_upto_region 1 with fail
  try simp only [List.length_cons, List.length_nil, Nat.zero_add, Nat.reduceAdd]
  rw [← hW]
  try rw [← hg]
  clear hW hg
  go_wp2_with fail
  go_ret
  exact ⟨rfl, HB0.out⟩
set_option maxHeartbeats 2000000 in
theorem holds_stage : HoldsOk ⟨#[115, 116, 97, 103, 101]⟩ [⟨⟨#[115, 116, 97, 103, 101, 115]⟩, 1, 15, 1⟩, ⟨⟨#[117, 112]⟩, (-1000000000000), 1000000000000, 0⟩, ⟨⟨#[100, 111, 119, 110]⟩, (-1000000000000), 1000000000000, 0⟩, ⟨⟨#[117, 112, 100, 101, 108, 97, 121]⟩, 0, 86400, 0⟩, ⟨⟨#[100, 111, 119, 110, 100, 101, 108, 97, 121]⟩, 0, 86400, 0⟩] (fun _ => true) := by
  intro a1 a2 a3 c1 n2 c2 n3 c3 rs rm pa pc ps w _ _ _
  obtain ⟨W, g, hW, hg, RG, B0, sz⟩ := box1 w #[.string ⟨#[115, 116, 97, 103, 101]⟩, .slice a1 5 c1, .slice a2 n2 c2, .slice a3 n3 c3, .int .i64 rs, .int .i64 rm] 30
  have g_0 := RG.c 0 _ rfl
  have HB0 := Lib.hid B0
  clear RG B0 sz
  go_enter Tryd.func34, Tryd.ntmps34
  go_upto_region 1 with fail
  try simp only [List.length_cons, List.length_nil, Nat.zero_add, Nat.reduceAdd]
  rw [← hW]
  try rw [← hg]
  clear hW hg
  go_wp2_with fail
  go_ret
  exact ⟨rfl, HB0.out⟩
set_option maxHeartbeats 2000000 in
theorem holds_steps : HoldsOk ⟨#[115, 116, 101, 112, 115]⟩ [⟨⟨#[99, 111, 117, 110, 116]⟩, 1, 15, 1⟩, ⟨⟨#[108, 101, 97, 115, 116]⟩, 0, 86400, 0⟩] (fun _ => true) := by
  intro a1 a2 a3 c1 n2 c2 n3 c3 rs rm pa pc ps w _ _ _
  obtain ⟨W, g, hW, hg, RG, B0, sz⟩ := box1 w #[.string ⟨#[115, 116, 101, 112, 115]⟩, .slice a1 2 c1, .slice a2 n2 c2, .slice a3 n3 c3, .int .i64 rs, .int .i64 rm] 30
  have g_0 := RG.c 0 _ rfl
  have HB0 := Lib.hid B0
  clear RG B0 sz
  go_enter Tryd.func34, Tryd.ntmps34
  go_upto_region 1 with fail
  try simp only [List.length_cons, List.length_nil, Nat.zero_add, Nat.reduceAdd]
  rw [← hW]
  try rw [← hg]
  clear hW hg
  go_wp2_with fail
  go_ret
  exact ⟨rfl, HB0.out⟩
set_option maxHeartbeats 2000000 in
theorem holds_sub : HoldsOk ⟨#[115, 117, 98]⟩ [] (fun _ => true) := by
  intro a1 a2 a3 c1 n2 c2 n3 c3 rs rm pa pc ps w _ _ _
  obtain ⟨W, g, hW, hg, RG, B0, sz⟩ := box1 w #[.string ⟨#[115, 117, 98]⟩, .slice a1 0 c1, .slice a2 n2 c2, .slice a3 n3 c3, .int .i64 rs, .int .i64 rm] 30
  have g_0 := RG.c 0 _ rfl
  have HB0 := Lib.hid B0
  clear RG B0 sz
  go_enter Tryd.func34, Tryd.ntmps34
  go_upto_region 1 with fail
  try simp only [List.length_cons, List.length_nil, Nat.zero_add, Nat.reduceAdd]
  rw [← hW]
  try rw [← hg]
  clear hW hg
  go_wp2_with fail
  go_ret
  exact ⟨rfl, HB0.out⟩
set_option maxHeartbeats 2000000 in
theorem holds_xor : HoldsOk ⟨#[120, 111, 114]⟩ [] (fun _ => true) := by
  intro a1 a2 a3 c1 n2 c2 n3 c3 rs rm pa pc ps w _ _ _
  obtain ⟨W, g, hW, hg, RG, B0, sz⟩ := box1 w #[.string ⟨#[120, 111, 114]⟩, .slice a1 0 c1, .slice a2 n2 c2, .slice a3 n3 c3, .int .i64 rs, .int .i64 rm] 30
  have g_0 := RG.c 0 _ rfl
  have HB0 := Lib.hid B0
  clear RG B0 sz
  go_enter Tryd.func34, Tryd.ntmps34
  go_upto_region 1 with fail
  try simp only [List.length_cons, List.length_nil, Nat.zero_add, Nat.reduceAdd]
  rw [← hW]
  try rw [← hg]
  clear hW hg
  go_wp2_with fail
  go_ret
  exact ⟨rfl, HB0.out⟩
end Go.Proofs.YtaobbedajgkmiaaDoor
