/- Eval of the program and of the specification; the law Evals. Asked: the table reads as laid; MaxLen's cell holds some number. -/
import Derived.Test.YtgpbcdelaipifaaDoorPw
import Derived.Test.YtgpbcdelaipifaaDoorOs
import Derived.Test.YtgpbcdelaipifaaDoorBx
import Derived.Deep.CutBlock
namespace Go.Proofs.YtgpbcdelaipifaaDoor
open Go.RowKit Go.Shelf

def pairL (x : Int × Int) : List Value := [.int .i64 x.1, .int .i64 x.2]
theorem pairL_len (x : Int × Int) : (pairL x).length = 2 := rfl
def evalO (nm : ByteArray) (np : Nat) (vs : List (Int × Int)) : Int × Int × Int :=
  if ¬ nm = ⟨#[101, 110, 116, 104, 97, 108, 112, 121]⟩ ∧ ¬ nm = ⟨#[100, 101, 119, 112, 111, 105, 110, 116]⟩ then (0, 0, 3) else if np ≠ 0 then (0, 0, 1) else
  match vs with
  | [(k0, x), (k1, h)] => if k0 ≠ 1 then (0, 0, 11) else if k1 ≠ 1 then (0, 0, 11) else (1, if nm = ⟨#[100, 101, 119, 112, 111, 105, 110, 116]⟩ then dewF (ratF x h) else entF x (ratF x h), 0)
  | _ => (0, 0, 1)
theorem evalO_two (nm : ByteArray) (k0 x k1 h : Int) (hn : nm = ⟨#[101, 110, 116, 104, 97, 108, 112, 121]⟩ ∨ nm = ⟨#[100, 101, 119, 112, 111, 105, 110, 116]⟩) : evalO nm 0 [(k0, x), (k1, h)] = if k0 ≠ 1 then (0, 0, 11) else if k1 ≠ 1 then (0, 0, 11) else (1, if nm = ⟨#[100, 101, 119, 112, 111, 105, 110, 116]⟩ then dewF (ratF x h) else entF x (ratF x h), 0) := by
  unfold evalO
  rw [if_neg (fun c => hn.elim c.1 c.2), if_neg (fun c => c rfl)]
theorem evalO_len (nm : ByteArray) (vs : List (Int × Int)) (hn : nm = ⟨#[101, 110, 116, 104, 97, 108, 112, 121]⟩ ∨ nm = ⟨#[100, 101, 119, 112, 111, 105, 110, 116]⟩) (hl : vs.length ≠ 2) : evalO nm 0 vs = (0, 0, 1) := by
  unfold evalO
  rw [if_neg (fun c => hn.elim c.1 c.2), if_neg (fun c => c rfl)]
  match vs, hl with
  | [], _ => rfl
  | [_], _ => rfl
  | [_, _], h => exact absurd rfl h
  | _ :: _ :: _ :: _, _ => rfl
theorem evalO_np (nm : ByteArray) (np : Nat) (vs : List (Int × Int)) (hn : nm = ⟨#[101, 110, 116, 104, 97, 108, 112, 121]⟩ ∨ nm = ⟨#[100, 101, 119, 112, 111, 105, 110, 116]⟩) (h0 : np ≠ 0) : evalO nm np vs = (0, 0, 1) := by
  unfold evalO
  rw [if_neg (fun c => hn.elim c.1 c.2), if_pos h0]
theorem evalO_no (nm : ByteArray) (np : Nat) (vs : List (Int × Int)) (h1 : ¬ nm = ⟨#[101, 110, 116, 104, 97, 108, 112, 121]⟩) (h2 : ¬ nm = ⟨#[100, 101, 119, 112, 111, 105, 110, 116]⟩) : evalO nm np vs = (0, 0, 3) := if_pos ⟨h1, h2⟩
theorem bytes_ne {a : ByteArray} {l : List UInt8} (h : ¬ a = ⟨l.toArray⟩) : (a.toList == l) = false ∧ (a.toList != l) = true := by
  have h2 : ¬ a.toList = l := by
    rw [toList_eq]
    intro e
    apply h
    rw [← e]
  exact ⟨beq_eq_false_iff_ne.2 h2, bne_iff_ne.2 h2⟩
theorem two_new (W : World) (C D : Array Value) (T : TypeId) : RowAt ((W.alloc (Obj.cells C T)).alloc (Obj.cells D T)).drew W.heap.size C.toList ∧ RowAt ((W.alloc (Obj.cells C T)).alloc (Obj.cells D T)).drew (W.heap.size + 1) D.toList ∧ Below W.heap.size W ((W.alloc (Obj.cells C T)).alloc (Obj.cells D T)).drew := by
  obtain ⟨U, b, b1, rfl, rfl, rfl, r, r1, k, _⟩ := box2 W C T D T
  exact ⟨r.drew, r1.drew, k.drew⟩
theorem two_of {α : Type} {l : List α} (h : l.length = 2) : ∃ a b, l = [a, b] := by
  match l, h with
  | [a, b], _ => exact ⟨a, b, rfl⟩
def ansV (r : Int × Int × Int) : Value := .tuple #[.agg #[.int .i64 r.1, .int .i64 r.2.1], .int .i64 r.2.2]
set_option maxHeartbeats 1000000 in
theorem prop_e (w : World) : Calls Tryd.prog 49 #[.string ⟨#[101, 110, 116, 104, 97, 108, 112, 121]⟩] w fun e w' => e = .returned (.tuple #[.func (.func 46) #[] #[], .bool true]) ∧ w = w' := by
  go_enter Tryd.func49, Tryd.ntmps49
  go_wp2_with fail
  go_ret2
  exact ⟨rfl, rfl⟩
set_option maxHeartbeats 1000000 in
theorem prop_d (w : World) : Calls Tryd.prog 49 #[.string ⟨#[100, 101, 119, 112, 111, 105, 110, 116]⟩] w fun e w' => e = .returned (.tuple #[.func (.func 60) #[] #[], .bool true]) ∧ w = w' := by
  go_enter Tryd.func49, Tryd.ntmps49
  go_wp2_with fail
  go_ret2
  exact ⟨rfl, rfl⟩
set_option maxHeartbeats 1000000 in
theorem prop_no (nm : ByteArray) (w : World) (h1 : (nm.toList == [101, 110, 116, 104, 97, 108, 112, 121]) = false) (h2 : (nm.toList == [100, 101, 119, 112, 111, 105, 110, 116]) = false) : Calls Tryd.prog 49 #[.string nm] w fun e w' => e = .returned (.tuple #[.nilFunc, .bool false]) ∧ w = w' := by
  go_enter Tryd.func49, Tryd.ntmps49
  go_wp2_with fail
  go_ret2
  exact ⟨rfl, rfl⟩
set_option maxHeartbeats 2000000 in
theorem eval_no (nm : ByteArray) (pa : Option Addr) (np pc : Nat) (ia : Option Addr) (ic : Nat) (vs : List (Int × Int)) (w : World) (h1 : ¬ nm = ⟨#[101, 110, 116, 104, 97, 108, 112, 121]⟩) (h2 : ¬ nm = ⟨#[100, 101, 119, 112, 111, 105, 110, 116]⟩) :
    Calls Tryd.prog 27 #[.string nm, .slice pa np pc, .slice ia vs.length ic] w fun e w' => e = .returned (ansV (evalO nm np vs)) ∧ Below w.heap.size w w' := by
  have HE := Lib.hid (evalO_no nm np vs h1 h2)
  have KP := Lib.hid (fun w => prop_no nm w (bytes_ne (l := [101, 110, 116, 104, 97, 108, 112, 121]) h1).1 (bytes_ne (l := [100, 101, 119, 112, 111, 105, 110, 116]) h2).1)
  clear h1 h2
  obtain ⟨W, g, hW, hg, RG, B0, sz⟩ := box1 w #[.int .i64 0, .int .i64 0] 37
  have HG := Lib.hid RG
  have HB := Lib.hid B0
  have HWG := Lib.hid (show w.heap.size ≤ g by omega)
  clear RG B0 sz
  go_enter Tryd.func27, Tryd.ntmps27
  go_upto_region 1 with fail
  rw [← hW]
  try rw [← hg]
  clear hW hg
  go_wp2_with fail
  refine (KP.out _).mono ?_
  rintro e w' ⟨rfl, rfl⟩
  have g_0 := HG.out.c 0 _ rfl
  have g_1 := HG.out.c 1 _ rfl
  have g_z := HG.out.fz
  go_wp2_with fail
  have hs := HG.out.setRow [.int .i64 0, .int .i64 0] rfl
  have y0 : ((W.setCell ⟨g, 0, none⟩ (.int .i64 0)).setCell ⟨g, 1, none⟩ (.int .i64 0)).cell? ⟨g, 0, none⟩ = some (.int .i64 0) := hs.c 0 _ rfl
  have y1 : ((W.setCell ⟨g, 0, none⟩ (.int .i64 0)).setCell ⟨g, 1, none⟩ (.int .i64 0)).cell? ⟨g, 1, none⟩ = some (.int .i64 0) := hs.c 1 _ rfl
  (try simp only [Exit.inBlock, Exit.then])
  refine bodyPost_ret (by simp [results, Tryd.results27, go_sem, y0, y1]; try rfl) rfl ?_
  exact ⟨by rw [HE.out]; rfl, set_below HB.out HWG.out [.int .i64 0, .int .i64 0]⟩
set_option maxHeartbeats 2000000 in
set_option maxRecDepth 100000 in
theorem reval_no (nm : ByteArray) (pa : Option Addr) (np pc : Nat) (ia : Option Addr) (ic : Nat) (vs : List (Int × Int)) (w : World) (h1 : ¬ nm = ⟨#[101, 110, 116, 104, 97, 108, 112, 121]⟩) (h2 : ¬ nm = ⟨#[100, 101, 119, 112, 111, 105, 110, 116]⟩) :
    Calls Tryd.prog 28 #[.string nm, .slice pa np pc, .slice ia vs.length ic] w fun e w' => e = .returned (ansV (evalO nm np vs)) ∧ Below w.heap.size w w' := by
  have HE := Lib.hid (evalO_no nm np vs h1 h2)
  have b1 := (bytes_ne (l := [101, 110, 116, 104, 97, 108, 112, 121]) h1).1
  have b2 := (bytes_ne (l := [100, 101, 119, 112, 111, 105, 110, 116]) h2).1
  have c1 := (bytes_ne (l := [101, 110, 116, 104, 97, 108, 112, 121]) h1).2
  have c2 := (bytes_ne (l := [100, 101, 119, 112, 111, 105, 110, 116]) h2).2
  clear h1 h2
  obtain ⟨W, g, hW, hg, RG, B0, sz⟩ := box1 w #[.int .i64 0, .int .i64 0] 37
  have HG := Lib.hid RG
  have HB := Lib.hid B0
  have HWG := Lib.hid (show w.heap.size ≤ g by omega)
  clear RG B0 sz
  go_enter Tryd.func28, Tryd.ntmps28
  go_upto_region 1 with fail
  rw [← hW]
  try rw [← hg]
  clear hW hg
  have g_0 := HG.out.c 0 _ rfl
  have g_1 := HG.out.c 1 _ rfl
  have g_z := HG.out.fz
  go_wp2_with fail
  have hs := HG.out.setRow [.int .i64 0, .int .i64 0] rfl
  have y0 : ((W.setCell ⟨g, 0, none⟩ (.int .i64 0)).setCell ⟨g, 1, none⟩ (.int .i64 0)).cell? ⟨g, 0, none⟩ = some (.int .i64 0) := hs.c 0 _ rfl
  have y1 : ((W.setCell ⟨g, 0, none⟩ (.int .i64 0)).setCell ⟨g, 1, none⟩ (.int .i64 0)).cell? ⟨g, 1, none⟩ = some (.int .i64 0) := hs.c 1 _ rfl
  (try simp only [Exit.inBlock, Exit.then])
  refine bodyPost_ret (by simp [results, Tryd.results28, go_sem, y0, y1]; try rfl) rfl ?_
  exact ⟨by rw [HE.out]; rfl, set_below HB.out HWG.out [.int .i64 0, .int .i64 0]⟩
set_option maxHeartbeats 4000000 in
set_option maxRecDepth 100000 in
theorem eval_e (pa : Option Addr) (np pc : Nat) (ia : Option Addr) (ic : Nat) (vs : List (Int × Int)) (w : World) (ht : SatT w) (hm : MaxAt w) (hl : vs.length ≤ 10) (hp : np ≤ 10) (hin : InS w ia vs.length 2 (flat pairL vs)) :
    Calls Tryd.prog 27 #[.string ⟨#[101, 110, 116, 104, 97, 108, 112, 121]⟩, .slice pa np pc, .slice ia vs.length ic] w fun e w' => e = .returned (ansV (evalO ⟨#[101, 110, 116, 104, 97, 108, 112, 121]⟩ np vs)) ∧ Below w.heap.size w w' := by
  have HT := Lib.hid ht
  have HM := Lib.hid hm
  have HIN := Lib.hid hin
  clear ht hm hin
  obtain ⟨W, g, hW, hg, RG, B0, sz⟩ := box1 w #[.int .i64 0, .int .i64 0] 37
  have HG := Lib.hid RG
  have HB := Lib.hid B0
  have HWG := Lib.hid (show w.heap.size ≤ g by omega)
  clear RG B0 sz
  go_enter Tryd.func27, Tryd.ntmps27
  go_upto_region 1 with fail
  rw [← hW]
  try rw [← hg]
  clear hW hg
  go_wp2_with fail
  refine (prop_e _).mono ?_
  rintro e w' ⟨rfl, rfl⟩
  go_wp2_with fail
  refine (find_enthalpy _ (HM.out.keep HB.out)).mono ?_
  rintro e w1 ⟨DD, rfl, ⟨v1, v2, ob, rfl, p1, p2, _, _⟩, hb⟩
  obtain ⟨a1, c1, rfl, _⟩ := ins_own p1
  obtain ⟨a2, c2, rfl, _⟩ := ins_own p2
  simp only [List.length_nil, List.length_cons, Nat.zero_add, Nat.reduceAdd]
  obtain ⟨W2, d, hW2, hd, RD, B2, sz2⟩ := box1 w1 #[.string ⟨#[101, 110, 116, 104, 97, 108, 112, 121]⟩, .slice a1 0 c1, .slice a2 2 c2, .slice (some ⟨ob, 0, none⟩) 1 1, .int .i64 0, .int .i64 1] 54
  have HD := Lib.hid RD
  have HG2 := Lib.hid ((HG.out.keep hb).keep B2)
  have HB2 := Lib.hid (below_step (below_step HB.out hb) B2)
  clear hb p1 p2 RD B2 sz2
  go_upto_region 5 with fail
  rw [← hW2]
  try rw [← hd]
  clear hW2 hd
  have d_0 := HD.out.c 0 _ rfl
  have d_1 := HD.out.c 1 _ rfl
  have d_2 := HD.out.c 2 _ rfl
  have d_3 := HD.out.c 3 _ rfl
  have d_4 := HD.out.c 4 _ rfl
  have d_5 := HD.out.c 5 _ rfl
  by_cases h0 : np = 0
  · subst h0
    by_cases h2 : vs.length = 2
    · obtain ⟨⟨k0, x⟩, ⟨k1, h⟩, rfl⟩ := two_of h2
      have HI2 := Lib.hid (HIN.out.keep HB2.out)
      obtain ⟨ib, io, rfl, hil, hic⟩ := (show InS W2 ia [(k0, x), (k1, h)].length 2 (flat pairL [(k0, x), (k1, h)]) from HI2.out).at pairL_len (Nat.succ_pos _)
      have i0 := hic 0 _ rfl 0 _ rfl
      have i1 := hic 0 _ rfl 1 _ rfl
      have i2 := hic 1 _ rfl 0 _ rfl
      have i3 := hic 1 _ rfl 1 _ rfl
      simp only [Nat.zero_mul, Nat.one_mul, Nat.add_zero] at i0 i1 i2 i3
      have HE := Lib.hid (evalO_two ⟨#[101, 110, 116, 104, 97, 108, 112, 121]⟩ k0 x k1 h (Or.inl rfl))
      clear hic h2 hl
      simp only [List.length_cons, List.length_nil, Nat.zero_add, Nat.reduceAdd]
      go_upto_region 7 with fail
      clear d_0 d_1 d_2 d_3 d_4 d_5
      have zz : W2.heap.size ≤ W2.heap.size := Nat.le_refl _
      go_cut [12, 13] from 42 to 47 (fun p q wx => ∃ A B : Nat, p = .pointer (some ⟨A, 0, none⟩) ∧ q = .pointer (some ⟨B, 0, none⟩) ∧ Hid (RowAt wx A [.int .i64 k0, .int .i64 x] ∧ RowAt wx B [.int .i64 k1, .int .i64 h] ∧ Below W2.heap.size W2 wx))
      case first =>
        go_region
        all_goals
          go_wp2_with fail
          go_meet
        all_goals first
          | exact ⟨_, _, rfl, rfl, Lib.hid (two_new W2 #[.int .i64 k0, .int .i64 x] #[.int .i64 k1, .int .i64 h] 37)⟩
          | exact ⟨_, _, rfl, rfl, Lib.hid (let t := two_new W2 #[.int .i64 k1, .int .i64 h] #[.int .i64 k0, .int .i64 x] 37; ⟨t.2.1, t.1, t.2.2⟩)⟩
      case rest =>
        obtain ⟨A, B, rfl, rfl, hcc⟩ := hcut
        have HA := Lib.hid hcc.out.1
        have HBB := Lib.hid hcc.out.2.1
        have hbx := hcc.out.2.2
        have HG3 := Lib.hid (HG2.out.keep hbx)
        have HB3 := Lib.hid (below_step HB2.out hbx)
        clear hcc hbx i0 i1 i2 i3 zz hil
        have a_0 := HA.out.c 0 _ rfl
        have a_1 := HA.out.c 1 _ rfl
        have b_0 := HBB.out.c 0 _ rfl
        have b_1 := HBB.out.c 1 _ rfl
        by_cases hk0 : k0 = 1
        · subst hk0
          have HE2 := Lib.hid (HE.out.trans (if_neg (fun c => c rfl)))
          by_cases hk1 : k1 = 1
          · subst hk1
            have HE3 := Lib.hid (show evalO ⟨#[101, 110, 116, 104, 97, 108, 112, 121]⟩ 0 [(1, x), (1, h)] = (1, entF x (ratF x h), 0) by rw [HE2.out, if_neg (fun c => c rfl)]; rw [if_neg (by decide)])
            obtain ⟨Z, hZ⟩ : ∃ z, z = entF x (ratF x h) := ⟨_, rfl⟩
            have KO := Lib.hid (show Calls Tryd.prog 46 #[.int .i64 x, .int .i64 h] wc fun e w' => e = .returned (.int .i64 Z) ∧ Below wc.heap.size wc w' by rw [hZ]; exact entOf_any x h wc (HT.out.below HB3.out))
            rw [← hZ] at HE3
            clear hZ HE HE2
            go_wp2_with fail
            refine KO.out.mono ?_
            rintro e w5 ⟨rfl, hb⟩
            have HG5 := Lib.hid (HG3.out.keep hb)
            have HB5 := Lib.hid (below_step HB3.out hb)
            clear hb a_0 a_1 b_0 b_1
            have g_0 := HG5.out.c 0 _ rfl
            have g_1 := HG5.out.c 1 _ rfl
            have g_z := HG5.out.fz
            go_wp2_with fail
            have hs := HG5.out.setRow [.int .i64 1, .int .i64 Z] rfl
            have y0 : ((w5.setCell ⟨g, 0, none⟩ (.int .i64 1)).setCell ⟨g, 1, none⟩ (.int .i64 Z)).cell? ⟨g, 0, none⟩ = some (.int .i64 1) := hs.c 0 _ rfl
            have y1 : ((w5.setCell ⟨g, 0, none⟩ (.int .i64 1)).setCell ⟨g, 1, none⟩ (.int .i64 Z)).cell? ⟨g, 1, none⟩ = some (.int .i64 Z) := hs.c 1 _ rfl
            (try simp only [Exit.inBlock, Exit.then])
            refine bodyPost_ret (by simp [results, Tryd.results27, go_sem, y0, y1]; try rfl) rfl ?_
            exact ⟨by rw [HE3.out]; rfl, set_below HB5.out HWG.out [.int .i64 1, .int .i64 Z]⟩
          · have HE3 := Lib.hid (HE2.out.trans (if_pos hk1))
            have e1 : (k1 == 1) = false := beq_eq_false_iff_ne.2 hk1
            have e2 : (k1 != 1) = true := bne_iff_ne.2 hk1
            clear hk1 HE HE2
            have g_0 := HG3.out.c 0 _ rfl
            have g_1 := HG3.out.c 1 _ rfl
            have g_z := HG3.out.fz
            go_wp2_with fail
            have hs := HG3.out.setRow [.int .i64 0, .int .i64 0] rfl
            have y0 : ((wc.setCell ⟨g, 0, none⟩ (.int .i64 0)).setCell ⟨g, 1, none⟩ (.int .i64 0)).cell? ⟨g, 0, none⟩ = some (.int .i64 0) := hs.c 0 _ rfl
            have y1 : ((wc.setCell ⟨g, 0, none⟩ (.int .i64 0)).setCell ⟨g, 1, none⟩ (.int .i64 0)).cell? ⟨g, 1, none⟩ = some (.int .i64 0) := hs.c 1 _ rfl
            (try simp only [Exit.inBlock, Exit.then])
            refine bodyPost_ret (by simp [results, Tryd.results27, go_sem, y0, y1]; try rfl) rfl ?_
            exact ⟨by rw [HE3.out]; rfl, set_below HB3.out HWG.out [.int .i64 0, .int .i64 0]⟩
        · have HE3 := Lib.hid (HE.out.trans (if_pos hk0))
          have e1 : (k0 == 1) = false := beq_eq_false_iff_ne.2 hk0
          have e2 : (k0 != 1) = true := bne_iff_ne.2 hk0
          clear hk0 HE
          have g_0 := HG3.out.c 0 _ rfl
          have g_1 := HG3.out.c 1 _ rfl
          have g_z := HG3.out.fz
          go_wp2_with fail
          have hs := HG3.out.setRow [.int .i64 0, .int .i64 0] rfl
          have y0 : ((wc.setCell ⟨g, 0, none⟩ (.int .i64 0)).setCell ⟨g, 1, none⟩ (.int .i64 0)).cell? ⟨g, 0, none⟩ = some (.int .i64 0) := hs.c 0 _ rfl
          have y1 : ((wc.setCell ⟨g, 0, none⟩ (.int .i64 0)).setCell ⟨g, 1, none⟩ (.int .i64 0)).cell? ⟨g, 1, none⟩ = some (.int .i64 0) := hs.c 1 _ rfl
          (try simp only [Exit.inBlock, Exit.then])
          refine bodyPost_ret (by simp [results, Tryd.results27, go_sem, y0, y1]; try rfl) rfl ?_
          exact ⟨by rw [HE3.out]; rfl, set_below HB3.out HWG.out [.int .i64 0, .int .i64 0]⟩
    · have HE := Lib.hid (evalO_len ⟨#[101, 110, 116, 104, 97, 108, 112, 121]⟩ vs (Or.inl rfl) h2)
      obtain ⟨L, hL⟩ : ∃ l, l = vs.length := ⟨_, rfl⟩
      rw [← hL] at h2 ⊢
      have e1 : ((L : Int) == 2) = false := by rw [beq_eq_false_iff_ne]; omega
      have e2 : ((L : Int) != 2) = true := by rw [bne_iff_ne]; omega
      clear h2 hL
      have g_0 := HG2.out.c 0 _ rfl
      have g_1 := HG2.out.c 1 _ rfl
      have g_z := HG2.out.fz
      go_wp2_with fail
      have hs := HG2.out.setRow [.int .i64 0, .int .i64 0] rfl
      have y0 : ((W2.setCell ⟨g, 0, none⟩ (.int .i64 0)).setCell ⟨g, 1, none⟩ (.int .i64 0)).cell? ⟨g, 0, none⟩ = some (.int .i64 0) := hs.c 0 _ rfl
      have y1 : ((W2.setCell ⟨g, 0, none⟩ (.int .i64 0)).setCell ⟨g, 1, none⟩ (.int .i64 0)).cell? ⟨g, 1, none⟩ = some (.int .i64 0) := hs.c 1 _ rfl
      (try simp only [Exit.inBlock, Exit.then])
      refine bodyPost_ret (by simp [results, Tryd.results27, go_sem, y0, y1]; try rfl) rfl ?_
      exact ⟨by rw [HE.out]; rfl, set_below HB2.out HWG.out [.int .i64 0, .int .i64 0]⟩
  · have HE := Lib.hid (evalO_np ⟨#[101, 110, 116, 104, 97, 108, 112, 121]⟩ np vs (Or.inl rfl) h0)
    have e1 : ((np : Int) == 0) = false := by rw [beq_eq_false_iff_ne]; omega
    have e2 : ((np : Int) != 0) = true := by rw [bne_iff_ne]; omega
    clear h0
    have g_0 := HG2.out.c 0 _ rfl
    have g_1 := HG2.out.c 1 _ rfl
    have g_z := HG2.out.fz
    go_wp2_with fail
    have hs := HG2.out.setRow [.int .i64 0, .int .i64 0] rfl
    have y0 : ((W2.setCell ⟨g, 0, none⟩ (.int .i64 0)).setCell ⟨g, 1, none⟩ (.int .i64 0)).cell? ⟨g, 0, none⟩ = some (.int .i64 0) := hs.c 0 _ rfl
    have y1 : ((W2.setCell ⟨g, 0, none⟩ (.int .i64 0)).setCell ⟨g, 1, none⟩ (.int .i64 0)).cell? ⟨g, 1, none⟩ = some (.int .i64 0) := hs.c 1 _ rfl
    (try simp only [Exit.inBlock, Exit.then])
    refine bodyPost_ret (by simp [results, Tryd.results27, go_sem, y0, y1]; try rfl) rfl ?_
    exact ⟨by rw [HE.out]; rfl, set_below HB2.out HWG.out [.int .i64 0, .int .i64 0]⟩
set_option maxHeartbeats 4000000 in
set_option maxRecDepth 100000 in
theorem eval_d (pa : Option Addr) (np pc : Nat) (ia : Option Addr) (ic : Nat) (vs : List (Int × Int)) (w : World) (ht : SatT w) (hm : MaxAt w) (hl : vs.length ≤ 10) (hp : np ≤ 10) (hin : InS w ia vs.length 2 (flat pairL vs)) :
    Calls Tryd.prog 27 #[.string ⟨#[100, 101, 119, 112, 111, 105, 110, 116]⟩, .slice pa np pc, .slice ia vs.length ic] w fun e w' => e = .returned (ansV (evalO ⟨#[100, 101, 119, 112, 111, 105, 110, 116]⟩ np vs)) ∧ Below w.heap.size w w' := by
  have HT := Lib.hid ht
  have HM := Lib.hid hm
  have HIN := Lib.hid hin
  clear ht hm hin
  obtain ⟨W, g, hW, hg, RG, B0, sz⟩ := box1 w #[.int .i64 0, .int .i64 0] 37
  have HG := Lib.hid RG
  have HB := Lib.hid B0
  have HWG := Lib.hid (show w.heap.size ≤ g by omega)
  clear RG B0 sz
  go_enter Tryd.func27, Tryd.ntmps27
  go_upto_region 1 with fail
  rw [← hW]
  try rw [← hg]
  clear hW hg
  go_wp2_with fail
  refine (prop_d _).mono ?_
  rintro e w' ⟨rfl, rfl⟩
  go_wp2_with fail
  refine (find_dewpoint _ (HM.out.keep HB.out)).mono ?_
  rintro e w1 ⟨DD, rfl, ⟨v1, v2, ob, rfl, p1, p2, _, _⟩, hb⟩
  obtain ⟨a1, c1, rfl, _⟩ := ins_own p1
  obtain ⟨a2, c2, rfl, _⟩ := ins_own p2
  simp only [List.length_nil, List.length_cons, Nat.zero_add, Nat.reduceAdd]
  obtain ⟨W2, d, hW2, hd, RD, B2, sz2⟩ := box1 w1 #[.string ⟨#[100, 101, 119, 112, 111, 105, 110, 116]⟩, .slice a1 0 c1, .slice a2 2 c2, .slice (some ⟨ob, 0, none⟩) 1 1, .int .i64 0, .int .i64 1] 54
  have HD := Lib.hid RD
  have HG2 := Lib.hid ((HG.out.keep hb).keep B2)
  have HB2 := Lib.hid (below_step (below_step HB.out hb) B2)
  clear hb p1 p2 RD B2 sz2
  go_upto_region 5 with fail
  rw [← hW2]
  try rw [← hd]
  clear hW2 hd
  have d_0 := HD.out.c 0 _ rfl
  have d_1 := HD.out.c 1 _ rfl
  have d_2 := HD.out.c 2 _ rfl
  have d_3 := HD.out.c 3 _ rfl
  have d_4 := HD.out.c 4 _ rfl
  have d_5 := HD.out.c 5 _ rfl
  by_cases h0 : np = 0
  · subst h0
    by_cases h2 : vs.length = 2
    · obtain ⟨⟨k0, x⟩, ⟨k1, h⟩, rfl⟩ := two_of h2
      have HI2 := Lib.hid (HIN.out.keep HB2.out)
      obtain ⟨ib, io, rfl, hil, hic⟩ := (show InS W2 ia [(k0, x), (k1, h)].length 2 (flat pairL [(k0, x), (k1, h)]) from HI2.out).at pairL_len (Nat.succ_pos _)
      have i0 := hic 0 _ rfl 0 _ rfl
      have i1 := hic 0 _ rfl 1 _ rfl
      have i2 := hic 1 _ rfl 0 _ rfl
      have i3 := hic 1 _ rfl 1 _ rfl
      simp only [Nat.zero_mul, Nat.one_mul, Nat.add_zero] at i0 i1 i2 i3
      have HE := Lib.hid (evalO_two ⟨#[100, 101, 119, 112, 111, 105, 110, 116]⟩ k0 x k1 h (Or.inr rfl))
      clear hic h2 hl
      simp only [List.length_cons, List.length_nil, Nat.zero_add, Nat.reduceAdd]
      go_upto_region 7 with fail
      clear d_0 d_1 d_2 d_3 d_4 d_5
      have zz : W2.heap.size ≤ W2.heap.size := Nat.le_refl _
      go_cut [12, 13] from 42 to 47 (fun p q wx => ∃ A B : Nat, p = .pointer (some ⟨A, 0, none⟩) ∧ q = .pointer (some ⟨B, 0, none⟩) ∧ Hid (RowAt wx A [.int .i64 k0, .int .i64 x] ∧ RowAt wx B [.int .i64 k1, .int .i64 h] ∧ Below W2.heap.size W2 wx))
      case first =>
        go_region
        all_goals
          go_wp2_with fail
          go_meet
        all_goals first
          | exact ⟨_, _, rfl, rfl, Lib.hid (two_new W2 #[.int .i64 k0, .int .i64 x] #[.int .i64 k1, .int .i64 h] 37)⟩
          | exact ⟨_, _, rfl, rfl, Lib.hid (let t := two_new W2 #[.int .i64 k1, .int .i64 h] #[.int .i64 k0, .int .i64 x] 37; ⟨t.2.1, t.1, t.2.2⟩)⟩
      case rest =>
        obtain ⟨A, B, rfl, rfl, hcc⟩ := hcut
        have HA := Lib.hid hcc.out.1
        have HBB := Lib.hid hcc.out.2.1
        have hbx := hcc.out.2.2
        have HG3 := Lib.hid (HG2.out.keep hbx)
        have HB3 := Lib.hid (below_step HB2.out hbx)
        clear hcc hbx i0 i1 i2 i3 zz hil
        have a_0 := HA.out.c 0 _ rfl
        have a_1 := HA.out.c 1 _ rfl
        have b_0 := HBB.out.c 0 _ rfl
        have b_1 := HBB.out.c 1 _ rfl
        by_cases hk0 : k0 = 1
        · subst hk0
          have HE2 := Lib.hid (HE.out.trans (if_neg (fun c => c rfl)))
          by_cases hk1 : k1 = 1
          · subst hk1
            have HE3 := Lib.hid (show evalO ⟨#[100, 101, 119, 112, 111, 105, 110, 116]⟩ 0 [(1, x), (1, h)] = (1, dewF (ratF x h), 0) by rw [HE2.out, if_neg (fun c => c rfl)]; rw [if_pos rfl])
            obtain ⟨Z, hZ⟩ : ∃ z, z = dewF (ratF x h) := ⟨_, rfl⟩
            have KO := Lib.hid (show Calls Tryd.prog 60 #[.int .i64 x, .int .i64 h] wc fun e w' => e = .returned (.int .i64 Z) ∧ Below wc.heap.size wc w' by rw [hZ]; exact dewOf_any x h wc (HT.out.below HB3.out))
            rw [← hZ] at HE3
            clear hZ HE HE2
            go_wp2_with fail
            refine KO.out.mono ?_
            rintro e w5 ⟨rfl, hb⟩
            have HG5 := Lib.hid (HG3.out.keep hb)
            have HB5 := Lib.hid (below_step HB3.out hb)
            clear hb a_0 a_1 b_0 b_1
            have g_0 := HG5.out.c 0 _ rfl
            have g_1 := HG5.out.c 1 _ rfl
            have g_z := HG5.out.fz
            go_wp2_with fail
            have hs := HG5.out.setRow [.int .i64 1, .int .i64 Z] rfl
            have y0 : ((w5.setCell ⟨g, 0, none⟩ (.int .i64 1)).setCell ⟨g, 1, none⟩ (.int .i64 Z)).cell? ⟨g, 0, none⟩ = some (.int .i64 1) := hs.c 0 _ rfl
            have y1 : ((w5.setCell ⟨g, 0, none⟩ (.int .i64 1)).setCell ⟨g, 1, none⟩ (.int .i64 Z)).cell? ⟨g, 1, none⟩ = some (.int .i64 Z) := hs.c 1 _ rfl
            (try simp only [Exit.inBlock, Exit.then])
            refine bodyPost_ret (by simp [results, Tryd.results27, go_sem, y0, y1]; try rfl) rfl ?_
            exact ⟨by rw [HE3.out]; rfl, set_below HB5.out HWG.out [.int .i64 1, .int .i64 Z]⟩
          · have HE3 := Lib.hid (HE2.out.trans (if_pos hk1))
            have e1 : (k1 == 1) = false := beq_eq_false_iff_ne.2 hk1
            have e2 : (k1 != 1) = true := bne_iff_ne.2 hk1
            clear hk1 HE HE2
            have g_0 := HG3.out.c 0 _ rfl
            have g_1 := HG3.out.c 1 _ rfl
            have g_z := HG3.out.fz
            go_wp2_with fail
            have hs := HG3.out.setRow [.int .i64 0, .int .i64 0] rfl
            have y0 : ((wc.setCell ⟨g, 0, none⟩ (.int .i64 0)).setCell ⟨g, 1, none⟩ (.int .i64 0)).cell? ⟨g, 0, none⟩ = some (.int .i64 0) := hs.c 0 _ rfl
            have y1 : ((wc.setCell ⟨g, 0, none⟩ (.int .i64 0)).setCell ⟨g, 1, none⟩ (.int .i64 0)).cell? ⟨g, 1, none⟩ = some (.int .i64 0) := hs.c 1 _ rfl
            (try simp only [Exit.inBlock, Exit.then])
            refine bodyPost_ret (by simp [results, Tryd.results27, go_sem, y0, y1]; try rfl) rfl ?_
            exact ⟨by rw [HE3.out]; rfl, set_below HB3.out HWG.out [.int .i64 0, .int .i64 0]⟩
        · have HE3 := Lib.hid (HE.out.trans (if_pos hk0))
          have e1 : (k0 == 1) = false := beq_eq_false_iff_ne.2 hk0
          have e2 : (k0 != 1) = true := bne_iff_ne.2 hk0
          clear hk0 HE
          have g_0 := HG3.out.c 0 _ rfl
          have g_1 := HG3.out.c 1 _ rfl
          have g_z := HG3.out.fz
          go_wp2_with fail
          have hs := HG3.out.setRow [.int .i64 0, .int .i64 0] rfl
          have y0 : ((wc.setCell ⟨g, 0, none⟩ (.int .i64 0)).setCell ⟨g, 1, none⟩ (.int .i64 0)).cell? ⟨g, 0, none⟩ = some (.int .i64 0) := hs.c 0 _ rfl
          have y1 : ((wc.setCell ⟨g, 0, none⟩ (.int .i64 0)).setCell ⟨g, 1, none⟩ (.int .i64 0)).cell? ⟨g, 1, none⟩ = some (.int .i64 0) := hs.c 1 _ rfl
          (try simp only [Exit.inBlock, Exit.then])
          refine bodyPost_ret (by simp [results, Tryd.results27, go_sem, y0, y1]; try rfl) rfl ?_
          exact ⟨by rw [HE3.out]; rfl, set_below HB3.out HWG.out [.int .i64 0, .int .i64 0]⟩
    · have HE := Lib.hid (evalO_len ⟨#[100, 101, 119, 112, 111, 105, 110, 116]⟩ vs (Or.inr rfl) h2)
      obtain ⟨L, hL⟩ : ∃ l, l = vs.length := ⟨_, rfl⟩
      rw [← hL] at h2 ⊢
      have e1 : ((L : Int) == 2) = false := by rw [beq_eq_false_iff_ne]; omega
      have e2 : ((L : Int) != 2) = true := by rw [bne_iff_ne]; omega
      clear h2 hL
      have g_0 := HG2.out.c 0 _ rfl
      have g_1 := HG2.out.c 1 _ rfl
      have g_z := HG2.out.fz
      go_wp2_with fail
      have hs := HG2.out.setRow [.int .i64 0, .int .i64 0] rfl
      have y0 : ((W2.setCell ⟨g, 0, none⟩ (.int .i64 0)).setCell ⟨g, 1, none⟩ (.int .i64 0)).cell? ⟨g, 0, none⟩ = some (.int .i64 0) := hs.c 0 _ rfl
      have y1 : ((W2.setCell ⟨g, 0, none⟩ (.int .i64 0)).setCell ⟨g, 1, none⟩ (.int .i64 0)).cell? ⟨g, 1, none⟩ = some (.int .i64 0) := hs.c 1 _ rfl
      (try simp only [Exit.inBlock, Exit.then])
      refine bodyPost_ret (by simp [results, Tryd.results27, go_sem, y0, y1]; try rfl) rfl ?_
      exact ⟨by rw [HE.out]; rfl, set_below HB2.out HWG.out [.int .i64 0, .int .i64 0]⟩
  · have HE := Lib.hid (evalO_np ⟨#[100, 101, 119, 112, 111, 105, 110, 116]⟩ np vs (Or.inr rfl) h0)
    have e1 : ((np : Int) == 0) = false := by rw [beq_eq_false_iff_ne]; omega
    have e2 : ((np : Int) != 0) = true := by rw [bne_iff_ne]; omega
    clear h0
    have g_0 := HG2.out.c 0 _ rfl
    have g_1 := HG2.out.c 1 _ rfl
    have g_z := HG2.out.fz
    go_wp2_with fail
    have hs := HG2.out.setRow [.int .i64 0, .int .i64 0] rfl
    have y0 : ((W2.setCell ⟨g, 0, none⟩ (.int .i64 0)).setCell ⟨g, 1, none⟩ (.int .i64 0)).cell? ⟨g, 0, none⟩ = some (.int .i64 0) := hs.c 0 _ rfl
    have y1 : ((W2.setCell ⟨g, 0, none⟩ (.int .i64 0)).setCell ⟨g, 1, none⟩ (.int .i64 0)).cell? ⟨g, 1, none⟩ = some (.int .i64 0) := hs.c 1 _ rfl
    (try simp only [Exit.inBlock, Exit.then])
    refine bodyPost_ret (by simp [results, Tryd.results27, go_sem, y0, y1]; try rfl) rfl ?_
    exact ⟨by rw [HE.out]; rfl, set_below HB2.out HWG.out [.int .i64 0, .int .i64 0]⟩
end Go.Proofs.YtgpbcdelaipifaaDoor
