/- Contracts of units.nameOf and scaleText. -/
import Derived.Test.YtlahoohgbfjciaaGreatDoorUz
import Derived.Lib.ItoaLen
namespace Go.Proofs.YtlahoohgbfjciaaGreatDoor
open Go.RowKit Go.Shelf

theorem box_unit (w : World) (p0 p1 p2 p3 pn pd po : Int) : ∃ (W : World) (R : Nat), W = w.alloc (Obj.cells #[.int .i64 p0, .int .i64 p1, .int .i64 p2, .int .i64 p3, .int .i64 pn, .int .i64 pd, .int .i64 po] 28) ∧ R = w.heap.size ∧ w.heap.size ≤ R ∧ UnitAt W R p0 p1 p2 p3 pn pd po ∧ Below w.heap.size w W :=
  ⟨_, _, rfl, rfl, Nat.le_refl _, unit_fresh w p0 p1 p2 p3 pn pd po, (Below.refl _ _).alloc (Nat.le_refl _) _⟩
def sameU (a b : UnitD) : Bool := decide (a.e0 = b.e0 ∧ a.e1 = b.e1 ∧ a.e2 = b.e2 ∧ a.e3 = b.e3 ∧ a.n = b.n ∧ a.d = b.d ∧ a.o = b.o)
theorem sameU_iff (a b : UnitD) : sameU a b = true ↔ a = b := by
  obtain ⟨a0, a1, a2, a3, an, ad, ao⟩ := a
  obtain ⟨b0, b1, b2, b3, bn, bd, bo⟩ := b
  unfold sameU
  rw [decide_eq_true_eq]
  constructor
  · rintro ⟨h0, h1, h2, h3, h4, h5, h6⟩
    simp only at h0 h1 h2 h3 h4 h5 h6
    rw [h0, h1, h2, h3, h4, h5, h6]
  · intro h
    injection h with h0 h1 h2 h3 h4 h5 h6
    exact ⟨h0, h1, h2, h3, h4, h5, h6⟩
/-- the least name of a unit, or nothing -/
def nameOfL (u : UnitD) : ByteArray := ((rowsL.find? fun r => sameU r.2 u).map (·.1)).getD ⟨#[]⟩
theorem rowAt_get (k : Nat) (h : k < 28) : ∃ h', rowAt k = rowsL[k]'h' := by
  have hl : rowsL.length = 28 := rfl
  exact ⟨by omega, by unfold rowAt; rw [List.getD_eq_getElem?_getD, List.getElem?_eq_getElem (by omega)]; rfl⟩
theorem nameOf_hit {s : ByteArray} {u : UnitD} (k : Nat) (h : k < 28) (hn : ∀ j, j < k → ¬ (rowAt j).2 = u) (hr : rowAt k = (s, u)) : nameOfL u = s := by
  unfold nameOfL
  have hl : rowsL.length = 28 := rfl
  have : rowsL.find? (fun r => sameU r.2 u) = some (s, u) := by
    rw [List.find?_eq_some_iff_getElem]
    obtain ⟨h1, h2⟩ := rowAt_get k h
    refine ⟨(sameU_iff _ _).2 rfl, k, h1, by rw [← h2, hr], fun j hj => ?_⟩
    obtain ⟨h3, h4⟩ := rowAt_get j (by omega)
    have h5 := hn j hj
    rw [h4] at h5
    have h6 : sameU (rowsL[j]).2 u = false := by
      cases hb : sameU (rowsL[j]).2 u
      · rfl
      · exact absurd ((sameU_iff _ _).1 hb) h5
    rw [h6]; rfl
  rw [this]; rfl
theorem nameOf_miss {u : UnitD} (hn : ∀ j, j < 28 → ¬ (rowAt j).2 = u) : nameOfL u = ⟨#[]⟩ := by
  unfold nameOfL
  have hl : rowsL.length = 28 := rfl
  have : rowsL.find? (fun r => sameU r.2 u) = none := by
    rw [List.find?_eq_none]
    intro r hr
    obtain ⟨j, hj, rfl⟩ := List.getElem_of_mem hr
    obtain ⟨h3, h4⟩ := rowAt_get j (by omega)
    have h5 := hn j (by omega)
    rw [h4] at h5
    exact fun hb => h5 ((sameU_iff _ _).1 hb)
  rw [this]; rfl

set_option maxRecDepth 100000 in
set_option maxHeartbeats 2000000 in
theorem nameOf_core (C : Array Value) (p0 p1 p2 p3 pn pd po : Int) (w : World) (HT : Hid (∀ w, Calls Tryz.prog 48 #[] w fun e w' => e = .returned (.agg C) ∧ Below w.heap.size w w')) (HI : Hid (∀ k, k < 28 → C.extract (k * 8) (k * 8 + 8) = rowC (rowAt k))) :
    Calls Tryz.prog 38 #[.agg #[.int .i64 p0, .int .i64 p1, .int .i64 p2, .int .i64 p3, .int .i64 pn, .int .i64 pd, .int .i64 po]] w fun e w' => e = .returned (.string (nameOfL ⟨p0, p1, p2, p3, pn, pd, po⟩)) ∧ Below w.heap.size w w' := by
  go_enter Tryz.func38, Tryz.ntmps38
  go_wp2_with fail
  obtain ⟨W, R, hW, hR, hwR, R1, B1⟩ := box_unit w p0 p1 p2 p3 pn pd po
  rw [← hW]
  try rw [← hR]
  have HR0 := Lib.hid R1
  have HB0 := Lib.hid B1
  clear hW hR R1 B1
  refine (HT.out _).mono ?_
  rintro e w1 ⟨rfl, hb⟩
  have HR1 := Lib.hid (HR0.out.keep hb)
  have HB1 := Lib.hid (HB0.out.trans (hb.mono HB0.out.size))
  clear hb HR0 HB0
  go_wp2_with fail
  go_loopw [6] (fun i wr => ∃ k : Nat, k ≤ 28 ∧ i = .int .i64 k ∧ Hid (UnitAt wr R p0 p1 p2 p3 pn pd po ∧ Below w.heap.size w wr ∧ ∀ j, j < k → ¬ (rowAt j).2 = ⟨p0, p1, p2, p3, pn, pd, po⟩)) (fun i _ => 28 - (intOf i).toNat)
  case atStart => exact ⟨0, Nat.zero_le _, rfl, Lib.hid ⟨HR1.out, HB1.out, fun j hj => absurd hj (Nat.not_lt_zero _)⟩⟩
  case round =>
    obtain ⟨k, hk, rfl, HH⟩ := hrel
    obtain ⟨hr, hb, hn⟩ := HH.out
    have HR := Lib.hid hr
    have HB := Lib.hid hb
    have HN := Lib.hid hn
    clear hr hb hn HH HR1 HB1
    by_cases hlt : k < 28
    · have hi := HI.out k hlt
      obtain ⟨r, hr⟩ : ∃ r, r = rowAt k := ⟨_, rfl⟩
      rw [← hr] at hi
      obtain ⟨nm, ⟨x0, x1, x2, x3, xn, xd, xo⟩⟩ := r
      have hi := idx_run C #[.string nm, .int .i64 x0, .int .i64 x1, .int .i64 x2, .int .i64 x3, .int .i64 xn, .int .i64 xd, .int .i64 xo] k hlt hi
      have HK := Lib.hid hr
      have HRa := Lib.hid (HR.out.keep ((Below.refl wr.heap.size wr).alloc (Nat.le_refl _) (Obj.cells #[.string nm, .int .i64 x0, .int .i64 x1, .int .i64 x2, .int .i64 x3, .int .i64 xn, .int .i64 xd, .int .i64 xo] 84)))
      have HBa := Lib.hid (HB.out.alloc HB.out.size (Obj.cells #[.string nm, .int .i64 x0, .int .i64 x1, .int .i64 x2, .int .i64 x3, .int .i64 xn, .int .i64 xd, .int .i64 xo] 84))
      obtain ⟨r0, r1, r2, r3, r4, r5, r6, rz⟩ := HRa.out
      have heq := fun w => eq_unit x0 x1 x2 x3 xn xd xo p0 p1 p2 p3 pn pd po w
      obtain ⟨b, hb⟩ : ∃ b, b = decide (x0 = p0 ∧ x1 = p1 ∧ x2 = p2 ∧ x3 = p3 ∧ xn = pn ∧ xd = pd ∧ xo = po) := ⟨_, rfl⟩
      rw [← hb] at heq
      have HBB := Lib.hid hb
      clear hr hb
      cases b
      · go_wp2_with fail
        go_roundw
        case rel => exact ⟨k + 1, by omega, by go_num, Lib.hid ⟨HRa.out, HBa.out, fun j hj => by
          by_cases h : j = k
          · subst h
            rw [← HK.out]
            intro e
            have hbb := HBB.out
            injection e with e0 e1 e2 e3 e4 e5 e6
            rw [decide_eq_true ⟨e0, e1, e2, e3, e4, e5, e6⟩] at hbb
            cases hbb
          · exact HN.out j (by omega)⟩⟩
        case measure => simp [intOf]; omega
      · have HF := Lib.hid (show nameOfL ⟨p0, p1, p2, p3, pn, pd, po⟩ = nm by
          have e2 := of_decide_eq_true HBB.out.symm
          obtain ⟨rfl, rfl, rfl, rfl, rfl, rfl, rfl⟩ := e2
          exact nameOf_hit k hlt HN.out HK.out.symm)
        go_wp2_with fail
        go_ret
        exact ⟨by rw [HF.out]; rfl, HBa.out⟩
    · obtain rfl : k = 28 := by omega
      have HF := Lib.hid (show nameOfL ⟨p0, p1, p2, p3, pn, pd, po⟩ = ⟨#[]⟩ from nameOf_miss HN.out)
      go_wp2_with fail
      go_ret
      exact ⟨by rw [HF.out]; rfl, HB.out⟩

theorem nameOf_any (u : UnitD) (w : World) :
    Calls Tryz.prog 38 #[unitV u] w fun e w' => e = .returned (.string (nameOfL u)) ∧ Below w.heap.size w w' :=
  nameOf_core tableC.toArray u.e0 u.e1 u.e2 u.e3 u.n u.d u.o w (Lib.hid table_any) (Lib.hid idx_row)

/-- how the text of a unit begins -/
def scaleTextL (u : UnitD) : List UInt8 :=
  (fun t => if t = [49] then [] else t ++ [42]) (Lib.itoa u.n ++ (if u.d = 1 then [] else 47 :: Lib.itoa u.d))
set_option maxHeartbeats 2000000 in
theorem scaleT_both (S1 S2 : ByteArray) (p0 p1 p2 p3 pn pd po : Int) (w : World) (hg : Gu w) (hd : ¬ pd = 1) (z1 : S1.size ≤ 1000) (z2 : S2.size ≤ 1000) (hz : ((S1 ++ (⟨#[47]⟩ ++ S2)).toList == [49]) = false) (HF1 : Hid (∀ w, Tab w → Calls Tryz.prog 51 #[.int .i64 pn, .int .i64 10] w fun e w' => e = .returned (.string S1) ∧ Below w.heap.size w w')) (HF2 : Hid (∀ w, Tab w → Calls Tryz.prog 51 #[.int .i64 pd, .int .i64 10] w fun e w' => e = .returned (.string S2) ∧ Below w.heap.size w w')) :
    Calls Tryz.prog 39 #[.agg #[.int .i64 p0, .int .i64 p1, .int .i64 p2, .int .i64 p3, .int .i64 pn, .int .i64 pd, .int .i64 po]] w fun e w' => e = .returned (.string (S1 ++ (⟨#[47]⟩ ++ S2) ++ ⟨#[42]⟩)) ∧ Below w.heap.size w w' := by
  have t0 : (pd != 1) = true := by rw [bne_iff_ne]; exact hd
  have g1 : ¬ 9223372036854775807 < 1 + S2.size := by omega
  have g2 : ¬ 9223372036854775807 < S1.size + (1 + S2.size) := by omega
  have g3 : ¬ 9223372036854775807 < S1.size + (1 + S2.size) + 1 := by omega
  clear hd z1 z2
  go_enter Tryz.func39, Tryz.ntmps39
  go_wp2_with fail
  obtain ⟨W, R, hW, hR, hwR, R1, B1⟩ := box_unit w p0 p1 p2 p3 pn pd po
  rw [← hW]
  try rw [← hR]
  have HR0 := Lib.hid R1
  have HB0 := Lib.hid B1
  have g1 := hg.below ((Below.refl w.heap.size w).alloc (Nat.le_refl _) (Obj.cells #[.int .i64 p0, .int .i64 p1, .int .i64 p2, .int .i64 p3, .int .i64 pn, .int .i64 pd, .int .i64 po] 28))
  rw [← hW] at g1
  have HG0 := Lib.hid g1
  clear hW hR R1 B1 g1 hg
  refine (HF1.out _ HG0.out.tab).mono ?_
  rintro e w1 ⟨rfl, hb⟩
  have HR1 := Lib.hid (HR0.out.keep hb)
  have HB1 := Lib.hid (HB0.out.trans (hb.mono HB0.out.size))
  have HG1 := Lib.hid (HG0.out.below hb)
  clear hb HR0 HB0
  obtain ⟨r0, r1, r2, r3, r4, r5, r6, rz⟩ := HR1.out
  go_wp2_with fail
  refine (HF2.out _ HG1.out.tab).mono ?_
  rintro e w2 ⟨rfl, hb⟩
  have HB2 := Lib.hid (HB1.out.trans (hb.mono HB1.out.size))
  clear hb
  go_wp2_with fail
  go_ret
  exact ⟨rfl, HB2.out⟩

set_option maxHeartbeats 2000000 in
theorem scaleT_none (S1 : ByteArray) (p0 p1 p2 p3 pn pd po : Int) (w : World) (hg : Gu w) (hd : pd = 1) (hz : (S1.toList == [49]) = true) (HF1 : Hid (∀ w, Tab w → Calls Tryz.prog 51 #[.int .i64 pn, .int .i64 10] w fun e w' => e = .returned (.string S1) ∧ Below w.heap.size w w')) :
    Calls Tryz.prog 39 #[.agg #[.int .i64 p0, .int .i64 p1, .int .i64 p2, .int .i64 p3, .int .i64 pn, .int .i64 pd, .int .i64 po]] w fun e w' => e = .returned (.string ⟨#[]⟩) ∧ Below w.heap.size w w' := by
  have t0 : (pd != 1) = false := by rw [hd]; rfl
  clear hd
  go_enter Tryz.func39, Tryz.ntmps39
  go_wp2_with fail
  obtain ⟨W, R, hW, hR, hwR, R1, B1⟩ := box_unit w p0 p1 p2 p3 pn pd po
  rw [← hW]
  try rw [← hR]
  have HR0 := Lib.hid R1
  have HB0 := Lib.hid B1
  have g1 := hg.below ((Below.refl w.heap.size w).alloc (Nat.le_refl _) (Obj.cells #[.int .i64 p0, .int .i64 p1, .int .i64 p2, .int .i64 p3, .int .i64 pn, .int .i64 pd, .int .i64 po] 28))
  rw [← hW] at g1
  have HG0 := Lib.hid g1
  clear hW hR R1 B1 g1 hg
  refine (HF1.out _ HG0.out.tab).mono ?_
  rintro e w1 ⟨rfl, hb⟩
  have HR1 := Lib.hid (HR0.out.keep hb)
  have HB1 := Lib.hid (HB0.out.trans (hb.mono HB0.out.size))
  have HG1 := Lib.hid (HG0.out.below hb)
  clear hb HR0 HB0
  obtain ⟨r0, r1, r2, r3, r4, r5, r6, rz⟩ := HR1.out
  go_wp2_with fail
  go_ret
  exact ⟨rfl, HB1.out⟩

set_option maxHeartbeats 2000000 in
theorem scaleT_one (S1 : ByteArray) (p0 p1 p2 p3 pn pd po : Int) (w : World) (hg : Gu w) (hd : pd = 1) (z1 : S1.size ≤ 1000) (hz : (S1.toList == [49]) = false) (HF1 : Hid (∀ w, Tab w → Calls Tryz.prog 51 #[.int .i64 pn, .int .i64 10] w fun e w' => e = .returned (.string S1) ∧ Below w.heap.size w w')) :
    Calls Tryz.prog 39 #[.agg #[.int .i64 p0, .int .i64 p1, .int .i64 p2, .int .i64 p3, .int .i64 pn, .int .i64 pd, .int .i64 po]] w fun e w' => e = .returned (.string (S1 ++ ⟨#[42]⟩)) ∧ Below w.heap.size w w' := by
  have t0 : (pd != 1) = false := by rw [hd]; rfl
  have g3 : ¬ 9223372036854775807 < S1.size + 1 := by omega
  clear hd z1
  go_enter Tryz.func39, Tryz.ntmps39
  go_wp2_with fail
  obtain ⟨W, R, hW, hR, hwR, R1, B1⟩ := box_unit w p0 p1 p2 p3 pn pd po
  rw [← hW]
  try rw [← hR]
  have HR0 := Lib.hid R1
  have HB0 := Lib.hid B1
  have g1 := hg.below ((Below.refl w.heap.size w).alloc (Nat.le_refl _) (Obj.cells #[.int .i64 p0, .int .i64 p1, .int .i64 p2, .int .i64 p3, .int .i64 pn, .int .i64 pd, .int .i64 po] 28))
  rw [← hW] at g1
  have HG0 := Lib.hid g1
  clear hW hR R1 B1 g1 hg
  refine (HF1.out _ HG0.out.tab).mono ?_
  rintro e w1 ⟨rfl, hb⟩
  have HR1 := Lib.hid (HR0.out.keep hb)
  have HB1 := Lib.hid (HB0.out.trans (hb.mono HB0.out.size))
  have HG1 := Lib.hid (HG0.out.below hb)
  clear hb HR0 HB0
  obtain ⟨r0, r1, r2, r3, r4, r5, r6, rz⟩ := HR1.out
  go_wp2_with fail
  go_ret
  exact ⟨rfl, HB1.out⟩

theorem size_mk (l : List UInt8) : (⟨l.toArray⟩ : ByteArray).size = l.length := by simp [ByteArray.size]
theorem mk_append (l m : List UInt8) : (⟨l.toArray⟩ : ByteArray) ++ ⟨m.toArray⟩ = ⟨(l ++ m).toArray⟩ := by
  rw [← bytes_inj, ByteArray.data_append]; simp
theorem scaleText_any (u : UnitD) (w : World) (hg : Gu w) (hn : 1 ≤ u.n ∧ u.n ≤ 100000000000) (hd : 1 ≤ u.d ∧ u.d ≤ 100000000000) :
    Calls Tryz.prog 39 #[unitV u] w fun e w' => e = .returned (.string ⟨(scaleTextL u).toArray⟩) ∧ Below w.heap.size w w' := by
  have f1 := fun w ht => format_any u.n (by omega) (by omega) w ht
  have f2 := fun w ht => format_any u.d (by omega) (by omega) w ht
  have l1 := Lib.itoa_length_le u.n (by omega) (by omega)
  have l2 := Lib.itoa_length_le u.d (by omega) (by omega)
  have s1 := size_mk (Lib.itoa u.n)
  have s2 := size_mk (Lib.itoa u.d)
  unfold scaleTextL
  by_cases h : u.d = 1
  · rw [if_pos h, List.append_nil]
    by_cases h1 : Lib.itoa u.n = [49]
    · simp only [h1, if_true]
      exact scaleT_none _ u.e0 u.e1 u.e2 u.e3 u.n u.d u.o w hg h (by rw [toList_eq]; simp [h1]) (Lib.hid f1)
    · simp only [h1, if_false]
      have := scaleT_one _ u.e0 u.e1 u.e2 u.e3 u.n u.d u.o w hg h (by omega) (by rw [toList_eq]; simp [h1]) (Lib.hid f1)
      rwa [show (⟨#[42]⟩ : ByteArray) = ⟨([42] : List UInt8).toArray⟩ from rfl, mk_append] at this
  · rw [if_neg h]
    have h1 : ¬ Lib.itoa u.n ++ 47 :: Lib.itoa u.d = [49] := by
      intro e
      cases hI : Lib.itoa u.n with
      | nil => rw [hI] at e; simp at e
      | cons c l => rw [hI] at e; have := congrArg List.length e; simp at this
    simp only [h1, if_false]
    have := scaleT_both _ _ u.e0 u.e1 u.e2 u.e3 u.n u.d u.o w hg h (by omega) (by omega) (by rw [toList_eq, show (⟨#[47]⟩ : ByteArray) = ⟨([47] : List UInt8).toArray⟩ from rfl, mk_append, mk_append]; simpa using h1) (Lib.hid f1) (Lib.hid f2)
    rwa [show (⟨#[42]⟩ : ByteArray) = ⟨([42] : List UInt8).toArray⟩ from rfl, show (⟨#[47]⟩ : ByteArray) = ⟨([47] : List UInt8).toArray⟩ from rfl, mk_append, mk_append, mk_append] at this
end Go.Proofs.YtlahoohgbfjciaaGreatDoor
