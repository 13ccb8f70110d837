/- The contract of units.multiply. -/
import Derived.Test.YtlahoohgbfjciaaGreatDoorVg
namespace Go.Proofs.YtlahoohgbfjciaaGreatDoor
open Go.RowKit Go.Shelf

/-- the unit of a factor in memory -/
structure Fact1 (w : World) (b : Nat) (e0 e1 e2 e3 n d o : Int) : Prop where
  c0 : w.cell? ⟨b, 1, none⟩ = some (.int .i64 e0)
  c1 : w.cell? ⟨b, 2, none⟩ = some (.int .i64 e1)
  c2 : w.cell? ⟨b, 3, none⟩ = some (.int .i64 e2)
  c3 : w.cell? ⟨b, 4, none⟩ = some (.int .i64 e3)
  c4 : w.cell? ⟨b, 5, none⟩ = some (.int .i64 n)
  c5 : w.cell? ⟨b, 6, none⟩ = some (.int .i64 d)
  c6 : w.cell? ⟨b, 7, none⟩ = some (.int .i64 o)
theorem Fact1.lt {w : World} {b : Nat} {e0 e1 e2 e3 n d o : Int} (t : Fact1 w b e0 e1 e2 e3 n d o) : b < w.heap.size := World.block_lt_of_cell? _ _ t.c0
theorem Fact1.keep {w w' : World} {b : Nat} {e0 e1 e2 e3 n d o : Int} (t : Fact1 w b e0 e1 e2 e3 n d o) (hb : Below w.heap.size w w') : Fact1 w' b e0 e1 e2 e3 n d o :=
  ⟨(hb.cell (p := ⟨b, 1, none⟩) t.lt).trans t.c0, (hb.cell (p := ⟨b, 2, none⟩) t.lt).trans t.c1, (hb.cell (p := ⟨b, 3, none⟩) t.lt).trans t.c2, (hb.cell (p := ⟨b, 4, none⟩) t.lt).trans t.c3, (hb.cell (p := ⟨b, 5, none⟩) t.lt).trans t.c4, (hb.cell (p := ⟨b, 6, none⟩) t.lt).trans t.c5, (hb.cell (p := ⟨b, 7, none⟩) t.lt).trans t.c6⟩
theorem fact1_fresh (w : World) (nm : ByteArray) (v0 v1 v2 v3 vn vd vo : Int) (P : Nat) (b : Bool) : Fact1 (w.alloc (Obj.cells #[.string nm, .int .i64 v0, .int .i64 v1, .int .i64 v2, .int .i64 v3, .int .i64 vn, .int .i64 vd, .int .i64 vo, .int .i64 P, .bool b] 88)) w.heap.size v0 v1 v2 v3 vn vd vo := ⟨World.cell?_alloc_new _ _ _ _, World.cell?_alloc_new _ _ _ _, World.cell?_alloc_new _ _ _ _, World.cell?_alloc_new _ _ _ _, World.cell?_alloc_new _ _ _ _, World.cell?_alloc_new _ _ _ _, World.cell?_alloc_new _ _ _ _⟩
theorem Fact1.other {w : World} {b g : Nat} {p0 p1 p2 p3 p4 p5 p6 : Int} (t : Fact1 w b p0 p1 p2 p3 p4 p5 p6) (hne : g ≠ b) (e0 e1 e2 e3 n d o : Int) : Fact1 (setU w g e0 e1 e2 e3 n d o) b p0 p1 p2 p3 p4 p5 p6 := by
  have h : ∀ k, (setU w g e0 e1 e2 e3 n d o).cell? ⟨b, k, none⟩ = w.cell? ⟨b, k, none⟩ := fun k => by
    unfold setU
    iterate 7 rw [World.cell?_setCell_other _ _ _ _ (fun e => hne (congrArg Addr.block e))]
  exact ⟨(h 1).trans t.c0, (h 2).trans t.c1, (h 3).trans t.c2, (h 4).trans t.c3, (h 5).trans t.c4, (h 6).trans t.c5, (h 7).trans t.c6⟩
theorem own_setne {w : World} {base : Nat} {e : TypeId} {sz n R k g cap : Nat} {x : Value} {xs : List Value} (h : w.ownsRow base e sz (.slice (some ⟨g, 0, none⟩) n cap) n xs) (hne : g ≠ R) : (w.setCell ⟨R, k, none⟩ x).ownsRow base e sz (.slice (some ⟨g, 0, none⟩) n cap) n xs :=
  h.kept (grown_set w ⟨R, k, none⟩ x) (.inr (fun e => hne (Option.some.inj e)))
theorem own_setUne {w : World} {base : Nat} {e : TypeId} {sz n R g cap : Nat} {xs : List Value} (h : w.ownsRow base e sz (.slice (some ⟨g, 0, none⟩) n cap) n xs) (hne : g ≠ R) (c0 c1 c2 c3 cn cd co : Int) : (setU w R c0 c1 c2 c3 cn cd co).ownsRow base e sz (.slice (some ⟨g, 0, none⟩) n cap) n xs :=
  own_setne (own_setne (own_setne (own_setne (own_setne (own_setne (own_setne h hne) hne) hne) hne) hne) hne) hne
theorem pow_step {u v r : UnitD} {b : Bool} {P j Q : Nat} (h : j < P) (hr : (r, 0) = if b = true then divR u v else mulR u v) (hQ : Q = P - j := by rfl) : powR u v b Q = powR r v b (P - (j + 1)) := by
  obtain ⟨q, hq⟩ : ∃ q, P - j = q + 1 := ⟨P - j - 1, by omega⟩
  rw [hQ, hq, show P - (j + 1) = q by omega]
  show (let r := if b = true then divR u v else mulR u v; if r.2 = 0 then powR r.1 v b q else (zeroU, r.2)) = _
  rw [← hr]
  rfl
theorem pow_err {u v r : UnitD} {X : Int} {b : Bool} {P j : Nat} (h : j < P) (hr : (r, X) = if b = true then divR u v else mulR u v) (hX : X ≠ 0) : powR u v b (P - j) = (zeroU, X) := by
  obtain ⟨q, hq⟩ : ∃ q, P - j = q + 1 := ⟨P - j - 1, by omega⟩
  rw [hq]
  show (let r := if b = true then divR u v else mulR u v; if r.2 = 0 then powR r.1 v b q else (zeroU, r.2)) = _
  rw [← hr]
  exact if_neg hX
theorem mult_err {x u : UnitD} {nm : ByteArray} {bb : Bool} {P : Nat} {X : Int} {fs : List FactD} {k : Nat} (h : fs[k]? = some ⟨nm, u, (P : Int), bb⟩) (hp : powR x u bb P = (zeroU, X)) (hX : X ≠ 0) : multR x (fs.drop k) = (zeroU, X) := by
  have hk : k < fs.length := (List.getElem?_eq_some_iff.1 h).1
  have hf : fs[k] = ⟨nm, u, (P : Int), bb⟩ := (List.getElem?_eq_some_iff.1 h).2
  rw [List.drop_eq_getElem_cons hk, hf]
  show (let r := powR x u bb (P : Int).toNat; if r.2 = 0 then multR r.1 (fs.drop (k + 1)) else (zeroU, r.2)) = _
  rw [Int.toNat_natCast, hp]
  exact if_neg hX
theorem mult_step {x y u : UnitD} {nm : ByteArray} {bb : Bool} {P : Nat} {fs : List FactD} {k : Nat} (h : fs[k]? = some ⟨nm, u, (P : Int), bb⟩) (hp : powR x u bb P = powR y u bb 0) : multR x (fs.drop k) = multR y (fs.drop (k + 1)) := by
  have hk : k < fs.length := (List.getElem?_eq_some_iff.1 h).1
  have hf : fs[k] = ⟨nm, u, (P : Int), bb⟩ := (List.getElem?_eq_some_iff.1 h).2
  rw [List.drop_eq_getElem_cons hk, hf]
  show (let r := powR x u bb (P : Int).toNat; if r.2 = 0 then multR r.1 (fs.drop (k + 1)) else (zeroU, r.2)) = _
  rw [Int.toNat_natCast, hp]
  rfl
set_option maxRecDepth 100000 in
set_option maxHeartbeats 8000000 in
theorem mult_core (u0 u1 u2 u3 un ud uo : Int) (fs : List FactD) (n g cap base : Nat) (w : World) (HN : Hid (n = fs.length)) (hn : n ≤ 1000) (HOw : Hid (w.ownsRow base 88 10 (.slice (some ⟨g, 0, none⟩) n cap) n (rowsC fs))) (hpw : ∀ f ∈ fs, ∃ P : Nat, f.p = (P : Int) ∧ P ≤ 9) :
    Calls Tryz.prog 37 #[.agg #[.int .i64 u0, .int .i64 u1, .int .i64 u2, .int .i64 u3, .int .i64 un, .int .i64 ud, .int .i64 uo], .slice (some ⟨g, 0, none⟩) n cap] w fun e w' => e = .returned (pairU (multR ⟨u0, u1, u2, u3, un, ud, uo⟩ fs)) ∧ Below w.heap.size w w' := by
  go_enter Tryz.func37, Tryz.ntmps37
  go_wp2_with fail
  obtain ⟨W, b, R, hW, hb0, hR0, hbR, hwb, hwR, U1, R1, B1⟩ := two_units w u0 u1 u2 u3 un ud uo 0 0 0 0 0 0 0
  rw [← hW]
  try rw [← hR0]
  try rw [← hb0]
  have how : W.ownsRow base 88 10 (.slice (some ⟨g, 0, none⟩) n cap) n (rowsC fs) := by rw [hW]; exact (HOw.out.alloc _).alloc _
  have hgb : g ≠ b := by have := (HOw.out.lt g rfl).2; omega
  have hgR : g ≠ R := by have := (HOw.out.lt g rfl).2; omega
  have HS := Lib.hid (And.intro U1 (And.intro R1 (And.intro how B1)))
  have HN0 := Lib.hid (And.intro hgb (And.intro hgR (And.intro hbR (And.intro hwb hwR))))
  clear hW hb0 hR0 U1 R1 B1 how hgb hgR hbR hwb
  go_loopw [13] (fun i wr => ∃ k : Nat, k ≤ n ∧ i = .int .i64 k ∧ Hid (∃ x : UnitD, UnitAt wr b x.e0 x.e1 x.e2 x.e3 x.n x.d x.o ∧ UnitAt wr R 0 0 0 0 0 0 0 ∧ wr.ownsRow base 88 10 (.slice (some ⟨g, 0, none⟩) n cap) n (rowsC fs) ∧ Below w.heap.size w wr ∧ multR ⟨u0, u1, u2, u3, un, ud, uo⟩ fs = multR x (fs.drop k))) (fun i _ => n - (intOf i).toNat)
  case atStart => exact ⟨0, Nat.zero_le _, rfl, Lib.hid ⟨⟨u0, u1, u2, u3, un, ud, uo⟩, HS.out.1, HS.out.2.1, HS.out.2.2.1, HS.out.2.2.2, rfl⟩⟩
  case round =>
    obtain ⟨k, hk, rfl, HH⟩ := hrel
    obtain ⟨⟨x0, x1, x2, x3, xn, xd, xo⟩, hu, hr, ho, hbl, hm⟩ := HH.out
    have HU := Lib.hid hu
    have HR := Lib.hid hr
    have HO := Lib.hid ho
    have HB := Lib.hid hbl
    have HM := Lib.hid hm
    clear hu hr ho hbl hm HH HS
    obtain ⟨wA, hwA⟩ : ∃ x, x = wr := ⟨_, rfl⟩
    subst hwA
    by_cases hlt : k < n
    · obtain ⟨f, hf⟩ : ∃ f, fs[k]? = some f := ⟨fs[k]'(by rw [← HN.out]; exact hlt), List.getElem?_eq_getElem _⟩
      obtain ⟨P, hP, hP2⟩ := hpw f (List.mem_of_getElem? hf)
      obtain ⟨nm, ⟨v0, v1, v2, v3, vn, vd, vo⟩, p, bb⟩ := f
      have hP : p = (P : Int) := hP
      subst hP
      have HF := Lib.hid hf
      clear hf
      have q0 : wA.cell? ⟨g, k * 10, none⟩ = some (.string nm) := (HO.out.cellAt (k * 10) (by omega)).trans (rows_at _ k 0 _ HF.out (by decide))
      have q1 : wA.cell? ⟨g, k * 10 + 1, none⟩ = some (.int .i64 v0) := (HO.out.cellAt (k * 10 + 1) (by omega)).trans (rows_at _ k 1 _ HF.out (by decide))
      have q2 : wA.cell? ⟨g, k * 10 + 2, none⟩ = some (.int .i64 v1) := (HO.out.cellAt (k * 10 + 2) (by omega)).trans (rows_at _ k 2 _ HF.out (by decide))
      have q3 : wA.cell? ⟨g, k * 10 + 3, none⟩ = some (.int .i64 v2) := (HO.out.cellAt (k * 10 + 3) (by omega)).trans (rows_at _ k 3 _ HF.out (by decide))
      have q4 : wA.cell? ⟨g, k * 10 + 4, none⟩ = some (.int .i64 v3) := (HO.out.cellAt (k * 10 + 4) (by omega)).trans (rows_at _ k 4 _ HF.out (by decide))
      have q5 : wA.cell? ⟨g, k * 10 + 5, none⟩ = some (.int .i64 vn) := (HO.out.cellAt (k * 10 + 5) (by omega)).trans (rows_at _ k 5 _ HF.out (by decide))
      have q6 : wA.cell? ⟨g, k * 10 + 6, none⟩ = some (.int .i64 vd) := (HO.out.cellAt (k * 10 + 6) (by omega)).trans (rows_at _ k 6 _ HF.out (by decide))
      have q7 : wA.cell? ⟨g, k * 10 + 7, none⟩ = some (.int .i64 vo) := (HO.out.cellAt (k * 10 + 7) (by omega)).trans (rows_at _ k 7 _ HF.out (by decide))
      have q8 : wA.cell? ⟨g, k * 10 + 8, none⟩ = some (.int .i64 (P : Nat)) := (HO.out.cellAt (k * 10 + 8) (by omega)).trans (rows_at _ k 8 _ HF.out (by decide))
      have q9 : wA.cell? ⟨g, k * 10 + 9, none⟩ = some (.bool bb) := (HO.out.cellAt (k * 10 + 9) (by omega)).trans (rows_at _ k 9 _ HF.out (by decide))
      cases bb
      · go_wp2_with fail
        have hB2 := HB.out.alloc HB.out.size (Obj.cells #[.string nm, .int .i64 v0, .int .i64 v1, .int .i64 v2, .int .i64 v3, .int .i64 vn, .int .i64 vd, .int .i64 vo, .int .i64 P, .bool false] 88)
        have hk2 : Below wA.heap.size wA (wA.alloc (Obj.cells #[.string nm, .int .i64 v0, .int .i64 v1, .int .i64 v2, .int .i64 v3, .int .i64 vn, .int .i64 vd, .int .i64 vo, .int .i64 P, .bool false] 88)) := (Below.refl _ _).alloc (Nat.le_refl _) _
        have hU2 := HU.out.keep hk2
        have hR2 := HR.out.keep hk2
        have hO2 := HO.out.alloc (Obj.cells #[.string nm, .int .i64 v0, .int .i64 v1, .int .i64 v2, .int .i64 v3, .int .i64 vn, .int .i64 vd, .int .i64 vo, .int .i64 P, .bool false] 88)
        have hF2 := fact1_fresh wA nm v0 v1 v2 v3 vn vd vo P false
        obtain ⟨WB, hWB⟩ : ∃ x, x = wA.alloc (Obj.cells #[.string nm, .int .i64 v0, .int .i64 v1, .int .i64 v2, .int .i64 v3, .int .i64 vn, .int .i64 vd, .int .i64 vo, .int .i64 P, .bool false] 88) := ⟨_, rfl⟩
        obtain ⟨N, hN⟩ : ∃ x, x = wA.heap.size := ⟨_, rfl⟩
        have hNb : N ≠ b := by have := HU.out.lt; omega
        have hNR : N ≠ R := by have := HR.out.lt; omega
        rw [← hWB, ← hN]
        rw [← hWB] at hB2 hU2 hR2 hO2 hF2
        rw [← hN] at hF2
        have HS := Lib.hid (And.intro hU2 (And.intro hR2 (And.intro hO2 (And.intro hB2 hF2))))
        have HN1 := Lib.hid (And.intro hNb hNR)
        clear hB2 hk2 hU2 hR2 hO2 hF2 hWB hN hNb hNR q0 q1 q2 q3 q4 q5 q6 q7 q8 q9 HB HU HR HO
        go_loopw [21] (fun i wr => ∃ j : Nat, j ≤ P ∧ i = .int .i64 j ∧ Hid (∃ y : UnitD, UnitAt wr b y.e0 y.e1 y.e2 y.e3 y.n y.d y.o ∧ UnitAt wr R 0 0 0 0 0 0 0 ∧ wr.ownsRow base 88 10 (.slice (some ⟨g, 0, none⟩) n cap) n (rowsC fs) ∧ Below w.heap.size w wr ∧ Fact1 wr N v0 v1 v2 v3 vn vd vo ∧ powR ⟨x0, x1, x2, x3, xn, xd, xo⟩ ⟨v0, v1, v2, v3, vn, vd, vo⟩ false P = powR y ⟨v0, v1, v2, v3, vn, vd, vo⟩ false (P - j))) (fun i _ => P - (intOf i).toNat)
        case atStart => exact ⟨0, Nat.zero_le _, rfl, Lib.hid ⟨⟨x0, x1, x2, x3, xn, xd, xo⟩, HS.out.1, HS.out.2.1, HS.out.2.2.1, HS.out.2.2.2.1, HS.out.2.2.2.2, rfl⟩⟩
        case round =>
          obtain ⟨j, hj, rfl, HH⟩ := hrel
          obtain ⟨⟨y0, y1, y2, y3, yn, yd, yo⟩, hu, hr, ho, hbl, hf1, hpw2⟩ := HH.out
          have HU := Lib.hid hu
          have HR := Lib.hid hr
          have HO := Lib.hid ho
          have HB := Lib.hid hbl
          have HF1 := Lib.hid hf1
          have HPw := Lib.hid hpw2
          clear hu hr ho hbl hf1 hpw2 HH HS
          by_cases hjl : j < P
          · obtain ⟨r, hr⟩ : ∃ r, r = mulR ⟨y0, y1, y2, y3, yn, yd, yo⟩ ⟨v0, v1, v2, v3, vn, vd, vo⟩ := ⟨_, rfl⟩
            have hcall := fun w => mul_any ⟨y0, y1, y2, y3, yn, yd, yo⟩ ⟨v0, v1, v2, v3, vn, vd, vo⟩ w
            rw [← hr] at hcall
            obtain ⟨⟨r0, r1, r2, r3, rn, rd, ro⟩, X⟩ := r
            have HC := Lib.hid hcall
            have HRe := Lib.hid hr
            clear hcall hr
            obtain ⟨a0, a1, a2, a3, a4, a5, a6, az⟩ := HU.out
            obtain ⟨f0, f1, f2, f3, f4, f5, f6⟩ := HF1.out
            go_wp2_with fail
            refine (HC.out _).mono ?_
            rintro e w2 ⟨rfl, hb⟩
            have HU2 := Lib.hid (HU.out.keep hb)
            have HR2 := Lib.hid (HR.out.keep hb)
            have HO2 := Lib.hid (own_keep HO.out hb)
            have HB2 := Lib.hid (HB.out.trans (hb.mono HB.out.size))
            have HF2 := Lib.hid (HF1.out.keep hb)
            clear hb a0 a1 a2 a3 a4 a5 a6 az f0 f1 f2 f3 f4 f5 f6
            by_cases hX : X = 0
            · subst hX
              have hk3 := (Below.refl w2.heap.size w2).alloc (Nat.le_refl _) (Obj.cells #[.int .i64 r0, .int .i64 r1, .int .i64 r2, .int .i64 r3, .int .i64 rn, .int .i64 rd, .int .i64 ro] 28)
              obtain ⟨a0, a1, a2, a3, a4, a5, a6, az⟩ := HU2.out.keep hk3
              go_wp2_with fail
              go_roundw
              case rel => exact ⟨j + 1, hjl, by go_num, Lib.hid ⟨⟨r0, r1, r2, r3, rn, rd, ro⟩, (HU2.out.keep hk3).set r0 r1 r2 r3 rn rd ro, (HR2.out.keep hk3).other HN0.out.2.2.1 r0 r1 r2 r3 rn rd ro, own_setUne (HO2.out.alloc _) HN0.out.1 r0 r1 r2 r3 rn rd ro, setU_below (HB2.out.alloc HB2.out.size _) HN0.out.2.2.2.1 r0 r1 r2 r3 rn rd ro, (HF2.out.keep hk3).other HN1.out.1.symm r0 r1 r2 r3 rn rd ro, HPw.out.trans (pow_step (Q := P - j) hjl HRe.out)⟩⟩
              case measure => simp [intOf]; omega
            · have hX2 : (X != 0) = true := by simpa using hX
              have HE := Lib.hid (show multR ⟨u0, u1, u2, u3, un, ud, uo⟩ fs = (zeroU, X) from HM.out.trans (mult_err HF.out (HPw.out.trans (pow_err hjl HRe.out hX)) hX))
              clear hX
              have HR3 := Lib.hid (HR2.out.keep ((Below.refl w2.heap.size w2).alloc (Nat.le_refl _) (Obj.cells #[.int .i64 r0, .int .i64 r1, .int .i64 r2, .int .i64 r3, .int .i64 rn, .int .i64 rd, .int .i64 ro] 28)))
              have HB3 := Lib.hid (HB2.out.alloc HB2.out.size (Obj.cells #[.int .i64 r0, .int .i64 r1, .int .i64 r2, .int .i64 r3, .int .i64 rn, .int .i64 rd, .int .i64 ro] 28))
              obtain ⟨a0, a1, a2, a3, a4, a5, a6, az⟩ := HR3.out
              go_wp2_with fail
              have hs := (HR3.out).set 0 0 0 0 0 0 0
              have y0 : ((((((((w2.alloc (Obj.cells #[.int .i64 r0, .int .i64 r1, .int .i64 r2, .int .i64 r3, .int .i64 rn, .int .i64 rd, .int .i64 ro] 28)).setCell ⟨R, 0, none⟩ (.int .i64 0)).setCell ⟨R, 1, none⟩ (.int .i64 0)).setCell ⟨R, 2, none⟩ (.int .i64 0)).setCell ⟨R, 3, none⟩ (.int .i64 0)).setCell ⟨R, 4, none⟩ (.int .i64 0)).setCell ⟨R, 5, none⟩ (.int .i64 0)).setCell ⟨R, 6, none⟩ (.int .i64 0)).cell? ⟨R, 0, none⟩ = some (.int .i64 0) := hs.c0
              have y1 : ((((((((w2.alloc (Obj.cells #[.int .i64 r0, .int .i64 r1, .int .i64 r2, .int .i64 r3, .int .i64 rn, .int .i64 rd, .int .i64 ro] 28)).setCell ⟨R, 0, none⟩ (.int .i64 0)).setCell ⟨R, 1, none⟩ (.int .i64 0)).setCell ⟨R, 2, none⟩ (.int .i64 0)).setCell ⟨R, 3, none⟩ (.int .i64 0)).setCell ⟨R, 4, none⟩ (.int .i64 0)).setCell ⟨R, 5, none⟩ (.int .i64 0)).setCell ⟨R, 6, none⟩ (.int .i64 0)).cell? ⟨R, 1, none⟩ = some (.int .i64 0) := hs.c1
              have y2 : ((((((((w2.alloc (Obj.cells #[.int .i64 r0, .int .i64 r1, .int .i64 r2, .int .i64 r3, .int .i64 rn, .int .i64 rd, .int .i64 ro] 28)).setCell ⟨R, 0, none⟩ (.int .i64 0)).setCell ⟨R, 1, none⟩ (.int .i64 0)).setCell ⟨R, 2, none⟩ (.int .i64 0)).setCell ⟨R, 3, none⟩ (.int .i64 0)).setCell ⟨R, 4, none⟩ (.int .i64 0)).setCell ⟨R, 5, none⟩ (.int .i64 0)).setCell ⟨R, 6, none⟩ (.int .i64 0)).cell? ⟨R, 2, none⟩ = some (.int .i64 0) := hs.c2
              have y3 : ((((((((w2.alloc (Obj.cells #[.int .i64 r0, .int .i64 r1, .int .i64 r2, .int .i64 r3, .int .i64 rn, .int .i64 rd, .int .i64 ro] 28)).setCell ⟨R, 0, none⟩ (.int .i64 0)).setCell ⟨R, 1, none⟩ (.int .i64 0)).setCell ⟨R, 2, none⟩ (.int .i64 0)).setCell ⟨R, 3, none⟩ (.int .i64 0)).setCell ⟨R, 4, none⟩ (.int .i64 0)).setCell ⟨R, 5, none⟩ (.int .i64 0)).setCell ⟨R, 6, none⟩ (.int .i64 0)).cell? ⟨R, 3, none⟩ = some (.int .i64 0) := hs.c3
              have y4 : ((((((((w2.alloc (Obj.cells #[.int .i64 r0, .int .i64 r1, .int .i64 r2, .int .i64 r3, .int .i64 rn, .int .i64 rd, .int .i64 ro] 28)).setCell ⟨R, 0, none⟩ (.int .i64 0)).setCell ⟨R, 1, none⟩ (.int .i64 0)).setCell ⟨R, 2, none⟩ (.int .i64 0)).setCell ⟨R, 3, none⟩ (.int .i64 0)).setCell ⟨R, 4, none⟩ (.int .i64 0)).setCell ⟨R, 5, none⟩ (.int .i64 0)).setCell ⟨R, 6, none⟩ (.int .i64 0)).cell? ⟨R, 4, none⟩ = some (.int .i64 0) := hs.c4
              have y5 : ((((((((w2.alloc (Obj.cells #[.int .i64 r0, .int .i64 r1, .int .i64 r2, .int .i64 r3, .int .i64 rn, .int .i64 rd, .int .i64 ro] 28)).setCell ⟨R, 0, none⟩ (.int .i64 0)).setCell ⟨R, 1, none⟩ (.int .i64 0)).setCell ⟨R, 2, none⟩ (.int .i64 0)).setCell ⟨R, 3, none⟩ (.int .i64 0)).setCell ⟨R, 4, none⟩ (.int .i64 0)).setCell ⟨R, 5, none⟩ (.int .i64 0)).setCell ⟨R, 6, none⟩ (.int .i64 0)).cell? ⟨R, 5, none⟩ = some (.int .i64 0) := hs.c5
              have y6 : ((((((((w2.alloc (Obj.cells #[.int .i64 r0, .int .i64 r1, .int .i64 r2, .int .i64 r3, .int .i64 rn, .int .i64 rd, .int .i64 ro] 28)).setCell ⟨R, 0, none⟩ (.int .i64 0)).setCell ⟨R, 1, none⟩ (.int .i64 0)).setCell ⟨R, 2, none⟩ (.int .i64 0)).setCell ⟨R, 3, none⟩ (.int .i64 0)).setCell ⟨R, 4, none⟩ (.int .i64 0)).setCell ⟨R, 5, none⟩ (.int .i64 0)).setCell ⟨R, 6, none⟩ (.int .i64 0)).cell? ⟨R, 6, none⟩ = some (.int .i64 0) := hs.c6
              (try simp only [Exit.inBlock, Exit.then])
              refine bodyPost_ret (by simp [results, Tryz.results37, go_sem, y0, y1, y2, y3, y4, y5, y6]; try rfl) rfl ?_
              exact ⟨by rw [HE.out]; rfl, setU_below HB3.out HN0.out.2.2.2.2 0 0 0 0 0 0 0⟩

          · obtain rfl : j = P := by omega
            go_wp2_with fail
            go_roundw
            case rel => exact ⟨k + 1, hlt, by go_num, Lib.hid ⟨⟨y0, y1, y2, y3, yn, yd, yo⟩, HU.out, HR.out, HO.out, HB.out, HM.out.trans (mult_step HF.out (by have := HPw.out; rwa [Nat.sub_self] at this))⟩⟩
            case measure => simp [intOf]; omega
      · go_wp2_with fail
        have hB2 := HB.out.alloc HB.out.size (Obj.cells #[.string nm, .int .i64 v0, .int .i64 v1, .int .i64 v2, .int .i64 v3, .int .i64 vn, .int .i64 vd, .int .i64 vo, .int .i64 P, .bool true] 88)
        have hk2 : Below wA.heap.size wA (wA.alloc (Obj.cells #[.string nm, .int .i64 v0, .int .i64 v1, .int .i64 v2, .int .i64 v3, .int .i64 vn, .int .i64 vd, .int .i64 vo, .int .i64 P, .bool true] 88)) := (Below.refl _ _).alloc (Nat.le_refl _) _
        have hU2 := HU.out.keep hk2
        have hR2 := HR.out.keep hk2
        have hO2 := HO.out.alloc (Obj.cells #[.string nm, .int .i64 v0, .int .i64 v1, .int .i64 v2, .int .i64 v3, .int .i64 vn, .int .i64 vd, .int .i64 vo, .int .i64 P, .bool true] 88)
        have hF2 := fact1_fresh wA nm v0 v1 v2 v3 vn vd vo P true
        obtain ⟨WB, hWB⟩ : ∃ x, x = wA.alloc (Obj.cells #[.string nm, .int .i64 v0, .int .i64 v1, .int .i64 v2, .int .i64 v3, .int .i64 vn, .int .i64 vd, .int .i64 vo, .int .i64 P, .bool true] 88) := ⟨_, rfl⟩
        obtain ⟨N, hN⟩ : ∃ x, x = wA.heap.size := ⟨_, rfl⟩
        have hNb : N ≠ b := by have := HU.out.lt; omega
        have hNR : N ≠ R := by have := HR.out.lt; omega
        rw [← hWB, ← hN]
        rw [← hWB] at hB2 hU2 hR2 hO2 hF2
        rw [← hN] at hF2
        have HS := Lib.hid (And.intro hU2 (And.intro hR2 (And.intro hO2 (And.intro hB2 hF2))))
        have HN1 := Lib.hid (And.intro hNb hNR)
        clear hB2 hk2 hU2 hR2 hO2 hF2 hWB hN hNb hNR q0 q1 q2 q3 q4 q5 q6 q7 q8 q9 HB HU HR HO
        go_loopw [21] (fun i wr => ∃ j : Nat, j ≤ P ∧ i = .int .i64 j ∧ Hid (∃ y : UnitD, UnitAt wr b y.e0 y.e1 y.e2 y.e3 y.n y.d y.o ∧ UnitAt wr R 0 0 0 0 0 0 0 ∧ wr.ownsRow base 88 10 (.slice (some ⟨g, 0, none⟩) n cap) n (rowsC fs) ∧ Below w.heap.size w wr ∧ Fact1 wr N v0 v1 v2 v3 vn vd vo ∧ powR ⟨x0, x1, x2, x3, xn, xd, xo⟩ ⟨v0, v1, v2, v3, vn, vd, vo⟩ true P = powR y ⟨v0, v1, v2, v3, vn, vd, vo⟩ true (P - j))) (fun i _ => P - (intOf i).toNat)
        case atStart => exact ⟨0, Nat.zero_le _, rfl, Lib.hid ⟨⟨x0, x1, x2, x3, xn, xd, xo⟩, HS.out.1, HS.out.2.1, HS.out.2.2.1, HS.out.2.2.2.1, HS.out.2.2.2.2, rfl⟩⟩
        case round =>
          obtain ⟨j, hj, rfl, HH⟩ := hrel
          obtain ⟨⟨y0, y1, y2, y3, yn, yd, yo⟩, hu, hr, ho, hbl, hf1, hpw2⟩ := HH.out
          have HU := Lib.hid hu
          have HR := Lib.hid hr
          have HO := Lib.hid ho
          have HB := Lib.hid hbl
          have HF1 := Lib.hid hf1
          have HPw := Lib.hid hpw2
          clear hu hr ho hbl hf1 hpw2 HH HS
          by_cases hjl : j < P
          · obtain ⟨r, hr⟩ : ∃ r, r = divR ⟨y0, y1, y2, y3, yn, yd, yo⟩ ⟨v0, v1, v2, v3, vn, vd, vo⟩ := ⟨_, rfl⟩
            have hcall := fun w => div_any ⟨y0, y1, y2, y3, yn, yd, yo⟩ ⟨v0, v1, v2, v3, vn, vd, vo⟩ w
            rw [← hr] at hcall
            obtain ⟨⟨r0, r1, r2, r3, rn, rd, ro⟩, X⟩ := r
            have HC := Lib.hid hcall
            have HRe := Lib.hid hr
            clear hcall hr
            obtain ⟨a0, a1, a2, a3, a4, a5, a6, az⟩ := HU.out
            obtain ⟨f0, f1, f2, f3, f4, f5, f6⟩ := HF1.out
            go_wp2_with fail
            refine (HC.out _).mono ?_
            rintro e w2 ⟨rfl, hb⟩
            have HU2 := Lib.hid (HU.out.keep hb)
            have HR2 := Lib.hid (HR.out.keep hb)
            have HO2 := Lib.hid (own_keep HO.out hb)
            have HB2 := Lib.hid (HB.out.trans (hb.mono HB.out.size))
            have HF2 := Lib.hid (HF1.out.keep hb)
            clear hb a0 a1 a2 a3 a4 a5 a6 az f0 f1 f2 f3 f4 f5 f6
            by_cases hX : X = 0
            · subst hX
              have hk3 := (Below.refl w2.heap.size w2).alloc (Nat.le_refl _) (Obj.cells #[.int .i64 r0, .int .i64 r1, .int .i64 r2, .int .i64 r3, .int .i64 rn, .int .i64 rd, .int .i64 ro] 28)
              obtain ⟨a0, a1, a2, a3, a4, a5, a6, az⟩ := HU2.out.keep hk3
              go_wp2_with fail
              go_roundw
              case rel => exact ⟨j + 1, hjl, by go_num, Lib.hid ⟨⟨r0, r1, r2, r3, rn, rd, ro⟩, (HU2.out.keep hk3).set r0 r1 r2 r3 rn rd ro, (HR2.out.keep hk3).other HN0.out.2.2.1 r0 r1 r2 r3 rn rd ro, own_setUne (HO2.out.alloc _) HN0.out.1 r0 r1 r2 r3 rn rd ro, setU_below (HB2.out.alloc HB2.out.size _) HN0.out.2.2.2.1 r0 r1 r2 r3 rn rd ro, (HF2.out.keep hk3).other HN1.out.1.symm r0 r1 r2 r3 rn rd ro, HPw.out.trans (pow_step (Q := P - j) hjl HRe.out)⟩⟩
              case measure => simp [intOf]; omega
            · have hX2 : (X != 0) = true := by simpa using hX
              have HE := Lib.hid (show multR ⟨u0, u1, u2, u3, un, ud, uo⟩ fs = (zeroU, X) from HM.out.trans (mult_err HF.out (HPw.out.trans (pow_err hjl HRe.out hX)) hX))
              clear hX
              have HR3 := Lib.hid (HR2.out.keep ((Below.refl w2.heap.size w2).alloc (Nat.le_refl _) (Obj.cells #[.int .i64 r0, .int .i64 r1, .int .i64 r2, .int .i64 r3, .int .i64 rn, .int .i64 rd, .int .i64 ro] 28)))
              have HB3 := Lib.hid (HB2.out.alloc HB2.out.size (Obj.cells #[.int .i64 r0, .int .i64 r1, .int .i64 r2, .int .i64 r3, .int .i64 rn, .int .i64 rd, .int .i64 ro] 28))
              obtain ⟨a0, a1, a2, a3, a4, a5, a6, az⟩ := HR3.out
              go_wp2_with fail
              have hs := (HR3.out).set 0 0 0 0 0 0 0
              have y0 : ((((((((w2.alloc (Obj.cells #[.int .i64 r0, .int .i64 r1, .int .i64 r2, .int .i64 r3, .int .i64 rn, .int .i64 rd, .int .i64 ro] 28)).setCell ⟨R, 0, none⟩ (.int .i64 0)).setCell ⟨R, 1, none⟩ (.int .i64 0)).setCell ⟨R, 2, none⟩ (.int .i64 0)).setCell ⟨R, 3, none⟩ (.int .i64 0)).setCell ⟨R, 4, none⟩ (.int .i64 0)).setCell ⟨R, 5, none⟩ (.int .i64 0)).setCell ⟨R, 6, none⟩ (.int .i64 0)).cell? ⟨R, 0, none⟩ = some (.int .i64 0) := hs.c0
              have y1 : ((((((((w2.alloc (Obj.cells #[.int .i64 r0, .int .i64 r1, .int .i64 r2, .int .i64 r3, .int .i64 rn, .int .i64 rd, .int .i64 ro] 28)).setCell ⟨R, 0, none⟩ (.int .i64 0)).setCell ⟨R, 1, none⟩ (.int .i64 0)).setCell ⟨R, 2, none⟩ (.int .i64 0)).setCell ⟨R, 3, none⟩ (.int .i64 0)).setCell ⟨R, 4, none⟩ (.int .i64 0)).setCell ⟨R, 5, none⟩ (.int .i64 0)).setCell ⟨R, 6, none⟩ (.int .i64 0)).cell? ⟨R, 1, none⟩ = some (.int .i64 0) := hs.c1
              have y2 : ((((((((w2.alloc (Obj.cells #[.int .i64 r0, .int .i64 r1, .int .i64 r2, .int .i64 r3, .int .i64 rn, .int .i64 rd, .int .i64 ro] 28)).setCell ⟨R, 0, none⟩ (.int .i64 0)).setCell ⟨R, 1, none⟩ (.int .i64 0)).setCell ⟨R, 2, none⟩ (.int .i64 0)).setCell ⟨R, 3, none⟩ (.int .i64 0)).setCell ⟨R, 4, none⟩ (.int .i64 0)).setCell ⟨R, 5, none⟩ (.int .i64 0)).setCell ⟨R, 6, none⟩ (.int .i64 0)).cell? ⟨R, 2, none⟩ = some (.int .i64 0) := hs.c2
              have y3 : ((((((((w2.alloc (Obj.cells #[.int .i64 r0, .int .i64 r1, .int .i64 r2, .int .i64 r3, .int .i64 rn, .int .i64 rd, .int .i64 ro] 28)).setCell ⟨R, 0, none⟩ (.int .i64 0)).setCell ⟨R, 1, none⟩ (.int .i64 0)).setCell ⟨R, 2, none⟩ (.int .i64 0)).setCell ⟨R, 3, none⟩ (.int .i64 0)).setCell ⟨R, 4, none⟩ (.int .i64 0)).setCell ⟨R, 5, none⟩ (.int .i64 0)).setCell ⟨R, 6, none⟩ (.int .i64 0)).cell? ⟨R, 3, none⟩ = some (.int .i64 0) := hs.c3
              have y4 : ((((((((w2.alloc (Obj.cells #[.int .i64 r0, .int .i64 r1, .int .i64 r2, .int .i64 r3, .int .i64 rn, .int .i64 rd, .int .i64 ro] 28)).setCell ⟨R, 0, none⟩ (.int .i64 0)).setCell ⟨R, 1, none⟩ (.int .i64 0)).setCell ⟨R, 2, none⟩ (.int .i64 0)).setCell ⟨R, 3, none⟩ (.int .i64 0)).setCell ⟨R, 4, none⟩ (.int .i64 0)).setCell ⟨R, 5, none⟩ (.int .i64 0)).setCell ⟨R, 6, none⟩ (.int .i64 0)).cell? ⟨R, 4, none⟩ = some (.int .i64 0) := hs.c4
              have y5 : ((((((((w2.alloc (Obj.cells #[.int .i64 r0, .int .i64 r1, .int .i64 r2, .int .i64 r3, .int .i64 rn, .int .i64 rd, .int .i64 ro] 28)).setCell ⟨R, 0, none⟩ (.int .i64 0)).setCell ⟨R, 1, none⟩ (.int .i64 0)).setCell ⟨R, 2, none⟩ (.int .i64 0)).setCell ⟨R, 3, none⟩ (.int .i64 0)).setCell ⟨R, 4, none⟩ (.int .i64 0)).setCell ⟨R, 5, none⟩ (.int .i64 0)).setCell ⟨R, 6, none⟩ (.int .i64 0)).cell? ⟨R, 5, none⟩ = some (.int .i64 0) := hs.c5
              have y6 : ((((((((w2.alloc (Obj.cells #[.int .i64 r0, .int .i64 r1, .int .i64 r2, .int .i64 r3, .int .i64 rn, .int .i64 rd, .int .i64 ro] 28)).setCell ⟨R, 0, none⟩ (.int .i64 0)).setCell ⟨R, 1, none⟩ (.int .i64 0)).setCell ⟨R, 2, none⟩ (.int .i64 0)).setCell ⟨R, 3, none⟩ (.int .i64 0)).setCell ⟨R, 4, none⟩ (.int .i64 0)).setCell ⟨R, 5, none⟩ (.int .i64 0)).setCell ⟨R, 6, none⟩ (.int .i64 0)).cell? ⟨R, 6, none⟩ = some (.int .i64 0) := hs.c6
              (try simp only [Exit.inBlock, Exit.then])
              refine bodyPost_ret (by simp [results, Tryz.results37, go_sem, y0, y1, y2, y3, y4, y5, y6]; try rfl) rfl ?_
              exact ⟨by rw [HE.out]; rfl, setU_below HB3.out HN0.out.2.2.2.2 0 0 0 0 0 0 0⟩

          · obtain rfl : j = P := by omega
            go_wp2_with fail
            go_roundw
            case rel => exact ⟨k + 1, hlt, by go_num, Lib.hid ⟨⟨y0, y1, y2, y3, yn, yd, yo⟩, HU.out, HR.out, HO.out, HB.out, HM.out.trans (mult_step HF.out (by have := HPw.out; rwa [Nat.sub_self] at this))⟩⟩
            case measure => simp [intOf]; omega
    · obtain rfl : k = n := by omega
      have HE := Lib.hid (show multR ⟨u0, u1, u2, u3, un, ud, uo⟩ fs = (⟨x0, x1, x2, x3, xn, xd, xo⟩, 0) by have := HM.out; rwa [HN.out, List.drop_length] at this)
      obtain ⟨a0, a1, a2, a3, a4, a5, a6, az⟩ := HU.out
      obtain ⟨r0, r1, r2, r3, r4, r5, r6, rz⟩ := HR.out
      go_wp2_with fail
      have hs := (HR.out).set x0 x1 x2 x3 xn xd xo
      have y0 : (((((((wA.setCell ⟨R, 0, none⟩ (.int .i64 x0)).setCell ⟨R, 1, none⟩ (.int .i64 x1)).setCell ⟨R, 2, none⟩ (.int .i64 x2)).setCell ⟨R, 3, none⟩ (.int .i64 x3)).setCell ⟨R, 4, none⟩ (.int .i64 xn)).setCell ⟨R, 5, none⟩ (.int .i64 xd)).setCell ⟨R, 6, none⟩ (.int .i64 xo)).cell? ⟨R, 0, none⟩ = some (.int .i64 x0) := hs.c0
      have y1 : (((((((wA.setCell ⟨R, 0, none⟩ (.int .i64 x0)).setCell ⟨R, 1, none⟩ (.int .i64 x1)).setCell ⟨R, 2, none⟩ (.int .i64 x2)).setCell ⟨R, 3, none⟩ (.int .i64 x3)).setCell ⟨R, 4, none⟩ (.int .i64 xn)).setCell ⟨R, 5, none⟩ (.int .i64 xd)).setCell ⟨R, 6, none⟩ (.int .i64 xo)).cell? ⟨R, 1, none⟩ = some (.int .i64 x1) := hs.c1
      have y2 : (((((((wA.setCell ⟨R, 0, none⟩ (.int .i64 x0)).setCell ⟨R, 1, none⟩ (.int .i64 x1)).setCell ⟨R, 2, none⟩ (.int .i64 x2)).setCell ⟨R, 3, none⟩ (.int .i64 x3)).setCell ⟨R, 4, none⟩ (.int .i64 xn)).setCell ⟨R, 5, none⟩ (.int .i64 xd)).setCell ⟨R, 6, none⟩ (.int .i64 xo)).cell? ⟨R, 2, none⟩ = some (.int .i64 x2) := hs.c2
      have y3 : (((((((wA.setCell ⟨R, 0, none⟩ (.int .i64 x0)).setCell ⟨R, 1, none⟩ (.int .i64 x1)).setCell ⟨R, 2, none⟩ (.int .i64 x2)).setCell ⟨R, 3, none⟩ (.int .i64 x3)).setCell ⟨R, 4, none⟩ (.int .i64 xn)).setCell ⟨R, 5, none⟩ (.int .i64 xd)).setCell ⟨R, 6, none⟩ (.int .i64 xo)).cell? ⟨R, 3, none⟩ = some (.int .i64 x3) := hs.c3
      have y4 : (((((((wA.setCell ⟨R, 0, none⟩ (.int .i64 x0)).setCell ⟨R, 1, none⟩ (.int .i64 x1)).setCell ⟨R, 2, none⟩ (.int .i64 x2)).setCell ⟨R, 3, none⟩ (.int .i64 x3)).setCell ⟨R, 4, none⟩ (.int .i64 xn)).setCell ⟨R, 5, none⟩ (.int .i64 xd)).setCell ⟨R, 6, none⟩ (.int .i64 xo)).cell? ⟨R, 4, none⟩ = some (.int .i64 xn) := hs.c4
      have y5 : (((((((wA.setCell ⟨R, 0, none⟩ (.int .i64 x0)).setCell ⟨R, 1, none⟩ (.int .i64 x1)).setCell ⟨R, 2, none⟩ (.int .i64 x2)).setCell ⟨R, 3, none⟩ (.int .i64 x3)).setCell ⟨R, 4, none⟩ (.int .i64 xn)).setCell ⟨R, 5, none⟩ (.int .i64 xd)).setCell ⟨R, 6, none⟩ (.int .i64 xo)).cell? ⟨R, 5, none⟩ = some (.int .i64 xd) := hs.c5
      have y6 : (((((((wA.setCell ⟨R, 0, none⟩ (.int .i64 x0)).setCell ⟨R, 1, none⟩ (.int .i64 x1)).setCell ⟨R, 2, none⟩ (.int .i64 x2)).setCell ⟨R, 3, none⟩ (.int .i64 x3)).setCell ⟨R, 4, none⟩ (.int .i64 xn)).setCell ⟨R, 5, none⟩ (.int .i64 xd)).setCell ⟨R, 6, none⟩ (.int .i64 xo)).cell? ⟨R, 6, none⟩ = some (.int .i64 xo) := hs.c6
      (try simp only [Exit.inBlock, Exit.then])
      refine bodyPost_ret (by simp [results, Tryz.results37, go_sem, y0, y1, y2, y3, y4, y5, y6]; try rfl) rfl ?_
      exact ⟨by rw [HE.out], setU_below HB.out HN0.out.2.2.2.2 x0 x1 x2 x3 xn xd xo⟩

theorem multiply_any (u : UnitD) (fs : List FactD) (g cap base : Nat) (w : World) (hn : fs.length ≤ 1000) (ho : w.ownsRow base 88 10 (.slice (some ⟨g, 0, none⟩) fs.length cap) fs.length (rowsC fs)) (hpw : ∀ f ∈ fs, ∃ P : Nat, f.p = (P : Int) ∧ P ≤ 9) :
    Calls Tryz.prog 37 #[unitV u, .slice (some ⟨g, 0, none⟩) fs.length cap] w fun e w' => e = .returned (pairU (multR u fs)) ∧ Below w.heap.size w w' :=
  mult_core u.e0 u.e1 u.e2 u.e3 u.n u.d u.o fs fs.length g cap base w (Lib.hid rfl) hn (Lib.hid ho) hpw
end Go.Proofs.YtlahoohgbfjciaaGreatDoor
