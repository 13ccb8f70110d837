/- The contract of units.powers. -/
import Derived.Test.YtlahoohgbfjciaaGreatDoorVa
import Derived.OwnWalk
namespace Go.Proofs.YtlahoohgbfjciaaGreatDoor
open Go.RowKit Go.Shelf

theorem infoStr : (Tryz.prog.info? 9).map (fun i => (i.zero, i.size, i.bytes)) = some (some (.string ⟨#[]⟩), 1, 16) := by kernel_rfl
theorem grown_of_below {w w' : World} (h : Below w.heap.size w w') : w.grownBy w' none := ⟨h.os, h.tape, h.output, h.size, fun k hk _ => h.block k hk⟩
theorem own_keep {w w' : World} {B e sz : Nat} {v : Value} {n : Nat} {xs : List Value} (h : w.ownsRow B e sz v n xs) (hb : Below w.heap.size w w') : w'.ownsRow B e sz v n xs :=
  h.kept (grown_of_below hb) (by cases v.ownBlock <;> simp)
theorem unit_grown {w w' : World} {R : Nat} {row : Option Nat} {p0 p1 p2 p3 pn pd po : Int} (t : UnitAt w R p0 p1 p2 p3 pn pd po) (h : w.grownBy w' row) (hne : some R ≠ row) : UnitAt w' R p0 p1 p2 p3 pn pd po := by
  have hb := h.block R t.lt hne
  have hc : ∀ k, w'.cell? ⟨R, k, none⟩ = w.cell? ⟨R, k, none⟩ := fun k => World.cell?_of_block (a := ⟨R, k, none⟩) hb
  exact ⟨(hc 0).trans t.c0, (hc 1).trans t.c1, (hc 2).trans t.c2, (hc 3).trans t.c3, (hc 4).trans t.c4, (hc 5).trans t.c5, (hc 6).trans t.c6, fun o => (World.frozen?_of_block (a := ⟨R, o, none⟩) hb).trans (t.fz o)⟩
/-- the factor of a base unit whose exponent is n, if n is positive -/
def facB (n : Int) (c : UInt8) : List ByteArray := if n = 1 then [⟨#[c]⟩] else if 1 < n then [⟨#[c]⟩ ++ ⟨(Lib.itoa n).toArray⟩] else []
def facsB (u : UnitD) (sg : Int) : Nat → List ByteArray
  | 0 => []
  | 1 => facB (sg * u.e0) 109
  | 2 => facB (sg * u.e0) 109 ++ facB (sg * u.e1) 103
  | 3 => facB (sg * u.e0) 109 ++ facB (sg * u.e1) 103 ++ facB (sg * u.e2) 115
  | _ => facB (sg * u.e0) 109 ++ facB (sg * u.e1) 103 ++ facB (sg * u.e2) 115 ++ facB (sg * u.e3) 75
theorem facs_step0 {p0 p1 p2 p3 pn pd po sg : Int} {X : ByteArray} (h : facB (sg * p0) 109 = [X]) : facsB ⟨p0, p1, p2, p3, pn, pd, po⟩ sg 0 ++ [X] = facsB ⟨p0, p1, p2, p3, pn, pd, po⟩ sg 1 := by rw [← h]; rfl
theorem facs_none0 {p0 p1 p2 p3 pn pd po sg : Int} (h : facB (sg * p0) 109 = []) : facsB ⟨p0, p1, p2, p3, pn, pd, po⟩ sg 0 = facsB ⟨p0, p1, p2, p3, pn, pd, po⟩ sg 1 := by
  rw [show facsB ⟨p0, p1, p2, p3, pn, pd, po⟩ sg 0 = [] from rfl, show facsB ⟨p0, p1, p2, p3, pn, pd, po⟩ sg 1 = facB (sg * p0) 109 from rfl, h]
theorem facs_step1 {p0 p1 p2 p3 pn pd po sg : Int} {X : ByteArray} (h : facB (sg * p1) 103 = [X]) : facsB ⟨p0, p1, p2, p3, pn, pd, po⟩ sg 1 ++ [X] = facsB ⟨p0, p1, p2, p3, pn, pd, po⟩ sg 2 := by rw [← h]; rfl
theorem facs_none1 {p0 p1 p2 p3 pn pd po sg : Int} (h : facB (sg * p1) 103 = []) : facsB ⟨p0, p1, p2, p3, pn, pd, po⟩ sg 1 = facsB ⟨p0, p1, p2, p3, pn, pd, po⟩ sg 2 := by
  rw [show facsB ⟨p0, p1, p2, p3, pn, pd, po⟩ sg 2 = facsB ⟨p0, p1, p2, p3, pn, pd, po⟩ sg 1 ++ facB (sg * p1) 103 from rfl, h, List.append_nil]
theorem facs_step2 {p0 p1 p2 p3 pn pd po sg : Int} {X : ByteArray} (h : facB (sg * p2) 115 = [X]) : facsB ⟨p0, p1, p2, p3, pn, pd, po⟩ sg 2 ++ [X] = facsB ⟨p0, p1, p2, p3, pn, pd, po⟩ sg 3 := by rw [← h]; rfl
theorem facs_none2 {p0 p1 p2 p3 pn pd po sg : Int} (h : facB (sg * p2) 115 = []) : facsB ⟨p0, p1, p2, p3, pn, pd, po⟩ sg 2 = facsB ⟨p0, p1, p2, p3, pn, pd, po⟩ sg 3 := by
  rw [show facsB ⟨p0, p1, p2, p3, pn, pd, po⟩ sg 3 = facsB ⟨p0, p1, p2, p3, pn, pd, po⟩ sg 2 ++ facB (sg * p2) 115 from rfl, h, List.append_nil]
theorem facs_step3 {p0 p1 p2 p3 pn pd po sg : Int} {X : ByteArray} (h : facB (sg * p3) 75 = [X]) : facsB ⟨p0, p1, p2, p3, pn, pd, po⟩ sg 3 ++ [X] = facsB ⟨p0, p1, p2, p3, pn, pd, po⟩ sg 4 := by rw [← h]; rfl
theorem facs_none3 {p0 p1 p2 p3 pn pd po sg : Int} (h : facB (sg * p3) 75 = []) : facsB ⟨p0, p1, p2, p3, pn, pd, po⟩ sg 3 = facsB ⟨p0, p1, p2, p3, pn, pd, po⟩ sg 4 := by
  rw [show facsB ⟨p0, p1, p2, p3, pn, pd, po⟩ sg 4 = facsB ⟨p0, p1, p2, p3, pn, pd, po⟩ sg 3 ++ facB (sg * p3) 75 from rfl, h, List.append_nil]
theorem itoa_S (n : Int) (h0 : -9 ≤ n) (h1 : n ≤ 9) (w : World) (ht : Tab w) :
    Calls Tryz.prog 52 #[.int .i64 n] w fun e w' => e = .returned (.string ⟨(Lib.itoa n).toArray⟩) ∧ Below w.heap.size w w' := by
  refine (Tryz.strconv_Itoa n (by omega) (by omega) w ht).mono ?_
  rintro e w' ⟨rfl, k, os, rfl⟩
  exact ⟨rfl, Go.Lib.below_grow _ _ (Nat.le_refl _) _ _⟩
/-- what a round meets -/
def Meets (n m : Int) (c : UInt8) (S : ByteArray) : Prop := (n = 1 ∧ facB m c = [⟨#[c]⟩]) ∨ (1 < n ∧ facB m c = [⟨#[c]⟩ ++ S] ∧ (∀ w, Tab w → Calls Tryz.prog 52 #[.int .i64 n] w fun e w' => e = .returned (.string S) ∧ Below w.heap.size w w') ∧ S.size ≤ 1000) ∨ (¬ n = 1 ∧ ¬ 1 < n ∧ facB m c = [])
theorem meets (n : Int) (c : UInt8) (h0 : -9 ≤ n) (h1 : n ≤ 9) : Meets n n c ⟨(Lib.itoa n).toArray⟩ := by
  unfold Meets facB
  by_cases h : n = 1
  · exact .inl ⟨h, if_pos h⟩
  · by_cases h2 : 1 < n
    · exact .inr (.inl ⟨h2, by rw [if_neg h, if_pos h2], fun w ht => itoa_S n h0 h1 w ht, by rw [size_mk]; have := Lib.itoa_length_le n (by omega) (by omega); omega⟩)
    · exact .inr (.inr ⟨h, h2, by rw [if_neg h, if_neg h2]⟩)

theorem sidx0 (w : World) : (Instr.index 92 (.agg #[.string ⟨#[109]⟩, .string ⟨#[103]⟩, .string ⟨#[115]⟩, .string ⟨#[75]⟩]) (.int .i64 0)).run Tryz.prog w = .ok (.string ⟨#[109]⟩) w := by kernel_rfl
theorem sidx1 (w : World) : (Instr.index 92 (.agg #[.string ⟨#[109]⟩, .string ⟨#[103]⟩, .string ⟨#[115]⟩, .string ⟨#[75]⟩]) (.int .i64 1)).run Tryz.prog w = .ok (.string ⟨#[103]⟩) w := by kernel_rfl
theorem sidx2 (w : World) : (Instr.index 92 (.agg #[.string ⟨#[109]⟩, .string ⟨#[103]⟩, .string ⟨#[115]⟩, .string ⟨#[75]⟩]) (.int .i64 2)).run Tryz.prog w = .ok (.string ⟨#[115]⟩) w := by kernel_rfl
theorem sidx3 (w : World) : (Instr.index 92 (.agg #[.string ⟨#[109]⟩, .string ⟨#[103]⟩, .string ⟨#[115]⟩, .string ⟨#[75]⟩]) (.int .i64 3)).run Tryz.prog w = .ok (.string ⟨#[75]⟩) w := by kernel_rfl

set_option maxRecDepth 100000 in
set_option maxHeartbeats 4000000 in
theorem powers_core (p0 p1 p2 p3 pn pd po sg n0 n1 n2 n3 : Int) (S0 S1 S2 S3 : ByteArray) (w : World) (hg : Gu w) (k0 : IntKind.i64.wrap (sg * p0) = n0) (k1 : IntKind.i64.wrap (sg * p1) = n1) (k2 : IntKind.i64.wrap (sg * p2) = n2) (k3 : IntKind.i64.wrap (sg * p3) = n3) (l0 : wrap64 (sg * p0) = n0) (l1 : wrap64 (sg * p1) = n1) (l2 : wrap64 (sg * p2) = n2) (l3 : wrap64 (sg * p3) = n3)
    (HN0 : Hid (Meets n0 (sg * p0) 109 S0)) (HN1 : Hid (Meets n1 (sg * p1) 103 S1)) (HN2 : Hid (Meets n2 (sg * p2) 115 S2)) (HN3 : Hid (Meets n3 (sg * p3) 75 S3)) (HJL : Hid ((Lib.join ((facsB ⟨p0, p1, p2, p3, pn, pd, po⟩ sg 4).map (·.data.toList)) [46]).length ≤ 140737488355328)) :
    Calls Tryz.prog 41 #[.agg #[.int .i64 p0, .int .i64 p1, .int .i64 p2, .int .i64 p3, .int .i64 pn, .int .i64 pd, .int .i64 po], .int .i64 sg] w fun e w' => e = .returned (.string ⟨(Lib.join ((facsB ⟨p0, p1, p2, p3, pn, pd, po⟩ sg 4).map (·.data.toList)) [46]).toArray⟩) ∧ Below w.heap.size w w' := by
  have j0 := sidx0
  have j1 := sidx1
  have j2 := sidx2
  have j3 := sidx3
  obtain ⟨i0, hi, hz0, hz1, hz2⟩ := info_parts infoStr
  go_enter Tryz.func41, Tryz.ntmps41
  go_wp2_with fail
  obtain ⟨W, R, hW, hR, hwR, R1, B1⟩ := box_unit w p0 p1 p2 p3 pn pd po
  rw [← hW]
  try rw [← hR]
  have HR0 := Lib.hid R1
  have HB0 := Lib.hid B1
  have HGu := Lib.hid hg
  clear hW hR R1 B1 hg
  go_loopw [10, 5] (fun i v wr => (i = .int .i64 0 ∧ ∃ xs : List ByteArray, Hid (xs = facsB ⟨p0, p1, p2, p3, pn, pd, po⟩ sg 0 ∧ wr.ownsRow (R + 1) 9 1 v xs.length (xs.map Value.string) ∧ UnitAt wr R p0 p1 p2 p3 pn pd po ∧ Below w.heap.size w wr ∧ xs.length ≤ 0)) ∨ (i = .int .i64 1 ∧ ∃ xs : List ByteArray, Hid (xs = facsB ⟨p0, p1, p2, p3, pn, pd, po⟩ sg 1 ∧ wr.ownsRow (R + 1) 9 1 v xs.length (xs.map Value.string) ∧ UnitAt wr R p0 p1 p2 p3 pn pd po ∧ Below w.heap.size w wr ∧ xs.length ≤ 1)) ∨ (i = .int .i64 2 ∧ ∃ xs : List ByteArray, Hid (xs = facsB ⟨p0, p1, p2, p3, pn, pd, po⟩ sg 2 ∧ wr.ownsRow (R + 1) 9 1 v xs.length (xs.map Value.string) ∧ UnitAt wr R p0 p1 p2 p3 pn pd po ∧ Below w.heap.size w wr ∧ xs.length ≤ 2)) ∨ (i = .int .i64 3 ∧ ∃ xs : List ByteArray, Hid (xs = facsB ⟨p0, p1, p2, p3, pn, pd, po⟩ sg 3 ∧ wr.ownsRow (R + 1) 9 1 v xs.length (xs.map Value.string) ∧ UnitAt wr R p0 p1 p2 p3 pn pd po ∧ Below w.heap.size w wr ∧ xs.length ≤ 3)) ∨ (i = .int .i64 4 ∧ ∃ xs : List ByteArray, Hid (xs = facsB ⟨p0, p1, p2, p3, pn, pd, po⟩ sg 4 ∧ wr.ownsRow (R + 1) 9 1 v xs.length (xs.map Value.string) ∧ UnitAt wr R p0 p1 p2 p3 pn pd po ∧ Below w.heap.size w wr ∧ xs.length ≤ 4))) (fun i _ _ => 4 - (intOf i).toNat)
  case atStart => exact .inl ⟨rfl, [], Lib.hid ⟨rfl, World.ownsRow_nil _ _ _ _, HR0.out, HB0.out, Nat.le_refl _⟩⟩
  case round =>
    rcases hrel with ⟨rfl, HX⟩ | ⟨rfl, HX⟩ | ⟨rfl, HX⟩ | ⟨rfl, HX⟩ | ⟨rfl, HX⟩
    · obtain ⟨xs, HH⟩ := HX
      obtain ⟨hx, ho, hu, hb, hl⟩ := HH.out
      have HO := Lib.hid ho
      have HU := Lib.hid hu
      have HB := Lib.hid hb
      have HL := Lib.hid hl
      have HXS := Lib.hid hx
      clear ho hu hb hl hx HH
      have q0 := HU.out.c0
      have qz := HU.out.fz
      rcases HN0.out with ⟨hn, hfac⟩ | ⟨hn, hfac, hfo, hsz⟩ | ⟨hn1, hn2, hfac⟩
      · have t0 : (n0 == 1) = true := by rw [hn]; rfl
        have HF := Lib.hid hfac
        clear hn hfac
        go_wp2_with (at_builtin; refine wpList_append_own _ rfl _ _ 91 rfl (R + 1) 9 i0 (.string ⟨#[]⟩) 1 16 Tryz.underlying91 hi hz0 hz1 hz2 rfl (by decide) _ _ _ rfl (HO.out.alloc _) ⟨wr.heap.size, 0, none⟩ 1 1 [.string ((⟨#[109]⟩ : ByteArray))] rfl rfl ?c1 ?c2 ?c3 ?c4 ?c5 ?_)
        case c1 => intro j u hj; cases j with | zero => simp at hj; subst hj; simp [Addr.add] | succ j => simp at hj
        case c2 => intro u hu; simp at hu; subst hu; rfl
        case c3 => have := HL.out; unfold maxLen; omega
        case c4 => have := HL.out; omega
        case c5 => have := HU.out.lt; simp; omega
        intro v' w4 hown4 hgrow _
        have hlt4 := (HO.out.alloc (.cells #[.string ((⟨#[109]⟩ : ByteArray))] 9)).lt
        have B4 := Lib.hid ((HB.out.alloc HB.out.size (.cells #[.string ((⟨#[109]⟩ : ByteArray))] 9)).grown hgrow (by have := HB.out.size; simp; omega) (fun k hk => by have := hlt4 k hk; omega))
        have U4 := Lib.hid (unit_grown (HU.out.keep ((Below.refl _ _).alloc (Nat.le_refl _) (.cells #[.string ((⟨#[109]⟩ : ByteArray))] 9))) hgrow (fun h => by have := (hlt4 R h.symm).1; omega))
        have O4 := Lib.hid (show w4.ownsRow (R + 1) 9 1 v' (xs ++ [(⟨#[109]⟩ : ByteArray)]).length ((xs ++ [(⟨#[109]⟩ : ByteArray)]).map Value.string) by rw [List.length_append, List.map_append]; exact hown4)
        clear hown4 hgrow hlt4
        go_wp2_with fail
        go_roundw
        case rel => exact .inr (.inl ⟨rfl, xs ++ [(⟨#[109]⟩ : ByteArray)], Lib.hid ⟨by rw [HXS.out]; exact facs_step0 HF.out, O4.out, U4.out, B4.out, by have := HL.out; (try rw [List.length_append, List.length_singleton]); omega⟩⟩)
        case measure => simp [intOf]
      · have t0 : (n0 == 1) = false := by rw [beq_eq_false_iff_ne]; omega
        have t1 : decide (1 < n0) = true := decide_eq_true hn
        have HF := Lib.hid hfac
        have HIt := Lib.hid hfo
        have g1 : ¬ 9223372036854775807 < 1 + S0.size := by omega
        clear hn hfac hfo hsz
        go_wp2_with fail
        refine (HIt.out _ (HGu.out.below HB.out).tab).mono ?_
        rintro e w3 ⟨rfl, hb⟩
        have O3 := Lib.hid (own_keep HO.out hb)
        have U3 := Lib.hid (HU.out.keep hb)
        have B3 := Lib.hid (HB.out.trans (hb.mono HB.out.size))
        clear hb q0 qz
        go_wp2_with (at_builtin; refine wpList_append_own _ rfl _ _ 91 rfl (R + 1) 9 i0 (.string ⟨#[]⟩) 1 16 Tryz.underlying91 hi hz0 hz1 hz2 rfl (by decide) _ _ _ rfl (O3.out.alloc _) ⟨w3.heap.size, 0, none⟩ 1 1 [.string ((⟨#[109]⟩ : ByteArray) ++ S0)] rfl rfl ?c1 ?c2 ?c3 ?c4 ?c5 ?_)
        case c1 => intro j u hj; cases j with | zero => simp at hj; subst hj; simp [Addr.add] | succ j => simp at hj
        case c2 => intro u hu; simp at hu; subst hu; rfl
        case c3 => have := HL.out; unfold maxLen; omega
        case c4 => have := HL.out; omega
        case c5 => have := U3.out.lt; simp; omega
        intro v' w4 hown4 hgrow _
        have hlt4 := (O3.out.alloc (.cells #[.string ((⟨#[109]⟩ : ByteArray) ++ S0)] 9)).lt
        have B4 := Lib.hid ((B3.out.alloc B3.out.size (.cells #[.string ((⟨#[109]⟩ : ByteArray) ++ S0)] 9)).grown hgrow (by have := B3.out.size; simp; omega) (fun k hk => by have := hlt4 k hk; omega))
        have U4 := Lib.hid (unit_grown (U3.out.keep ((Below.refl _ _).alloc (Nat.le_refl _) (.cells #[.string ((⟨#[109]⟩ : ByteArray) ++ S0)] 9))) hgrow (fun h => by have := (hlt4 R h.symm).1; omega))
        have O4 := Lib.hid (show w4.ownsRow (R + 1) 9 1 v' (xs ++ [(⟨#[109]⟩ : ByteArray) ++ S0]).length ((xs ++ [(⟨#[109]⟩ : ByteArray) ++ S0]).map Value.string) by rw [List.length_append, List.map_append]; exact hown4)
        clear hown4 hgrow hlt4
        go_wp2_with fail
        go_roundw
        case rel => exact .inr (.inl ⟨rfl, xs ++ [(⟨#[109]⟩ : ByteArray) ++ S0], Lib.hid ⟨by rw [HXS.out]; exact facs_step0 HF.out, O4.out, U4.out, B4.out, by have := HL.out; (try rw [List.length_append, List.length_singleton]); omega⟩⟩)
        case measure => simp [intOf]
      · have t0 : (n0 == 1) = false := by rw [beq_eq_false_iff_ne]; exact hn1
        have t1 : decide (1 < n0) = false := decide_eq_false hn2
        have HF := Lib.hid hfac
        clear hn1 hn2 hfac
        go_wp2_with fail
        go_roundw
        case rel => exact .inr (.inl ⟨rfl, xs, Lib.hid ⟨by rw [HXS.out]; exact facs_none0 HF.out, HO.out, HU.out, HB.out, by have := HL.out; (try rw [List.length_append, List.length_singleton]); omega⟩⟩)
        case measure => simp [intOf]
    · obtain ⟨xs, HH⟩ := HX
      obtain ⟨hx, ho, hu, hb, hl⟩ := HH.out
      have HO := Lib.hid ho
      have HU := Lib.hid hu
      have HB := Lib.hid hb
      have HL := Lib.hid hl
      have HXS := Lib.hid hx
      clear ho hu hb hl hx HH
      have q0 := HU.out.c1
      have qz := HU.out.fz
      rcases HN1.out with ⟨hn, hfac⟩ | ⟨hn, hfac, hfo, hsz⟩ | ⟨hn1, hn2, hfac⟩
      · have t0 : (n1 == 1) = true := by rw [hn]; rfl
        have HF := Lib.hid hfac
        clear hn hfac
        go_wp2_with (at_builtin; refine wpList_append_own _ rfl _ _ 91 rfl (R + 1) 9 i0 (.string ⟨#[]⟩) 1 16 Tryz.underlying91 hi hz0 hz1 hz2 rfl (by decide) _ _ _ rfl (HO.out.alloc _) ⟨wr.heap.size, 0, none⟩ 1 1 [.string ((⟨#[103]⟩ : ByteArray))] rfl rfl ?c1 ?c2 ?c3 ?c4 ?c5 ?_)
        case c1 => intro j u hj; cases j with | zero => simp at hj; subst hj; simp [Addr.add] | succ j => simp at hj
        case c2 => intro u hu; simp at hu; subst hu; rfl
        case c3 => have := HL.out; unfold maxLen; omega
        case c4 => have := HL.out; omega
        case c5 => have := HU.out.lt; simp; omega
        intro v' w4 hown4 hgrow _
        have hlt4 := (HO.out.alloc (.cells #[.string ((⟨#[103]⟩ : ByteArray))] 9)).lt
        have B4 := Lib.hid ((HB.out.alloc HB.out.size (.cells #[.string ((⟨#[103]⟩ : ByteArray))] 9)).grown hgrow (by have := HB.out.size; simp; omega) (fun k hk => by have := hlt4 k hk; omega))
        have U4 := Lib.hid (unit_grown (HU.out.keep ((Below.refl _ _).alloc (Nat.le_refl _) (.cells #[.string ((⟨#[103]⟩ : ByteArray))] 9))) hgrow (fun h => by have := (hlt4 R h.symm).1; omega))
        have O4 := Lib.hid (show w4.ownsRow (R + 1) 9 1 v' (xs ++ [(⟨#[103]⟩ : ByteArray)]).length ((xs ++ [(⟨#[103]⟩ : ByteArray)]).map Value.string) by rw [List.length_append, List.map_append]; exact hown4)
        clear hown4 hgrow hlt4
        go_wp2_with fail
        go_roundw
        case rel => exact .inr (.inr (.inl ⟨rfl, xs ++ [(⟨#[103]⟩ : ByteArray)], Lib.hid ⟨by rw [HXS.out]; exact facs_step1 HF.out, O4.out, U4.out, B4.out, by have := HL.out; (try rw [List.length_append, List.length_singleton]); omega⟩⟩))
        case measure => simp [intOf]
      · have t0 : (n1 == 1) = false := by rw [beq_eq_false_iff_ne]; omega
        have t1 : decide (1 < n1) = true := decide_eq_true hn
        have HF := Lib.hid hfac
        have HIt := Lib.hid hfo
        have g1 : ¬ 9223372036854775807 < 1 + S1.size := by omega
        clear hn hfac hfo hsz
        go_wp2_with fail
        refine (HIt.out _ (HGu.out.below HB.out).tab).mono ?_
        rintro e w3 ⟨rfl, hb⟩
        have O3 := Lib.hid (own_keep HO.out hb)
        have U3 := Lib.hid (HU.out.keep hb)
        have B3 := Lib.hid (HB.out.trans (hb.mono HB.out.size))
        clear hb q0 qz
        go_wp2_with (at_builtin; refine wpList_append_own _ rfl _ _ 91 rfl (R + 1) 9 i0 (.string ⟨#[]⟩) 1 16 Tryz.underlying91 hi hz0 hz1 hz2 rfl (by decide) _ _ _ rfl (O3.out.alloc _) ⟨w3.heap.size, 0, none⟩ 1 1 [.string ((⟨#[103]⟩ : ByteArray) ++ S1)] rfl rfl ?c1 ?c2 ?c3 ?c4 ?c5 ?_)
        case c1 => intro j u hj; cases j with | zero => simp at hj; subst hj; simp [Addr.add] | succ j => simp at hj
        case c2 => intro u hu; simp at hu; subst hu; rfl
        case c3 => have := HL.out; unfold maxLen; omega
        case c4 => have := HL.out; omega
        case c5 => have := U3.out.lt; simp; omega
        intro v' w4 hown4 hgrow _
        have hlt4 := (O3.out.alloc (.cells #[.string ((⟨#[103]⟩ : ByteArray) ++ S1)] 9)).lt
        have B4 := Lib.hid ((B3.out.alloc B3.out.size (.cells #[.string ((⟨#[103]⟩ : ByteArray) ++ S1)] 9)).grown hgrow (by have := B3.out.size; simp; omega) (fun k hk => by have := hlt4 k hk; omega))
        have U4 := Lib.hid (unit_grown (U3.out.keep ((Below.refl _ _).alloc (Nat.le_refl _) (.cells #[.string ((⟨#[103]⟩ : ByteArray) ++ S1)] 9))) hgrow (fun h => by have := (hlt4 R h.symm).1; omega))
        have O4 := Lib.hid (show w4.ownsRow (R + 1) 9 1 v' (xs ++ [(⟨#[103]⟩ : ByteArray) ++ S1]).length ((xs ++ [(⟨#[103]⟩ : ByteArray) ++ S1]).map Value.string) by rw [List.length_append, List.map_append]; exact hown4)
        clear hown4 hgrow hlt4
        go_wp2_with fail
        go_roundw
        case rel => exact .inr (.inr (.inl ⟨rfl, xs ++ [(⟨#[103]⟩ : ByteArray) ++ S1], Lib.hid ⟨by rw [HXS.out]; exact facs_step1 HF.out, O4.out, U4.out, B4.out, by have := HL.out; (try rw [List.length_append, List.length_singleton]); omega⟩⟩))
        case measure => simp [intOf]
      · have t0 : (n1 == 1) = false := by rw [beq_eq_false_iff_ne]; exact hn1
        have t1 : decide (1 < n1) = false := decide_eq_false hn2
        have HF := Lib.hid hfac
        clear hn1 hn2 hfac
        go_wp2_with fail
        go_roundw
        case rel => exact .inr (.inr (.inl ⟨rfl, xs, Lib.hid ⟨by rw [HXS.out]; exact facs_none1 HF.out, HO.out, HU.out, HB.out, by have := HL.out; (try rw [List.length_append, List.length_singleton]); omega⟩⟩))
        case measure => simp [intOf]
    · obtain ⟨xs, HH⟩ := HX
      obtain ⟨hx, ho, hu, hb, hl⟩ := HH.out
      have HO := Lib.hid ho
      have HU := Lib.hid hu
      have HB := Lib.hid hb
      have HL := Lib.hid hl
      have HXS := Lib.hid hx
      clear ho hu hb hl hx HH
      have q0 := HU.out.c2
      have qz := HU.out.fz
      rcases HN2.out with ⟨hn, hfac⟩ | ⟨hn, hfac, hfo, hsz⟩ | ⟨hn1, hn2, hfac⟩
      · have t0 : (n2 == 1) = true := by rw [hn]; rfl
        have HF := Lib.hid hfac
        clear hn hfac
        go_wp2_with (at_builtin; refine wpList_append_own _ rfl _ _ 91 rfl (R + 1) 9 i0 (.string ⟨#[]⟩) 1 16 Tryz.underlying91 hi hz0 hz1 hz2 rfl (by decide) _ _ _ rfl (HO.out.alloc _) ⟨wr.heap.size, 0, none⟩ 1 1 [.string ((⟨#[115]⟩ : ByteArray))] rfl rfl ?c1 ?c2 ?c3 ?c4 ?c5 ?_)
        case c1 => intro j u hj; cases j with | zero => simp at hj; subst hj; simp [Addr.add] | succ j => simp at hj
        case c2 => intro u hu; simp at hu; subst hu; rfl
        case c3 => have := HL.out; unfold maxLen; omega
        case c4 => have := HL.out; omega
        case c5 => have := HU.out.lt; simp; omega
        intro v' w4 hown4 hgrow _
        have hlt4 := (HO.out.alloc (.cells #[.string ((⟨#[115]⟩ : ByteArray))] 9)).lt
        have B4 := Lib.hid ((HB.out.alloc HB.out.size (.cells #[.string ((⟨#[115]⟩ : ByteArray))] 9)).grown hgrow (by have := HB.out.size; simp; omega) (fun k hk => by have := hlt4 k hk; omega))
        have U4 := Lib.hid (unit_grown (HU.out.keep ((Below.refl _ _).alloc (Nat.le_refl _) (.cells #[.string ((⟨#[115]⟩ : ByteArray))] 9))) hgrow (fun h => by have := (hlt4 R h.symm).1; omega))
        have O4 := Lib.hid (show w4.ownsRow (R + 1) 9 1 v' (xs ++ [(⟨#[115]⟩ : ByteArray)]).length ((xs ++ [(⟨#[115]⟩ : ByteArray)]).map Value.string) by rw [List.length_append, List.map_append]; exact hown4)
        clear hown4 hgrow hlt4
        go_wp2_with fail
        go_roundw
        case rel => exact .inr (.inr (.inr (.inl ⟨rfl, xs ++ [(⟨#[115]⟩ : ByteArray)], Lib.hid ⟨by rw [HXS.out]; exact facs_step2 HF.out, O4.out, U4.out, B4.out, by have := HL.out; (try rw [List.length_append, List.length_singleton]); omega⟩⟩)))
        case measure => simp [intOf]
      · have t0 : (n2 == 1) = false := by rw [beq_eq_false_iff_ne]; omega
        have t1 : decide (1 < n2) = true := decide_eq_true hn
        have HF := Lib.hid hfac
        have HIt := Lib.hid hfo
        have g1 : ¬ 9223372036854775807 < 1 + S2.size := by omega
        clear hn hfac hfo hsz
        go_wp2_with fail
        refine (HIt.out _ (HGu.out.below HB.out).tab).mono ?_
        rintro e w3 ⟨rfl, hb⟩
        have O3 := Lib.hid (own_keep HO.out hb)
        have U3 := Lib.hid (HU.out.keep hb)
        have B3 := Lib.hid (HB.out.trans (hb.mono HB.out.size))
        clear hb q0 qz
        go_wp2_with (at_builtin; refine wpList_append_own _ rfl _ _ 91 rfl (R + 1) 9 i0 (.string ⟨#[]⟩) 1 16 Tryz.underlying91 hi hz0 hz1 hz2 rfl (by decide) _ _ _ rfl (O3.out.alloc _) ⟨w3.heap.size, 0, none⟩ 1 1 [.string ((⟨#[115]⟩ : ByteArray) ++ S2)] rfl rfl ?c1 ?c2 ?c3 ?c4 ?c5 ?_)
        case c1 => intro j u hj; cases j with | zero => simp at hj; subst hj; simp [Addr.add] | succ j => simp at hj
        case c2 => intro u hu; simp at hu; subst hu; rfl
        case c3 => have := HL.out; unfold maxLen; omega
        case c4 => have := HL.out; omega
        case c5 => have := U3.out.lt; simp; omega
        intro v' w4 hown4 hgrow _
        have hlt4 := (O3.out.alloc (.cells #[.string ((⟨#[115]⟩ : ByteArray) ++ S2)] 9)).lt
        have B4 := Lib.hid ((B3.out.alloc B3.out.size (.cells #[.string ((⟨#[115]⟩ : ByteArray) ++ S2)] 9)).grown hgrow (by have := B3.out.size; simp; omega) (fun k hk => by have := hlt4 k hk; omega))
        have U4 := Lib.hid (unit_grown (U3.out.keep ((Below.refl _ _).alloc (Nat.le_refl _) (.cells #[.string ((⟨#[115]⟩ : ByteArray) ++ S2)] 9))) hgrow (fun h => by have := (hlt4 R h.symm).1; omega))
        have O4 := Lib.hid (show w4.ownsRow (R + 1) 9 1 v' (xs ++ [(⟨#[115]⟩ : ByteArray) ++ S2]).length ((xs ++ [(⟨#[115]⟩ : ByteArray) ++ S2]).map Value.string) by rw [List.length_append, List.map_append]; exact hown4)
        clear hown4 hgrow hlt4
        go_wp2_with fail
        go_roundw
        case rel => exact .inr (.inr (.inr (.inl ⟨rfl, xs ++ [(⟨#[115]⟩ : ByteArray) ++ S2], Lib.hid ⟨by rw [HXS.out]; exact facs_step2 HF.out, O4.out, U4.out, B4.out, by have := HL.out; (try rw [List.length_append, List.length_singleton]); omega⟩⟩)))
        case measure => simp [intOf]
      · have t0 : (n2 == 1) = false := by rw [beq_eq_false_iff_ne]; exact hn1
        have t1 : decide (1 < n2) = false := decide_eq_false hn2
        have HF := Lib.hid hfac
        clear hn1 hn2 hfac
        go_wp2_with fail
        go_roundw
        case rel => exact .inr (.inr (.inr (.inl ⟨rfl, xs, Lib.hid ⟨by rw [HXS.out]; exact facs_none2 HF.out, HO.out, HU.out, HB.out, by have := HL.out; (try rw [List.length_append, List.length_singleton]); omega⟩⟩)))
        case measure => simp [intOf]
    · obtain ⟨xs, HH⟩ := HX
      obtain ⟨hx, ho, hu, hb, hl⟩ := HH.out
      have HO := Lib.hid ho
      have HU := Lib.hid hu
      have HB := Lib.hid hb
      have HL := Lib.hid hl
      have HXS := Lib.hid hx
      clear ho hu hb hl hx HH
      have q0 := HU.out.c3
      have qz := HU.out.fz
      rcases HN3.out with ⟨hn, hfac⟩ | ⟨hn, hfac, hfo, hsz⟩ | ⟨hn1, hn2, hfac⟩
      · have t0 : (n3 == 1) = true := by rw [hn]; rfl
        have HF := Lib.hid hfac
        clear hn hfac
        go_wp2_with (at_builtin; refine wpList_append_own _ rfl _ _ 91 rfl (R + 1) 9 i0 (.string ⟨#[]⟩) 1 16 Tryz.underlying91 hi hz0 hz1 hz2 rfl (by decide) _ _ _ rfl (HO.out.alloc _) ⟨wr.heap.size, 0, none⟩ 1 1 [.string ((⟨#[75]⟩ : ByteArray))] rfl rfl ?c1 ?c2 ?c3 ?c4 ?c5 ?_)
        case c1 => intro j u hj; cases j with | zero => simp at hj; subst hj; simp [Addr.add] | succ j => simp at hj
        case c2 => intro u hu; simp at hu; subst hu; rfl
        case c3 => have := HL.out; unfold maxLen; omega
        case c4 => have := HL.out; omega
        case c5 => have := HU.out.lt; simp; omega
        intro v' w4 hown4 hgrow _
        have hlt4 := (HO.out.alloc (.cells #[.string ((⟨#[75]⟩ : ByteArray))] 9)).lt
        have B4 := Lib.hid ((HB.out.alloc HB.out.size (.cells #[.string ((⟨#[75]⟩ : ByteArray))] 9)).grown hgrow (by have := HB.out.size; simp; omega) (fun k hk => by have := hlt4 k hk; omega))
        have U4 := Lib.hid (unit_grown (HU.out.keep ((Below.refl _ _).alloc (Nat.le_refl _) (.cells #[.string ((⟨#[75]⟩ : ByteArray))] 9))) hgrow (fun h => by have := (hlt4 R h.symm).1; omega))
        have O4 := Lib.hid (show w4.ownsRow (R + 1) 9 1 v' (xs ++ [(⟨#[75]⟩ : ByteArray)]).length ((xs ++ [(⟨#[75]⟩ : ByteArray)]).map Value.string) by rw [List.length_append, List.map_append]; exact hown4)
        clear hown4 hgrow hlt4
        go_wp2_with fail
        go_roundw
        case rel => exact .inr (.inr (.inr (.inr (⟨rfl, xs ++ [(⟨#[75]⟩ : ByteArray)], Lib.hid ⟨by rw [HXS.out]; exact facs_step3 HF.out, O4.out, U4.out, B4.out, by have := HL.out; (try rw [List.length_append, List.length_singleton]); omega⟩⟩))))
        case measure => simp [intOf]
      · have t0 : (n3 == 1) = false := by rw [beq_eq_false_iff_ne]; omega
        have t1 : decide (1 < n3) = true := decide_eq_true hn
        have HF := Lib.hid hfac
        have HIt := Lib.hid hfo
        have g1 : ¬ 9223372036854775807 < 1 + S3.size := by omega
        clear hn hfac hfo hsz
        go_wp2_with fail
        refine (HIt.out _ (HGu.out.below HB.out).tab).mono ?_
        rintro e w3 ⟨rfl, hb⟩
        have O3 := Lib.hid (own_keep HO.out hb)
        have U3 := Lib.hid (HU.out.keep hb)
        have B3 := Lib.hid (HB.out.trans (hb.mono HB.out.size))
        clear hb q0 qz
        go_wp2_with (at_builtin; refine wpList_append_own _ rfl _ _ 91 rfl (R + 1) 9 i0 (.string ⟨#[]⟩) 1 16 Tryz.underlying91 hi hz0 hz1 hz2 rfl (by decide) _ _ _ rfl (O3.out.alloc _) ⟨w3.heap.size, 0, none⟩ 1 1 [.string ((⟨#[75]⟩ : ByteArray) ++ S3)] rfl rfl ?c1 ?c2 ?c3 ?c4 ?c5 ?_)
        case c1 => intro j u hj; cases j with | zero => simp at hj; subst hj; simp [Addr.add] | succ j => simp at hj
        case c2 => intro u hu; simp at hu; subst hu; rfl
        case c3 => have := HL.out; unfold maxLen; omega
        case c4 => have := HL.out; omega
        case c5 => have := U3.out.lt; simp; omega
        intro v' w4 hown4 hgrow _
        have hlt4 := (O3.out.alloc (.cells #[.string ((⟨#[75]⟩ : ByteArray) ++ S3)] 9)).lt
        have B4 := Lib.hid ((B3.out.alloc B3.out.size (.cells #[.string ((⟨#[75]⟩ : ByteArray) ++ S3)] 9)).grown hgrow (by have := B3.out.size; simp; omega) (fun k hk => by have := hlt4 k hk; omega))
        have U4 := Lib.hid (unit_grown (U3.out.keep ((Below.refl _ _).alloc (Nat.le_refl _) (.cells #[.string ((⟨#[75]⟩ : ByteArray) ++ S3)] 9))) hgrow (fun h => by have := (hlt4 R h.symm).1; omega))
        have O4 := Lib.hid (show w4.ownsRow (R + 1) 9 1 v' (xs ++ [(⟨#[75]⟩ : ByteArray) ++ S3]).length ((xs ++ [(⟨#[75]⟩ : ByteArray) ++ S3]).map Value.string) by rw [List.length_append, List.map_append]; exact hown4)
        clear hown4 hgrow hlt4
        go_wp2_with fail
        go_roundw
        case rel => exact .inr (.inr (.inr (.inr (⟨rfl, xs ++ [(⟨#[75]⟩ : ByteArray) ++ S3], Lib.hid ⟨by rw [HXS.out]; exact facs_step3 HF.out, O4.out, U4.out, B4.out, by have := HL.out; (try rw [List.length_append, List.length_singleton]); omega⟩⟩))))
        case measure => simp [intOf]
      · have t0 : (n3 == 1) = false := by rw [beq_eq_false_iff_ne]; exact hn1
        have t1 : decide (1 < n3) = false := decide_eq_false hn2
        have HF := Lib.hid hfac
        clear hn1 hn2 hfac
        go_wp2_with fail
        go_roundw
        case rel => exact .inr (.inr (.inr (.inr (⟨rfl, xs, Lib.hid ⟨by rw [HXS.out]; exact facs_none3 HF.out, HO.out, HU.out, HB.out, by have := HL.out; (try rw [List.length_append, List.length_singleton]); omega⟩⟩))))
        case measure => simp [intOf]
    · obtain ⟨xs, HH⟩ := HX
      obtain ⟨hx, ho, hu, hb, hl⟩ := HH.out
      have HXS := Lib.hid hx
      have HB := Lib.hid hb
      rcases ho.2 with ⟨rfl, h0⟩ | ⟨g, cp, cur, rfl, hgb, hrow, hcp, _⟩
      · have hx0 : xs = [] := List.eq_nil_of_length_eq_zero h0
        subst hx0
        have HJ := Lib.hid fun w => Tryz.strings_Join_none none 0 ⟨#[46]⟩ w
        clear hx ho hu hb hl HH h0
        go_wp2_with fail
        refine (HJ.out _).mono ?_
        rintro e w' ⟨rfl, rfl⟩
        go_wp2_with fail
        go_ret
        exact ⟨by rw [← HXS.out]; rfl, HB.out⟩
      · have hlen : (Lib.join (xs.map (·.data.toList)) [46]).length ≤ 140737488355328 := by rw [hx]; exact HJL.out
        have hJ := Tryz.strings_Join g 0 cp xs ⟨#[46]⟩ wr (fun j x hj => by
          rw [Nat.zero_add, ho.cellAt j (by have := List.getElem?_eq_some_iff.1 hj; obtain ⟨h, _⟩ := this; omega), List.getElem?_map, hj]; rfl) (Array.getElem?_eq_some_iff.1 hrow).1 (by omega) hcp hlen
        rw [hx] at hJ
        have HJ := Lib.hid hJ
        have HB := Lib.hid hb
        clear ho hu hb hl HH hrow hgb hJ hlen
        go_wp2_with fail
        refine HJ.out.mono ?_
        rintro e w' ⟨rfl, hb⟩
        have HB2 := Lib.hid (HB.out.trans (hb.mono HB.out.size))
        clear hb
        go_wp2_with fail
        go_ret
        exact ⟨rfl, HB2.out⟩

def powersL (u : UnitD) (sg : Int) : List UInt8 := Lib.join ((facsB u sg 4).map (·.data.toList)) [46]
theorem facB_len (n : Int) (c : UInt8) (h0 : -9 ≤ n) (h1 : n ≤ 9) : (facB n c).length ≤ 1 ∧ ∀ x ∈ facB n c, x.data.toList.length ≤ 22 := by
  unfold facB
  by_cases h : n = 1
  · rw [if_pos h]; exact ⟨Nat.le_refl _, fun x hx => by simp at hx; rw [hx]; show 1 ≤ 22; decide⟩
  · rw [if_neg h]
    by_cases h2 : 1 < n
    · rw [if_pos h2]
      refine ⟨Nat.le_refl _, fun x hx => ?_⟩
      simp only [List.mem_singleton] at hx
      rw [hx, ByteArray.data_append]
      have := Lib.itoa_length_le n (by omega) (by omega)
      simp
      omega
    · rw [if_neg h2]; exact ⟨Nat.zero_le _, fun x hx => by cases hx⟩
theorem join_len : ∀ (xs : List (List UInt8)) (k : Nat), (∀ x ∈ xs, x.length ≤ k) → (Lib.join xs [46]).length ≤ xs.length * (k + 1)
  | [], _, _ => by simp [Lib.join_nil]
  | [x], k, h => by rw [Lib.join_one]; have := h x (by simp); simp; omega
  | x :: y :: r, k, h => by
    have ih := join_len (y :: r) k (fun z hz => h z (List.mem_cons_of_mem _ hz))
    have hx := h x (by simp)
    have e : Lib.join (x :: y :: r) [46] = x ++ 46 :: Lib.join (y :: r) [46] := by simp [Lib.join, List.intercalate]
    rw [e]
    simp only [List.length_append, List.length_cons] at ih ⊢
    have : (r.length + 1 + 1) * (k + 1) = (r.length + 1) * (k + 1) + (k + 1) := Nat.succ_mul _ _
    omega
theorem powers_any (u : UnitD) (sg : Int) (w : World) (hg : Gu w) (hs : sg = 1 ∨ sg = -1) (h : validB u = true) :
    Calls Tryz.prog 41 #[unitV u, .int .i64 sg] w fun e w' => e = .returned (.string ⟨(powersL u sg).toArray⟩) ∧ Below w.heap.size w w' := by
  obtain ⟨p0, p1, p2, p3, pn, pd, po⟩ := u
  obtain ⟨e0, e1, e2, e3, e4, e5, e6, e7⟩ := exp_ranges h
  have b0 : -9 ≤ sg * p0 ∧ sg * p0 ≤ 9 := by rcases hs with rfl | rfl <;> omega
  have b1 : -9 ≤ sg * p1 ∧ sg * p1 ≤ 9 := by rcases hs with rfl | rfl <;> omega
  have b2 : -9 ≤ sg * p2 ∧ sg * p2 ≤ 9 := by rcases hs with rfl | rfl <;> omega
  have b3 : -9 ≤ sg * p3 ∧ sg * p3 ≤ 9 := by rcases hs with rfl | rfl <;> omega
  have hw : ∀ x : Int, -9 ≤ x ∧ x ≤ 9 → IntKind.i64.wrap x = x ∧ wrap64 x = x := fun x hx => ⟨IntWalk.i64_in _ ⟨by omega, by omega⟩, IntWalk.wrap64_in _ ⟨by omega, by omega⟩⟩
  refine powers_core p0 p1 p2 p3 pn pd po sg _ _ _ _ _ _ _ _ w hg (hw _ b0).1 (hw _ b1).1 (hw _ b2).1 (hw _ b3).1 (hw _ b0).2 (hw _ b1).2 (hw _ b2).2 (hw _ b3).2 (Lib.hid (meets _ _ b0.1 b0.2)) (Lib.hid (meets _ _ b1.1 b1.2)) (Lib.hid (meets _ _ b2.1 b2.2)) (Lib.hid (meets _ _ b3.1 b3.2)) (Lib.hid ?_)
  have f0 := facB_len (sg * p0) 109 b0.1 b0.2
  have f1 := facB_len (sg * p1) 103 b1.1 b1.2
  have f2 := facB_len (sg * p2) 115 b2.1 b2.2
  have f3 := facB_len (sg * p3) 75 b3.1 b3.2
  have hj := join_len ((facsB ⟨p0, p1, p2, p3, pn, pd, po⟩ sg 4).map (·.data.toList)) 22 (fun x hx => by
    obtain ⟨y, hy, rfl⟩ := List.mem_map.1 hx
    have hy : y ∈ facB (sg * p0) 109 ++ facB (sg * p1) 103 ++ facB (sg * p2) 115 ++ facB (sg * p3) 75 := hy
    simp only [List.mem_append] at hy
    rcases hy with ((hy | hy) | hy) | hy
    · exact f0.2 y hy
    · exact f1.2 y hy
    · exact f2.2 y hy
    · exact f3.2 y hy)
  have hl : ((facsB ⟨p0, p1, p2, p3, pn, pd, po⟩ sg 4).map (·.data.toList)).length ≤ 4 := by
    rw [List.length_map, show facsB ⟨p0, p1, p2, p3, pn, pd, po⟩ sg 4 = facB (sg * p0) 109 ++ facB (sg * p1) 103 ++ facB (sg * p2) 115 ++ facB (sg * p3) 75 from rfl]
    simp only [List.length_append]
    omega
  omega
end Go.Proofs.YtlahoohgbfjciaaGreatDoor
