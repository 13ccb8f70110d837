/- The contract of units.readFactors. -/
import Derived.Test.YtlahoohgbfjciaaGreatDoorVs
namespace Go.Proofs.YtlahoohgbfjciaaGreatDoor
open Go.RowKit Go.Shelf

structure FactD where
  nm : ByteArray
  u : UnitD
  p : Int
  b : Bool
def factC (f : FactD) : List Value := [.string f.nm, .int .i64 f.u.e0, .int .i64 f.u.e1, .int .i64 f.u.e2, .int .i64 f.u.e3, .int .i64 f.u.n, .int .i64 f.u.d, .int .i64 f.u.o, .int .i64 f.p, .bool f.b]
def rowsC (fs : List FactD) : List Value := fs.flatMap factC
def lastD (s : ByteArray) : Bool := match s.data.toList.getLast? with
  | some c => decide (50 ≤ c.toNat) && decide (c.toNat ≤ 57)
  | none => false
/-- the factor of a part of a text -/
def partF (s : ByteArray) (b : Bool) : FactD :=
  if lastD s = true then ⟨s.extract 0 (s.size - 1), zeroU, ((s.data.toList.getLast?.getD 0).toNat : Int) - 48, b⟩ else ⟨s, zeroU, 1, b⟩
def goodF (s : ByteArray) : Bool := lettersB (partF s false).nm.data.toList
def readF (ps : List ByteArray) (b : Bool) : Option (List FactD) := if ps.all goodF = true then some (ps.map (partF · b)) else none
theorem infoF : (Tryz.prog.info? 88).map (fun i => (i.zero, i.size, i.bytes)) = some (some (.agg #[.string ⟨#[]⟩, .int .i64 0, .int .i64 0, .int .i64 0, .int .i64 0, .int .i64 0, .int .i64 0, .int .i64 0, .int .i64 0, .bool false]), 10, 88) := by kernel_rfl
structure Fact10 (w : World) (N : Nat) (nm : ByteArray) (p : Int) (b : Bool) : Prop where
  c0 : w.cell? ⟨N, 0, none⟩ = some (.string nm)
  c1 : w.cell? ⟨N, 1, none⟩ = some (.int .i64 0)
  c2 : w.cell? ⟨N, 2, none⟩ = some (.int .i64 0)
  c3 : w.cell? ⟨N, 3, none⟩ = some (.int .i64 0)
  c4 : w.cell? ⟨N, 4, none⟩ = some (.int .i64 0)
  c5 : w.cell? ⟨N, 5, none⟩ = some (.int .i64 0)
  c6 : w.cell? ⟨N, 6, none⟩ = some (.int .i64 0)
  c7 : w.cell? ⟨N, 7, none⟩ = some (.int .i64 0)
  c8 : w.cell? ⟨N, 8, none⟩ = some (.int .i64 p)
  c9 : w.cell? ⟨N, 9, none⟩ = some (.bool b)
  fz : ∀ o, w.frozen? ⟨N, o, none⟩ = false
theorem fact_fresh (w : World) (nm : ByteArray) (p : Int) (b : Bool) : Fact10 (w.alloc (Obj.cells #[.string nm, .int .i64 0, .int .i64 0, .int .i64 0, .int .i64 0, .int .i64 0, .int .i64 0, .int .i64 0, .int .i64 p, .bool b] 88)) w.heap.size nm p b :=
  ⟨World.cell?_alloc_new _ _ _ _, World.cell?_alloc_new _ _ _ _, World.cell?_alloc_new _ _ _ _, World.cell?_alloc_new _ _ _ _, World.cell?_alloc_new _ _ _ _, World.cell?_alloc_new _ _ _ _, World.cell?_alloc_new _ _ _ _, World.cell?_alloc_new _ _ _ _, World.cell?_alloc_new _ _ _ _, World.cell?_alloc_new _ _ _ _, fun o => by simp⟩
theorem own_apart {w : World} {base : Nat} {e t : TypeId} {sz n g : Nat} {v : Value} {xs : List Value} {c : Array Value} {fr : Nat × Nat} (h : w.ownsRow base e sz v n xs) (hg : w.heap[g]? = some (.cells c t fr)) (hne : t ≠ e) : some g ≠ v.ownBlock := by
  rcases h.2 with ⟨rfl, _⟩ | ⟨g', cap, cur, rfl, _, hg', _⟩
  · simp [Value.ownBlock]
  · intro e1
    simp [Value.ownBlock] at e1
    subst e1
    rw [hg] at hg'
    injection hg' with e2
    injection e2 with _ e3
    exact hne e3
theorem rows_new {W : World} {news : List Value} {t : TypeId} (o : Obj) (ho : o = .cells news.toArray t) (j : Nat) (u : Value) (hj : news[j]? = some u) : (W.alloc o).cell? (Addr.add ⟨W.heap.size, 0, none⟩ j) = some u := by
  subst ho
  have : (Addr.add ⟨W.heap.size, 0, none⟩ j : Addr) = ⟨W.heap.size, j, none⟩ := by unfold Addr.add; split <;> simp_all
  rw [this, cell_of_row _ _ _ _ _ _ (heap_alloc_new W _)]
  simpa using hj
theorem rows_take {ps : List ByteArray} {b : Bool} (k : Nat) (h : k < ps.length) : rowsC ((ps.map (partF · b)).take (k + 1)) = rowsC ((ps.map (partF · b)).take k) ++ factC (partF (ps.getD k ⟨#[]⟩) b) := by
  rw [List.take_succ_eq_append_getElem (by rw [List.length_map]; exact h), List.getElem_map, List.getD_eq_getElem?_getD, List.getElem?_eq_getElem h]
  simp [rowsC]
theorem all_take {ps : List ByteArray} (k : Nat) (h : k < ps.length) (h1 : (ps.take k).all goodF = true) (h2 : goodF (ps.getD k ⟨#[]⟩) = true) : (ps.take (k + 1)).all goodF = true := by
  rw [List.getD_eq_getElem?_getD, List.getElem?_eq_getElem h] at h2
  rw [List.take_succ_eq_append_getElem h, List.all_append, h1, List.all_cons, List.all_nil]
  simpa using h2
theorem readF_none {ps : List ByteArray} {b : Bool} (k : Nat) (h : k < ps.length) (h2 : goodF (ps.getD k ⟨#[]⟩) = false) : readF ps b = none := by
  unfold readF
  rw [if_neg]
  rw [List.getD_eq_getElem?_getD, List.getElem?_eq_getElem h] at h2
  intro ha
  have := List.all_eq_true.1 ha _ (List.getElem_mem h)
  simp only [Option.getD_some] at h2
  rw [h2] at this
  cases this
theorem part_plain {s : ByteArray} {b : Bool} (h : lastD s = false) : partF s b = ⟨s, zeroU, 1, b⟩ := by
  unfold partF; rw [if_neg (by rw [h]; simp)]
theorem last_none {s : ByteArray} (h : s.size = 0) : lastD s = false := by
  have : s.data.toList = [] := List.eq_nil_of_length_eq_zero (by rw [← Lib.size_eq]; exact h)
  unfold lastD
  rw [this]; rfl
theorem grown_set (w : World) (a : Addr) (u : Value) : w.grownBy (w.setCell a u) (some a.block) :=
  ⟨rfl, rfl, rfl, by simp, fun k _ hk => heap_setCell_other w a k u (fun e => hk (by rw [e]))⟩
theorem own_set {w : World} {base : Nat} {e : TypeId} {sz n N : Nat} {v x y : Value} {xs : List Value} (h : w.ownsRow base e sz v n xs) (hne : ∀ k, v.ownBlock = some k → k ≠ N) : (((w.setCell ⟨N, 0, none⟩ x).setCell ⟨N, 8, none⟩ y).drew).ownsRow base e sz v n xs := by
  have hn : v.ownBlock = none ∨ v.ownBlock ≠ some N := by
    cases hv : v.ownBlock with
    | none => exact .inl rfl
    | some k => exact .inr (fun e => hne k hv (Option.some.inj e))
  have hh := (h.kept (grown_set w ⟨N, 0, none⟩ x) hn).kept (grown_set (w.setCell ⟨N, 0, none⟩ x) ⟨N, 8, none⟩ y) hn
  exact hh
theorem heap_set {w : World} {N g : Nat} {x y : Value} {o : Obj} (h : w.heap[g]? = some o) (hne : g ≠ N) : (((w.setCell ⟨N, 0, none⟩ x).setCell ⟨N, 8, none⟩ y).drew).heap[g]? = some o :=
  (heap_setCell_other _ ⟨N, 8, none⟩ g y hne).trans ((heap_setCell_other _ ⟨N, 0, none⟩ g x hne).trans h)
theorem Fact10.put {w : World} {N : Nat} {nm : ByteArray} {p : Int} {b : Bool} (t : Fact10 w N nm p b) (nm' : ByteArray) (p' : Int) : Fact10 (((w.setCell ⟨N, 0, none⟩ (.string nm')).setCell ⟨N, 8, none⟩ (.int .i64 p')).drew) N nm' p' b := by
  have h8 : (w.setCell ⟨N, 0, none⟩ (.string nm')).cell? ⟨N, 8, none⟩ = some (.int .i64 p) := (World.cell?_setCell_other _ _ _ _ (by simp)).trans t.c8
  have h : ∀ j, j ≠ 0 → j ≠ 8 → (((w.setCell ⟨N, 0, none⟩ (.string nm')).setCell ⟨N, 8, none⟩ (.int .i64 p')).drew).cell? ⟨N, j, none⟩ = w.cell? ⟨N, j, none⟩ := fun j h0 h8 =>
    (World.cell?_setCell_other _ _ _ _ (by first | (simp; done) | (simp; omega))).trans (World.cell?_setCell_other _ _ _ _ (by first | (simp; done) | (simp; omega)))
  exact ⟨(World.cell?_setCell_other _ _ _ _ (by simp)).trans (World.cell?_setCell_same _ _ _ t.c0), (h 1 (by decide) (by decide)).trans t.c1, (h 2 (by decide) (by decide)).trans t.c2, (h 3 (by decide) (by decide)).trans t.c3, (h 4 (by decide) (by decide)).trans t.c4, (h 5 (by decide) (by decide)).trans t.c5, (h 6 (by decide) (by decide)).trans t.c6, (h 7 (by decide) (by decide)).trans t.c7, World.cell?_setCell_same _ _ _ h8, (h 9 (by decide) (by decide)).trans t.c9, fun o => by
    show ((w.setCell ⟨N, 0, none⟩ (.string nm')).setCell ⟨N, 8, none⟩ (.int .i64 p')).frozen? ⟨N, o, none⟩ = false
    rw [World.frozen?_setCell, World.frozen?_setCell]; exact t.fz o⟩
theorem last_some {s : ByteArray} {q : Nat} (h : s.size = q + 1) : lastD s = (decide (50 ≤ (s[q]'(by omega)).toNat) && decide ((s[q]'(by omega)).toNat ≤ 57)) := by
  have hl : s.data.toList.length = q + 1 := by rw [← Lib.size_eq]; exact h
  have : s.data.toList.getLast? = some (s[q]'(by omega)) := by
    rw [List.getLast?_eq_getElem?, hl, Nat.add_sub_cancel, List.getElem?_eq_getElem (by omega)]; rfl
  unfold lastD
  rw [this]
theorem part_digit {s : ByteArray} {q : Nat} {b : Bool} (h : s.size = q + 1) (hd : lastD s = true) : partF s b = ⟨s.extract 0 q, zeroU, ((s[q]'(by omega)).toNat : Int) - 48, b⟩ := by
  have hl : s.data.toList.length = q + 1 := by rw [← Lib.size_eq]; exact h
  have : s.data.toList.getLast? = some (s[q]'(by omega)) := by
    rw [List.getLast?_eq_getElem?, hl, Nat.add_sub_cancel, List.getElem?_eq_getElem (by omega)]; rfl
  unfold partF
  have e : s.size - 1 = q := by omega
  rw [if_pos hd, this, e]; rfl
theorem u8_sub {c : Nat} (h1 : 48 ≤ c) (h2 : c ≤ 255) : IntKind.u8.wrap ((c : Int) - 48) = (c : Int) - 48 := by
  exact IntWalk.u8_in _ ⟨by omega, by omega⟩
theorem succ_wrap {k : Nat} (h : k ≤ 1000) : wrap64 ((k : Int) + 1) = ((k + 1 : Nat) : Int) := (IntWalk.wrap64_in _ ⟨by omega, by omega⟩).trans rfl
/-- what readFactors leaves: the rows, or nothing -/
def RFok (base n : Nat) (xs : List Value) (r : Option (List FactD)) (w' : World) (v' : Value) (ok : Bool) : Prop :=
  (∃ fs, r = some fs ∧ ok = true ∧ w'.ownsRow base 88 10 v' (n + fs.length) (xs ++ rowsC fs)) ∨ (r = none ∧ v' = .slice none 0 0 ∧ ok = false)
def RFpost (base n : Nat) (xs : List Value) (r : Option (List FactD)) (e : Ending) (w' : World) : Prop := ∃ v' ok, e = .returned (.tuple #[v', .bool ok]) ∧ RFok base n xs r w' v' ok
theorem rfpost_mk {base n : Nat} {xs : List Value} {r : Option (List FactD)} {e : Ending} {w' : World} (v' : Value) (ok : Bool) (h : e = .returned (.tuple #[v', .bool ok])) (h2 : RFok base n xs r w' v' ok) : RFpost base n xs r e w' := ⟨v', ok, h, h2⟩
set_option maxRecDepth 100000 in
set_option maxHeartbeats 4000000 in
theorem rf_core (s : ByteArray) (b : Bool) (ps : List ByteArray) (m n base B : Nat) (v : Value) (xs : List Value) (w : World) (hm : m = ps.length) (hBw : B ≤ w.heap.size) (hBb : B ≤ base) (hbw : base ≤ w.heap.size) (hown : w.ownsRow base 88 10 v n xs) (hn : n + m ≤ 1000) (hsz : ∀ p ∈ ps, p.size ≤ 900)
    (HSp : Hid (Calls Tryz.prog 58 #[.string s, .string ⟨#[46]⟩] w fun e w' => e = .returned (.slice (some ⟨w.heap.size, 0, none⟩) m m) ∧ w' = w.alloc (.cells (ps.map Value.string).toArray 9))) :
    Calls Tryz.prog 47 #[v, .string s, .bool b] w fun e w' => Below B w w' ∧ RFpost base n xs (readF ps b) e w' := by
  have HM := Lib.hid hm
  clear hm
  obtain ⟨i0, hi, hz0, hz1, hz2⟩ := info_parts infoF
  go_enter Tryz.func47, Tryz.ntmps47
  go_wp2_with fail
  refine HSp.out.mono ?_
  rintro e w1 ⟨rfl, rfl⟩
  have hb1 : Below B w (w.alloc (.cells (ps.map Value.string).toArray 9)) := (Below.refl _ _).alloc hBw _
  have ho1 := hown.alloc (.cells (ps.map Value.string).toArray 9)
  have hx1 : (w.alloc (.cells (ps.map Value.string).toArray 9)).heap[w.heap.size]? = some (.cells (ps.map Value.string).toArray 9 (0, 0)) := heap_alloc_new _ _
  have hl1 : w.heap.size < (w.alloc (.cells (ps.map Value.string).toArray 9)).heap.size := by rw [World.size_alloc]; omega
  obtain ⟨W, hW⟩ : ∃ x, x = w.alloc (.cells (ps.map Value.string).toArray 9) := ⟨_, rfl⟩
  obtain ⟨g, hg⟩ : ∃ x, x = w.heap.size := ⟨_, rfl⟩
  rw [← hW, ← hg]
  rw [← hW] at hb1 ho1 hx1 hl1
  rw [← hg] at hx1 hl1
  have HB1 := Lib.hid hb1
  have HO1 := Lib.hid ho1
  have HX1 := Lib.hid hx1
  have HL1 := Lib.hid hl1
  have HBs := Lib.hid (And.intro hBw (And.intro hBb hbw))
  have HLn := Lib.hid hn
  clear hb1 ho1 hx1 hl1 hW hg hBw hBb hbw hown hn
  go_wp2_with fail
  go_loopw [0, 15] (fun v i wr => ∃ k : Nat, k ≤ m ∧ i = .int .i64 k ∧ Hid ((ps.take k).all goodF = true ∧ wr.ownsRow base 88 10 v (n + k) (xs ++ rowsC ((ps.map (partF · b)).take k)) ∧ Below B w wr ∧ wr.heap[g]? = some (.cells (ps.map Value.string).toArray 9 (0, 0)) ∧ g < wr.heap.size)) (fun _ i _ => m - (intOf i).toNat)
  case atStart => exact ⟨0, Nat.zero_le _, rfl, Lib.hid ⟨rfl, by rw [List.take_zero, Nat.add_zero, show rowsC [] = [] from rfl, List.append_nil]; exact HO1.out, HB1.out, HX1.out, HL1.out⟩⟩
  case round =>
    obtain ⟨k, hk, rfl, HH⟩ := hrel
    obtain ⟨hk2, ho, hb, hx, hl⟩ := HH.out
    have HK := Lib.hid hk2
    have HO := Lib.hid ho
    have HB := Lib.hid hb
    have HX := Lib.hid hx
    have HXL := Lib.hid hl
    clear hk2 ho hb hx hl HH
    by_cases hlt : k < m
    · have HLT := Lib.hid hlt
      have HKm := Lib.hid (show k < ps.length by rw [← HM.out]; exact hlt)
      obtain ⟨P, hP⟩ : ∃ P, P = ps.getD k ⟨#[]⟩ := ⟨_, rfl⟩
      have c1 : wr.cell? ⟨g, k, none⟩ = some (.string P) := by
        rw [cell_of_row wr g k _ _ _ HX.out, hP]
        have := HKm.out
        simp [List.getD, this]
      have HPe := Lib.hid hP
      have HSZ := Lib.hid (hsz (ps.getD k ⟨#[]⟩) (by have := HKm.out; rw [List.getD_eq_getElem?_getD, List.getElem?_eq_getElem this]; exact List.getElem_mem this))
      rw [← hP] at HSZ
      have k0 : (0 : Int) ≤ (k : Int) := by omega
      have k1 : (k : Int) < (m : Int) := by omega
      clear hP
      by_cases h0 : P.size = 0
      · have t0 : decide ((0 : Int) ≤ (P.size : Int) - 1) = false := decide_eq_false (by omega)
        have w0 : IntKind.i64.wrap ((P.size : Int) - 1) = (P.size : Int) - 1 := IntWalk.i64_in _ ⟨by omega, by omega⟩
        have HND := Lib.hid (show lastD P = false from last_none h0)
        have HPF := Lib.hid (show partF (ps.getD k ⟨#[]⟩) b = ⟨P, zeroU, 1, b⟩ by rw [← HPe.out]; exact part_plain HND.out)
        have HNM := Lib.hid (show (partF (ps.getD k ⟨#[]⟩) false).nm = P by rw [← HPe.out, part_plain HND.out])
        have hbx := HB.out.alloc (Nat.le_trans HBs.out.1 HB.out.size) (Obj.cells #[.string P, .int .i64 0, .int .i64 0, .int .i64 0, .int .i64 0, .int .i64 0, .int .i64 0, .int .i64 0, .int .i64 1, .bool b] 88)
        have hox := HO.out.alloc (Obj.cells #[.string P, .int .i64 0, .int .i64 0, .int .i64 0, .int .i64 0, .int .i64 0, .int .i64 0, .int .i64 0, .int .i64 1, .bool b] 88)
        have hxx := (heap_alloc_old wr (Obj.cells #[.string P, .int .i64 0, .int .i64 0, .int .i64 0, .int .i64 0, .int .i64 0, .int .i64 0, .int .i64 0, .int .i64 1, .bool b] 88) HXL.out).trans HX.out
        have hxl : g < (wr.alloc (Obj.cells #[.string P, .int .i64 0, .int .i64 0, .int .i64 0, .int .i64 0, .int .i64 0, .int .i64 0, .int .i64 0, .int .i64 1, .bool b] 88)).heap.size := by have := HXL.out; rw [World.size_alloc]; omega
        have hfc := fact_fresh wr P 1 b
        obtain ⟨wx, hwx⟩ : ∃ x, x = wr.alloc (Obj.cells #[.string P, .int .i64 0, .int .i64 0, .int .i64 0, .int .i64 0, .int .i64 0, .int .i64 0, .int .i64 0, .int .i64 1, .bool b] 88) := ⟨_, rfl⟩
        obtain ⟨N, hNe⟩ : ∃ x, x = wr.heap.size := ⟨_, rfl⟩
        go_upto_region 8 with fail
        rw [← hNe, ← hwx]
        rw [← hwx] at hbx hox hxx hxl hfc
        rw [← hNe] at hfc
        have HBx := Lib.hid hbx
        have HOx := Lib.hid hox
        have HXx := Lib.hid hxx
        have HXlt := Lib.hid hxl
        clear hbx hox hxx hxl hwx hNe
        obtain ⟨f0, f1, f2, f3, f4, f5, f6, f7, f8, f9, fz⟩ := hfc
        cases hl : lettersB (P).data.toList
        · have HI := Lib.hid fun w => (by have h := isLetters_any (P) w (Nat.le_trans HSZ.out (by decide)); rw [hl] at h; exact h : Calls Tryz.prog 59 #[.string (P)] w fun e w' => e = .returned (.bool false) ∧ w = w')
          have HF := Lib.hid (show readF ps b = none from readF_none k HKm.out (by unfold goodF; rw [HNM.out]; exact hl))
          clear hl
          go_wp2_with fail
          refine (HI.out _).mono ?_
          rintro e w' ⟨rfl, rfl⟩
          go_wp2_with fail
          go_ret2
          exact ⟨HBx.out, rfpost_mk (.slice none 0 0) false rfl (.inr ⟨HF.out, rfl, rfl⟩)⟩
        · have HI := Lib.hid fun w => (by have h := isLetters_any (P) w (Nat.le_trans HSZ.out (by decide)); rw [hl] at h; exact h : Calls Tryz.prog 59 #[.string (P)] w fun e w' => e = .returned (.bool true) ∧ w = w')
          have HLt := Lib.hid (show goodF (ps.getD k ⟨#[]⟩) = true by unfold goodF; rw [HNM.out]; exact hl)
          clear hl
          go_wp2_with fail
          refine (HI.out _).mono ?_
          rintro e w' ⟨rfl, rfl⟩
          go_wp2_with (at_builtin; refine wpList_append_own _ rfl _ _ 67 rfl base 88 i0 (.agg #[.string ⟨#[]⟩, .int .i64 0, .int .i64 0, .int .i64 0, .int .i64 0, .int .i64 0, .int .i64 0, .int .i64 0, .int .i64 0, .bool false]) 10 88 Tryz.underlying67 hi hz0 hz1 hz2 rfl (by decide) _ _ _ rfl (HOx.out.alloc _) ⟨wx.heap.size, 0, none⟩ 1 1 [.string (P), .int .i64 0, .int .i64 0, .int .i64 0, .int .i64 0, .int .i64 0, .int .i64 0, .int .i64 0, .int .i64 1, .bool b] rfl rfl ?c1 ?c2 ?c3 ?c4 ?c5 ?_)
          case c1 => intro j u hj; exact rows_new (.cells #[.string (P), .int .i64 0, .int .i64 0, .int .i64 0, .int .i64 0, .int .i64 0, .int .i64 0, .int .i64 0, .int .i64 1, .bool b] 88) rfl j u hj
          case c2 => intro u hu; simp at hu; rcases hu with rfl | rfl | rfl | rfl | rfl | rfl | rfl | rfl | rfl | rfl <;> rfl
          case c3 => have := HLn.out; unfold maxLen; omega
          case c4 => have := HLn.out; omega
          case c5 => have := HBs.out; have := HBx.out.size; simp; omega
          intro v' w4 hown4 hgrow _
          have hlt4 := (HOx.out.alloc (.cells #[.string (P), .int .i64 0, .int .i64 0, .int .i64 0, .int .i64 0, .int .i64 0, .int .i64 0, .int .i64 0, .int .i64 1, .bool b] 88)).lt
          have B4 := Lib.hid ((HBx.out.alloc (Nat.le_trans HBs.out.1 HBx.out.size) (.cells #[.string (P), .int .i64 0, .int .i64 0, .int .i64 0, .int .i64 0, .int .i64 0, .int .i64 0, .int .i64 0, .int .i64 1, .bool b] 88)).grown hgrow (by have := HBx.out.size; have := HBs.out; simp; omega) (fun k hk => by have := hlt4 k hk; have := HBs.out; omega))
          have X4 := Lib.hid ((hgrow.block g (by have := HXlt.out; simp; omega) (own_apart (HOx.out.alloc (.cells #[.string (P), .int .i64 0, .int .i64 0, .int .i64 0, .int .i64 0, .int .i64 0, .int .i64 0, .int .i64 0, .int .i64 1, .bool b] 88)) ((heap_alloc_old _ _ HXlt.out).trans HXx.out) (by decide))).trans ((heap_alloc_old _ _ HXlt.out).trans HXx.out))
          have O4 := Lib.hid (show w4.ownsRow base 88 10 v' (n + (k + 1)) (xs ++ rowsC ((ps.map (partF · b)).take (k + 1))) by
            rw [show n + (k + 1) = n + k + 1 by omega, rows_take k HKm.out, HPF.out]
            exact hown4)
          have L4 := Lib.hid (show g < w4.heap.size from Nat.lt_of_lt_of_le (by rw [World.size_alloc]; have := HXlt.out; omega) hgrow.size)
          clear hown4 hgrow hlt4
          go_wp2_with fail
          go_roundw
          case rel => exact ⟨k + 1, by have h1 := HLT.out; omega, by rw [succ_wrap (by have h1 := HLT.out; have h2 := HLn.out; omega)], Lib.hid ⟨all_take k HKm.out HK.out HLt.out, O4.out, B4.out, X4.out, L4.out⟩⟩
          case measure =>
            rw [succ_wrap (by have h1 := HLT.out; have h2 := HLn.out; omega)]
            have h1 := HLT.out
            simp [intOf]
            omega

      · obtain ⟨q, hq⟩ : ∃ q, P.size = q + 1 := ⟨P.size - 1, by omega⟩
        have hql : q < P.size := by omega
        have w0 : IntKind.i64.wrap ((P.size : Int) - 1) = (q : Int) := by rw [hq]; exact (IntWalk.i64_in _ ⟨by have := HSZ.out; omega, by have := HSZ.out; omega⟩).trans (by omega)
        have w1 : (P.size : Int) - 1 = (q : Int) := by omega
        have w2 : wrap64 (q : Int) = (q : Int) := IntWalk.wrap64_in _ ⟨by omega, by have := HSZ.out; omega⟩
        have t0 : decide ((0 : Int) ≤ (q : Int)) = true := decide_eq_true (by omega)
        have z0 : (0 : Int) ≤ (q : Int) := by omega
        have z1 : (q : Int) < (P.size : Int) := by omega
        have z2 : (q : Int) ≤ (P.size : Int) := by omega
        have hlast := last_some hq
        have HQ := Lib.hid hq
        clear h0
        by_cases h1 : P[q].toNat < 50
        · have t1 : decide ((50 : Int) ≤ (P[q].toNat : Int)) = false := decide_eq_false (by omega)
          have HND := Lib.hid (show lastD P = false by rw [hlast, decide_eq_false (show ¬ 50 ≤ P[q].toNat by omega)]; rfl)
          clear h1 hlast hq
          have HPF := Lib.hid (show partF (ps.getD k ⟨#[]⟩) b = ⟨P, zeroU, 1, b⟩ by rw [← HPe.out]; exact part_plain HND.out)
          have HNM := Lib.hid (show (partF (ps.getD k ⟨#[]⟩) false).nm = P by rw [← HPe.out, part_plain HND.out])
          have hbx := HB.out.alloc (Nat.le_trans HBs.out.1 HB.out.size) (Obj.cells #[.string P, .int .i64 0, .int .i64 0, .int .i64 0, .int .i64 0, .int .i64 0, .int .i64 0, .int .i64 0, .int .i64 1, .bool b] 88)
          have hox := HO.out.alloc (Obj.cells #[.string P, .int .i64 0, .int .i64 0, .int .i64 0, .int .i64 0, .int .i64 0, .int .i64 0, .int .i64 0, .int .i64 1, .bool b] 88)
          have hxx := (heap_alloc_old wr (Obj.cells #[.string P, .int .i64 0, .int .i64 0, .int .i64 0, .int .i64 0, .int .i64 0, .int .i64 0, .int .i64 0, .int .i64 1, .bool b] 88) HXL.out).trans HX.out
          have hxl : g < (wr.alloc (Obj.cells #[.string P, .int .i64 0, .int .i64 0, .int .i64 0, .int .i64 0, .int .i64 0, .int .i64 0, .int .i64 0, .int .i64 1, .bool b] 88)).heap.size := by have := HXL.out; rw [World.size_alloc]; omega
          have hfc := fact_fresh wr P 1 b
          obtain ⟨wx, hwx⟩ : ∃ x, x = wr.alloc (Obj.cells #[.string P, .int .i64 0, .int .i64 0, .int .i64 0, .int .i64 0, .int .i64 0, .int .i64 0, .int .i64 0, .int .i64 1, .bool b] 88) := ⟨_, rfl⟩
          obtain ⟨N, hNe⟩ : ∃ x, x = wr.heap.size := ⟨_, rfl⟩
          go_upto_region 8 with fail
          rw [← hNe, ← hwx]
          rw [← hwx] at hbx hox hxx hxl hfc
          rw [← hNe] at hfc
          have HBx := Lib.hid hbx
          have HOx := Lib.hid hox
          have HXx := Lib.hid hxx
          have HXlt := Lib.hid hxl
          clear hbx hox hxx hxl hwx hNe
          obtain ⟨f0, f1, f2, f3, f4, f5, f6, f7, f8, f9, fz⟩ := hfc
          cases hl : lettersB (P).data.toList
          · have HI := Lib.hid fun w => (by have h := isLetters_any (P) w (Nat.le_trans HSZ.out (by decide)); rw [hl] at h; exact h : Calls Tryz.prog 59 #[.string (P)] w fun e w' => e = .returned (.bool false) ∧ w = w')
            have HF := Lib.hid (show readF ps b = none from readF_none k HKm.out (by unfold goodF; rw [HNM.out]; exact hl))
            clear hl
            go_wp2_with fail
            refine (HI.out _).mono ?_
            rintro e w' ⟨rfl, rfl⟩
            go_wp2_with fail
            go_ret2
            exact ⟨HBx.out, rfpost_mk (.slice none 0 0) false rfl (.inr ⟨HF.out, rfl, rfl⟩)⟩
          · have HI := Lib.hid fun w => (by have h := isLetters_any (P) w (Nat.le_trans HSZ.out (by decide)); rw [hl] at h; exact h : Calls Tryz.prog 59 #[.string (P)] w fun e w' => e = .returned (.bool true) ∧ w = w')
            have HLt := Lib.hid (show goodF (ps.getD k ⟨#[]⟩) = true by unfold goodF; rw [HNM.out]; exact hl)
            clear hl
            go_wp2_with fail
            refine (HI.out _).mono ?_
            rintro e w' ⟨rfl, rfl⟩
            go_wp2_with (at_builtin; refine wpList_append_own _ rfl _ _ 67 rfl base 88 i0 (.agg #[.string ⟨#[]⟩, .int .i64 0, .int .i64 0, .int .i64 0, .int .i64 0, .int .i64 0, .int .i64 0, .int .i64 0, .int .i64 0, .bool false]) 10 88 Tryz.underlying67 hi hz0 hz1 hz2 rfl (by decide) _ _ _ rfl (HOx.out.alloc _) ⟨wx.heap.size, 0, none⟩ 1 1 [.string (P), .int .i64 0, .int .i64 0, .int .i64 0, .int .i64 0, .int .i64 0, .int .i64 0, .int .i64 0, .int .i64 1, .bool b] rfl rfl ?c1 ?c2 ?c3 ?c4 ?c5 ?_)
            case c1 => intro j u hj; exact rows_new (.cells #[.string (P), .int .i64 0, .int .i64 0, .int .i64 0, .int .i64 0, .int .i64 0, .int .i64 0, .int .i64 0, .int .i64 1, .bool b] 88) rfl j u hj
            case c2 => intro u hu; simp at hu; rcases hu with rfl | rfl | rfl | rfl | rfl | rfl | rfl | rfl | rfl | rfl <;> rfl
            case c3 => have := HLn.out; unfold maxLen; omega
            case c4 => have := HLn.out; omega
            case c5 => have := HBs.out; have := HBx.out.size; simp; omega
            intro v' w4 hown4 hgrow _
            have hlt4 := (HOx.out.alloc (.cells #[.string (P), .int .i64 0, .int .i64 0, .int .i64 0, .int .i64 0, .int .i64 0, .int .i64 0, .int .i64 0, .int .i64 1, .bool b] 88)).lt
            have B4 := Lib.hid ((HBx.out.alloc (Nat.le_trans HBs.out.1 HBx.out.size) (.cells #[.string (P), .int .i64 0, .int .i64 0, .int .i64 0, .int .i64 0, .int .i64 0, .int .i64 0, .int .i64 0, .int .i64 1, .bool b] 88)).grown hgrow (by have := HBx.out.size; have := HBs.out; simp; omega) (fun k hk => by have := hlt4 k hk; have := HBs.out; omega))
            have X4 := Lib.hid ((hgrow.block g (by have := HXlt.out; simp; omega) (own_apart (HOx.out.alloc (.cells #[.string (P), .int .i64 0, .int .i64 0, .int .i64 0, .int .i64 0, .int .i64 0, .int .i64 0, .int .i64 0, .int .i64 1, .bool b] 88)) ((heap_alloc_old _ _ HXlt.out).trans HXx.out) (by decide))).trans ((heap_alloc_old _ _ HXlt.out).trans HXx.out))
            have O4 := Lib.hid (show w4.ownsRow base 88 10 v' (n + (k + 1)) (xs ++ rowsC ((ps.map (partF · b)).take (k + 1))) by
              rw [show n + (k + 1) = n + k + 1 by omega, rows_take k HKm.out, HPF.out]
              exact hown4)
            have L4 := Lib.hid (show g < w4.heap.size from Nat.lt_of_lt_of_le (by rw [World.size_alloc]; have := HXlt.out; omega) hgrow.size)
            clear hown4 hgrow hlt4
            go_wp2_with fail
            go_roundw
            case rel => exact ⟨k + 1, by have h1 := HLT.out; omega, by rw [succ_wrap (by have h1 := HLT.out; have h2 := HLn.out; omega)], Lib.hid ⟨all_take k HKm.out HK.out HLt.out, O4.out, B4.out, X4.out, L4.out⟩⟩
            case measure =>
              rw [succ_wrap (by have h1 := HLT.out; have h2 := HLn.out; omega)]
              have h1 := HLT.out
              simp [intOf]
              omega

        · by_cases h2 : 57 < P[q].toNat
          · have t1 : decide ((50 : Int) ≤ (P[q].toNat : Int)) = true := decide_eq_true (by omega)
            have t2 : decide ((P[q].toNat : Int) ≤ 57) = false := decide_eq_false (by omega)
            have HND := Lib.hid (show lastD P = false by rw [hlast, decide_eq_false (show ¬ P[q].toNat ≤ 57 by omega), Bool.and_false])
            clear h1 h2 hlast hq
            have HPF := Lib.hid (show partF (ps.getD k ⟨#[]⟩) b = ⟨P, zeroU, 1, b⟩ by rw [← HPe.out]; exact part_plain HND.out)
            have HNM := Lib.hid (show (partF (ps.getD k ⟨#[]⟩) false).nm = P by rw [← HPe.out, part_plain HND.out])
            have hbx := HB.out.alloc (Nat.le_trans HBs.out.1 HB.out.size) (Obj.cells #[.string P, .int .i64 0, .int .i64 0, .int .i64 0, .int .i64 0, .int .i64 0, .int .i64 0, .int .i64 0, .int .i64 1, .bool b] 88)
            have hox := HO.out.alloc (Obj.cells #[.string P, .int .i64 0, .int .i64 0, .int .i64 0, .int .i64 0, .int .i64 0, .int .i64 0, .int .i64 0, .int .i64 1, .bool b] 88)
            have hxx := (heap_alloc_old wr (Obj.cells #[.string P, .int .i64 0, .int .i64 0, .int .i64 0, .int .i64 0, .int .i64 0, .int .i64 0, .int .i64 0, .int .i64 1, .bool b] 88) HXL.out).trans HX.out
            have hxl : g < (wr.alloc (Obj.cells #[.string P, .int .i64 0, .int .i64 0, .int .i64 0, .int .i64 0, .int .i64 0, .int .i64 0, .int .i64 0, .int .i64 1, .bool b] 88)).heap.size := by have := HXL.out; rw [World.size_alloc]; omega
            have hfc := fact_fresh wr P 1 b
            obtain ⟨wx, hwx⟩ : ∃ x, x = wr.alloc (Obj.cells #[.string P, .int .i64 0, .int .i64 0, .int .i64 0, .int .i64 0, .int .i64 0, .int .i64 0, .int .i64 0, .int .i64 1, .bool b] 88) := ⟨_, rfl⟩
            obtain ⟨N, hNe⟩ : ∃ x, x = wr.heap.size := ⟨_, rfl⟩
            go_upto_region 8 with fail
            rw [← hNe, ← hwx]
            rw [← hwx] at hbx hox hxx hxl hfc
            rw [← hNe] at hfc
            have HBx := Lib.hid hbx
            have HOx := Lib.hid hox
            have HXx := Lib.hid hxx
            have HXlt := Lib.hid hxl
            clear hbx hox hxx hxl hwx hNe
            obtain ⟨f0, f1, f2, f3, f4, f5, f6, f7, f8, f9, fz⟩ := hfc
            cases hl : lettersB (P).data.toList
            · have HI := Lib.hid fun w => (by have h := isLetters_any (P) w (Nat.le_trans HSZ.out (by decide)); rw [hl] at h; exact h : Calls Tryz.prog 59 #[.string (P)] w fun e w' => e = .returned (.bool false) ∧ w = w')
              have HF := Lib.hid (show readF ps b = none from readF_none k HKm.out (by unfold goodF; rw [HNM.out]; exact hl))
              clear hl
              go_wp2_with fail
              refine (HI.out _).mono ?_
              rintro e w' ⟨rfl, rfl⟩
              go_wp2_with fail
              go_ret2
              exact ⟨HBx.out, rfpost_mk (.slice none 0 0) false rfl (.inr ⟨HF.out, rfl, rfl⟩)⟩
            · have HI := Lib.hid fun w => (by have h := isLetters_any (P) w (Nat.le_trans HSZ.out (by decide)); rw [hl] at h; exact h : Calls Tryz.prog 59 #[.string (P)] w fun e w' => e = .returned (.bool true) ∧ w = w')
              have HLt := Lib.hid (show goodF (ps.getD k ⟨#[]⟩) = true by unfold goodF; rw [HNM.out]; exact hl)
              clear hl
              go_wp2_with fail
              refine (HI.out _).mono ?_
              rintro e w' ⟨rfl, rfl⟩
              go_wp2_with (at_builtin; refine wpList_append_own _ rfl _ _ 67 rfl base 88 i0 (.agg #[.string ⟨#[]⟩, .int .i64 0, .int .i64 0, .int .i64 0, .int .i64 0, .int .i64 0, .int .i64 0, .int .i64 0, .int .i64 0, .bool false]) 10 88 Tryz.underlying67 hi hz0 hz1 hz2 rfl (by decide) _ _ _ rfl (HOx.out.alloc _) ⟨wx.heap.size, 0, none⟩ 1 1 [.string (P), .int .i64 0, .int .i64 0, .int .i64 0, .int .i64 0, .int .i64 0, .int .i64 0, .int .i64 0, .int .i64 1, .bool b] rfl rfl ?c1 ?c2 ?c3 ?c4 ?c5 ?_)
              case c1 => intro j u hj; exact rows_new (.cells #[.string (P), .int .i64 0, .int .i64 0, .int .i64 0, .int .i64 0, .int .i64 0, .int .i64 0, .int .i64 0, .int .i64 1, .bool b] 88) rfl j u hj
              case c2 => intro u hu; simp at hu; rcases hu with rfl | rfl | rfl | rfl | rfl | rfl | rfl | rfl | rfl | rfl <;> rfl
              case c3 => have := HLn.out; unfold maxLen; omega
              case c4 => have := HLn.out; omega
              case c5 => have := HBs.out; have := HBx.out.size; simp; omega
              intro v' w4 hown4 hgrow _
              have hlt4 := (HOx.out.alloc (.cells #[.string (P), .int .i64 0, .int .i64 0, .int .i64 0, .int .i64 0, .int .i64 0, .int .i64 0, .int .i64 0, .int .i64 1, .bool b] 88)).lt
              have B4 := Lib.hid ((HBx.out.alloc (Nat.le_trans HBs.out.1 HBx.out.size) (.cells #[.string (P), .int .i64 0, .int .i64 0, .int .i64 0, .int .i64 0, .int .i64 0, .int .i64 0, .int .i64 0, .int .i64 1, .bool b] 88)).grown hgrow (by have := HBx.out.size; have := HBs.out; simp; omega) (fun k hk => by have := hlt4 k hk; have := HBs.out; omega))
              have X4 := Lib.hid ((hgrow.block g (by have := HXlt.out; simp; omega) (own_apart (HOx.out.alloc (.cells #[.string (P), .int .i64 0, .int .i64 0, .int .i64 0, .int .i64 0, .int .i64 0, .int .i64 0, .int .i64 0, .int .i64 1, .bool b] 88)) ((heap_alloc_old _ _ HXlt.out).trans HXx.out) (by decide))).trans ((heap_alloc_old _ _ HXlt.out).trans HXx.out))
              have O4 := Lib.hid (show w4.ownsRow base 88 10 v' (n + (k + 1)) (xs ++ rowsC ((ps.map (partF · b)).take (k + 1))) by
                rw [show n + (k + 1) = n + k + 1 by omega, rows_take k HKm.out, HPF.out]
                exact hown4)
              have L4 := Lib.hid (show g < w4.heap.size from Nat.lt_of_lt_of_le (by rw [World.size_alloc]; have := HXlt.out; omega) hgrow.size)
              clear hown4 hgrow hlt4
              go_wp2_with fail
              go_roundw
              case rel => exact ⟨k + 1, by have h1 := HLT.out; omega, by rw [succ_wrap (by have h1 := HLT.out; have h2 := HLn.out; omega)], Lib.hid ⟨all_take k HKm.out HK.out HLt.out, O4.out, B4.out, X4.out, L4.out⟩⟩
              case measure =>
                rw [succ_wrap (by have h1 := HLT.out; have h2 := HLn.out; omega)]
                have h1 := HLT.out
                simp [intOf]
                omega

          · have t1 : decide ((50 : Int) ≤ (P[q].toNat : Int)) = true := decide_eq_true (by omega)
            have t2 : decide ((P[q].toNat : Int) ≤ 57) = true := decide_eq_true (by omega)
            have HLD := Lib.hid (show lastD P = true by rw [hlast, decide_eq_true (show 50 ≤ P[q].toNat by omega), decide_eq_true (show P[q].toNat ≤ 57 by omega)]; rfl)
            have v0 : IntKind.u8.wrap ((P[q].toNat : Int) - 48) = (P[q].toNat : Int) - 48 := u8_sub (by omega) (by omega)
            have v1 : IntKind.i64.wrap ((P[q].toNat : Int) - 48) = (P[q].toNat : Int) - 48 := IntWalk.i64_in _ ⟨by omega, by omega⟩
            have v2 : wrap64 ((P[q].toNat : Int) - 48) = (P[q].toNat : Int) - 48 := IntWalk.wrap64_in _ ⟨by omega, by omega⟩
            clear h1 h2 hlast hq
            have HSE := Lib.hid (show (P.extract 0 q).size ≤ 1000 by rw [ByteArray.size_extract]; have := HSZ.out; omega)
            have HPF := Lib.hid (show partF (ps.getD k ⟨#[]⟩) b = ⟨P.extract 0 q, zeroU, (P[q].toNat : Int) - 48, b⟩ by rw [← HPe.out]; exact part_digit HQ.out HLD.out)
            have HNM := Lib.hid (show (partF (ps.getD k ⟨#[]⟩) false).nm = P.extract 0 q by rw [← HPe.out, part_digit HQ.out HLD.out])
            have hbx := HB.out.alloc (Nat.le_trans HBs.out.1 HB.out.size) (Obj.cells #[.string P, .int .i64 0, .int .i64 0, .int .i64 0, .int .i64 0, .int .i64 0, .int .i64 0, .int .i64 0, .int .i64 1, .bool b] 88)
            have hox := HO.out.alloc (Obj.cells #[.string P, .int .i64 0, .int .i64 0, .int .i64 0, .int .i64 0, .int .i64 0, .int .i64 0, .int .i64 0, .int .i64 1, .bool b] 88)
            have hon := HO.out.lt
            have hxx := (heap_alloc_old wr (Obj.cells #[.string P, .int .i64 0, .int .i64 0, .int .i64 0, .int .i64 0, .int .i64 0, .int .i64 0, .int .i64 0, .int .i64 1, .bool b] 88) HXL.out).trans HX.out
            have hxl : g < (wr.alloc (Obj.cells #[.string P, .int .i64 0, .int .i64 0, .int .i64 0, .int .i64 0, .int .i64 0, .int .i64 0, .int .i64 0, .int .i64 1, .bool b] 88)).heap.size := by have := HXL.out; rw [World.size_alloc]; omega
            have hgN : wr.heap.size ≠ g := by have := HXL.out; omega
            have hBN : B ≤ wr.heap.size := Nat.le_trans HBs.out.1 HB.out.size
            have hfc := fact_fresh wr P 1 b
            have hoN : ∀ kk, u0.ownBlock = some kk → kk ≠ wr.heap.size := fun kk h => by have := (hon kk h).2; omega
            obtain ⟨wx, hwx⟩ : ∃ x, x = wr.alloc (Obj.cells #[.string P, .int .i64 0, .int .i64 0, .int .i64 0, .int .i64 0, .int .i64 0, .int .i64 0, .int .i64 0, .int .i64 1, .bool b] 88) := ⟨_, rfl⟩
            obtain ⟨N, hNe⟩ : ∃ x, x = wr.heap.size := ⟨_, rfl⟩
            go_upto_region 7 with fail
            rw [← hNe, ← hwx]
            rw [← hwx] at hbx hox hxx hxl hfc
            rw [← hNe] at hfc hgN hBN hoN
            have HBy := Lib.hid hbx
            have HOy := Lib.hid hox
            have HXy := Lib.hid hxx
            have HXly := Lib.hid hxl
            have HFy := Lib.hid hfc
            have n0 := hfc.c0
            have n8 := hfc.c8
            have nz := hfc.fz
            have HT := Lib.hid (show 0 ≤ wx.heap.size from Nat.zero_le _)
            have HoN := Lib.hid hoN
            clear hbx hox hxx hxl hwx hNe hfc hon hoN
            set_option warningAsError false in go_region_held3 (fun w' => 0 ≤ w'.heap.size)
              (first | exact Nat.zero_le _ | go_keep)
              ((fail))
            all_goals
              rename_i hHeld
              clear hHeld
              have hbz : Below B w (((wx.setCell ⟨N, 0, none⟩ (.string (P.extract 0 q))).setCell ⟨N, 8, none⟩ (.int .i64 ((P[q].toNat : Int) - 48))).drew) := ((HBy.out.setCell hBN _).setCell hBN _).drew
              have hoz := own_set (x := .string (P.extract 0 q)) (y := .int .i64 ((P[q].toNat : Int) - 48)) HOy.out HoN.out
              have hxz := heap_set (x := .string (P.extract 0 q)) (y := .int .i64 ((P[q].toNat : Int) - 48)) (N := N) HXy.out (fun e => hgN e.symm)
              have hlz : g < ((((wx.setCell ⟨N, 0, none⟩ (.string (P.extract 0 q))).setCell ⟨N, 8, none⟩ (.int .i64 ((P[q].toNat : Int) - 48))).drew)).heap.size := by have := HXly.out; simpa using this
              have hfz := HFy.out.put (P.extract 0 q) ((P[q].toNat : Int) - 48)
              obtain ⟨wz, hwz⟩ : ∃ x, x = (((wx.setCell ⟨N, 0, none⟩ (.string (P.extract 0 q))).setCell ⟨N, 8, none⟩ (.int .i64 ((P[q].toNat : Int) - 48))).drew) := ⟨_, rfl⟩
              rw [← hwz] at hbz hoz hxz hlz hfz ⊢
              have HBx := Lib.hid hbz
              have HOx := Lib.hid hoz
              have HXx := Lib.hid hxz
              have HXlt := Lib.hid hlz
              clear hbz hoz hxz hlz hwz n0 n8 nz HBy HOy HXy HXly HFy
              obtain ⟨f0, f1, f2, f3, f4, f5, f6, f7, f8, f9, fz⟩ := hfz
              cases hl : lettersB (P.extract 0 q).data.toList
              · have HI := Lib.hid fun w => (by have h := isLetters_any (P.extract 0 q) w HSE.out; rw [hl] at h; exact h : Calls Tryz.prog 59 #[.string (P.extract 0 q)] w fun e w' => e = .returned (.bool false) ∧ w = w')
                have HF := Lib.hid (show readF ps b = none from readF_none k HKm.out (by unfold goodF; rw [HNM.out]; exact hl))
                clear hl
                go_wp2_with fail
                refine (HI.out _).mono ?_
                rintro e w' ⟨rfl, rfl⟩
                go_wp2_with fail
                go_ret2
                exact ⟨HBx.out, rfpost_mk (.slice none 0 0) false rfl (.inr ⟨HF.out, rfl, rfl⟩)⟩
              · have HI := Lib.hid fun w => (by have h := isLetters_any (P.extract 0 q) w HSE.out; rw [hl] at h; exact h : Calls Tryz.prog 59 #[.string (P.extract 0 q)] w fun e w' => e = .returned (.bool true) ∧ w = w')
                have HLt := Lib.hid (show goodF (ps.getD k ⟨#[]⟩) = true by unfold goodF; rw [HNM.out]; exact hl)
                clear hl
                go_wp2_with fail
                refine (HI.out _).mono ?_
                rintro e w' ⟨rfl, rfl⟩
                go_wp2_with (at_builtin; refine wpList_append_own _ rfl _ _ 67 rfl base 88 i0 (.agg #[.string ⟨#[]⟩, .int .i64 0, .int .i64 0, .int .i64 0, .int .i64 0, .int .i64 0, .int .i64 0, .int .i64 0, .int .i64 0, .bool false]) 10 88 Tryz.underlying67 hi hz0 hz1 hz2 rfl (by decide) _ _ _ rfl (HOx.out.alloc _) ⟨wz.heap.size, 0, none⟩ 1 1 [.string (P.extract 0 q), .int .i64 0, .int .i64 0, .int .i64 0, .int .i64 0, .int .i64 0, .int .i64 0, .int .i64 0, .int .i64 ((P[q].toNat : Int) - 48), .bool b] rfl rfl ?c1 ?c2 ?c3 ?c4 ?c5 ?_)
                case c1 => intro j u hj; exact rows_new (.cells #[.string (P.extract 0 q), .int .i64 0, .int .i64 0, .int .i64 0, .int .i64 0, .int .i64 0, .int .i64 0, .int .i64 0, .int .i64 ((P[q].toNat : Int) - 48), .bool b] 88) rfl j u hj
                case c2 => intro u hu; simp at hu; rcases hu with rfl | rfl | rfl | rfl | rfl | rfl | rfl | rfl | rfl | rfl <;> rfl
                case c3 => have := HLn.out; unfold maxLen; omega
                case c4 => have := HLn.out; omega
                case c5 => have := HBs.out; have := HBx.out.size; simp; omega
                intro v' w4 hown4 hgrow _
                have hlt4 := (HOx.out.alloc (.cells #[.string (P.extract 0 q), .int .i64 0, .int .i64 0, .int .i64 0, .int .i64 0, .int .i64 0, .int .i64 0, .int .i64 0, .int .i64 ((P[q].toNat : Int) - 48), .bool b] 88)).lt
                have B4 := Lib.hid ((HBx.out.alloc (Nat.le_trans HBs.out.1 HBx.out.size) (.cells #[.string (P.extract 0 q), .int .i64 0, .int .i64 0, .int .i64 0, .int .i64 0, .int .i64 0, .int .i64 0, .int .i64 0, .int .i64 ((P[q].toNat : Int) - 48), .bool b] 88)).grown hgrow (by have := HBx.out.size; have := HBs.out; simp; omega) (fun k hk => by have := hlt4 k hk; have := HBs.out; omega))
                have X4 := Lib.hid ((hgrow.block g (by have := HXlt.out; simp; omega) (own_apart (HOx.out.alloc (.cells #[.string (P.extract 0 q), .int .i64 0, .int .i64 0, .int .i64 0, .int .i64 0, .int .i64 0, .int .i64 0, .int .i64 0, .int .i64 ((P[q].toNat : Int) - 48), .bool b] 88)) ((heap_alloc_old _ _ HXlt.out).trans HXx.out) (by decide))).trans ((heap_alloc_old _ _ HXlt.out).trans HXx.out))
                have O4 := Lib.hid (show w4.ownsRow base 88 10 v' (n + (k + 1)) (xs ++ rowsC ((ps.map (partF · b)).take (k + 1))) by
                  rw [show n + (k + 1) = n + k + 1 by omega, rows_take k HKm.out, HPF.out]
                  exact hown4)
                have L4 := Lib.hid (show g < w4.heap.size from Nat.lt_of_lt_of_le (by rw [World.size_alloc]; have := HXlt.out; omega) hgrow.size)
                clear hown4 hgrow hlt4
                go_wp2_with fail
                go_roundw
                case rel => exact ⟨k + 1, by have h1 := HLT.out; omega, by rw [succ_wrap (by have h1 := HLT.out; have h2 := HLn.out; omega)], Lib.hid ⟨all_take k HKm.out HK.out HLt.out, O4.out, B4.out, X4.out, L4.out⟩⟩
                case measure =>
                  rw [succ_wrap (by have h1 := HLT.out; have h2 := HLn.out; omega)]
                  have h1 := HLT.out
                  simp [intOf]
                  omega

    · obtain rfl : k = m := by omega
      have HF := Lib.hid (show readF ps b = some (ps.map (partF · b)) by unfold readF; rw [if_pos (by have := HK.out; rwa [List.take_of_length_le (by rw [← HM.out]; exact Nat.le_refl _)] at this)])
      have HO2 := Lib.hid (show wr.ownsRow base 88 10 u0 (n + (ps.map (partF · b)).length) (xs ++ rowsC (ps.map (partF · b))) by
        have := HO.out
        rw [List.take_of_length_le (by rw [List.length_map, ← HM.out]; exact Nat.le_refl _)] at this
        rwa [List.length_map, ← HM.out])
      go_wp2_with fail
      go_ret2
      exact ⟨HB.out, rfpost_mk u0 true rfl (.inl ⟨_, HF.out, rfl, HO2.out⟩)⟩

theorem split_size (sep : ByteArray) : ∀ (k : Nat) (s p : ByteArray), p ∈ Lib.splitB sep 0 k s → p.size ≤ s.size
  | 0, s, p, h => by
    rw [Lib.splitB_zero] at h
    rw [List.mem_singleton.1 h]; exact Nat.le_refl _
  | k + 1, s, p, h => by
    unfold Lib.splitB at h
    split at h
    · rw [List.mem_singleton.1 h]; exact Nat.le_refl _
    · rcases List.mem_cons.1 h with rfl | h
      · rw [ByteArray.size_extract]; omega
      · have := split_size sep k _ p h
        rw [ByteArray.size_extract] at this
        omega
theorem parts_size (s : ByteArray) (c : UInt8) (p : ByteArray) (h : p ∈ partsB s c) : p.size ≤ s.size := split_size _ _ _ _ h
theorem readFactors_any (s : ByteArray) (b : Bool) (n base B : Nat) (v : Value) (xs : List Value) (w : World) (hs : s.size ≤ 100) (hBw : B ≤ w.heap.size) (hBb : B ≤ base) (hbw : base ≤ w.heap.size) (hown : w.ownsRow base 88 10 v n xs) (hn : n ≤ 500) :
    Calls Tryz.prog 47 #[v, .string s, .bool b] w fun e w' => Below B w w' ∧ RFpost base n xs (readF (partsB s 46) b) e w' := by
  have hlen : (partsB s 46).length = Lib.countB s ⟨#[46]⟩ + 1 := Lib.splitB_all ⟨#[46]⟩ (Nat.le_refl 1) 0 _ s rfl
  have hle := Lib.countB_le ⟨#[46]⟩ (Nat.le_refl 1) s.size s (Nat.le_refl _)
  have hS := split_one s 46 w hs
  rw [← hlen] at hS
  refine rf_core s b (partsB s 46) _ n base B v xs w rfl hBw hBb hbw hown (by omega) (fun p hp => ?_) (Lib.hid hS)
  have := parts_size s 46 p hp
  omega
end Go.Proofs.YtlahoohgbfjciaaGreatDoor
