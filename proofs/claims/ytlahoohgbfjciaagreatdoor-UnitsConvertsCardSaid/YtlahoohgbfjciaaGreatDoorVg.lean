/- The contract of units.findUnits. -/
import Derived.Test.YtlahoohgbfjciaaGreatDoorVf
import Derived.Laws.IdiomCopy
import Derived.Laws.Tables
namespace Go.Proofs.YtlahoohgbfjciaaGreatDoor
open Go.RowKit Go.Shelf

/-- the rows behind k rounds -/
def mixF (fs : List FactD) (k : Nat) : List FactD := unitsF (fs.take k) ++ fs.drop k
theorem unitsF_len (fs : List FactD) : (unitsF fs).length = fs.length := by unfold unitsF; rw [List.length_map]
theorem mix_at {fs : List FactD} {k : Nat} {f : FactD} (h : fs[k]? = some f) : (mixF fs k)[k]? = some f := by
  have hk : k < fs.length := (List.getElem?_eq_some_iff.1 h).1
  unfold mixF
  rw [List.getElem?_append_right (by rw [unitsF_len, List.length_take]; omega), unitsF_len, List.length_take, Nat.min_eq_left (by omega), Nat.sub_self, List.getElem?_drop]
  simpa using h
theorem mix_step {fs : List FactD} {k : Nat} {f : FactD} (h : fs[k]? = some f) : (mixF fs k).set k (withU f ((unitOfL f.nm).getD zeroU)) = mixF fs (k + 1) := by
  have hk : k < fs.length := (List.getElem?_eq_some_iff.1 h).1
  have hf : fs[k] = f := (List.getElem?_eq_some_iff.1 h).2
  have hl : (unitsF (fs.take k)).length = k := by rw [unitsF_len, List.length_take]; omega
  unfold mixF
  rw [List.set_append_right _ _ (by omega), hl, Nat.sub_self, List.drop_eq_getElem_cons hk, hf, List.set_cons_zero, List.take_succ_eq_append_getElem hk, hf]
  unfold unitsF
  rw [List.map_append, List.append_assoc]
  rfl
theorem known_step {fs : List FactD} {k : Nat} {f : FactD} (h : fs[k]? = some f) (h1 : known (fs.take k) = true) (h2 : (unitOfL f.nm).isSome = true) : known (fs.take (k + 1)) = true := by
  have hk : k < fs.length := (List.getElem?_eq_some_iff.1 h).1
  have hf : fs[k] = f := (List.getElem?_eq_some_iff.1 h).2
  unfold known at h1 ⊢
  rw [List.take_succ_eq_append_getElem hk, hf, List.all_append, h1, List.all_cons, List.all_nil, h2]; rfl
theorem own_rowU {w : World} {base g n cap : Nat} {e : TypeId} {xs : List Value} (h : w.ownsRow base e 10 (.slice (some ⟨g, 0, none⟩) n cap) n xs) (k : Nat) (u : UnitD) : (((((((w.setCell ⟨g, k * 10 + 1, none⟩ (.int .i64 u.e0)).setCell ⟨g, k * 10 + 2, none⟩ (.int .i64 u.e1)).setCell ⟨g, k * 10 + 3, none⟩ (.int .i64 u.e2)).setCell ⟨g, k * 10 + 4, none⟩ (.int .i64 u.e3)).setCell ⟨g, k * 10 + 5, none⟩ (.int .i64 u.n)).setCell ⟨g, k * 10 + 6, none⟩ (.int .i64 u.d)).setCell ⟨g, k * 10 + 7, none⟩ (.int .i64 u.o)).ownsRow base e 10 (.slice (some ⟨g, 0, none⟩) n cap) n (setRowU xs k u) :=
  (((((((h.stored _ _).1.stored _ _).1.stored _ _).1.stored _ _).1.stored _ _).1.stored _ _).1.stored _ _).1
theorem below_rowU {w0 w : World} {B g : Nat} (h : Below B w0 w) (hg : B ≤ g) (k : Nat) (u : UnitD) : Below B w0 (((((((w.setCell ⟨g, k * 10 + 1, none⟩ (.int .i64 u.e0)).setCell ⟨g, k * 10 + 2, none⟩ (.int .i64 u.e1)).setCell ⟨g, k * 10 + 3, none⟩ (.int .i64 u.e2)).setCell ⟨g, k * 10 + 4, none⟩ (.int .i64 u.e3)).setCell ⟨g, k * 10 + 5, none⟩ (.int .i64 u.n)).setCell ⟨g, k * 10 + 6, none⟩ (.int .i64 u.d)).setCell ⟨g, k * 10 + 7, none⟩ (.int .i64 u.o)) :=
  ((((((h.setCell hg _).setCell hg _).setCell hg _).setCell hg _).setCell hg _).setCell hg _).setCell hg _
theorem find_unknown {fs : List FactD} {k : Nat} {f : FactD} (h : fs[k]? = some f) (h1 : unitOfL f.nm = none) : findE fs = 3 := by
  have hm : f ∈ fs := List.mem_of_getElem? h
  have : known fs = false := by
    unfold known
    rw [List.all_eq_false]
    exact ⟨f, hm, by rw [h1]; simp⟩
  unfold findE
  rw [if_pos this]
def unitCs (u : UnitD) : List Value := [.int .i64 u.e0, .int .i64 u.e1, .int .i64 u.e2, .int .i64 u.e3, .int .i64 u.n, .int .i64 u.d, .int .i64 u.o]
theorem own_cellsU {w : World} {base g n cap : Nat} {e : TypeId} {xs : List Value} (h : w.ownsRow base e 10 (.slice (some ⟨g, 0, none⟩) n cap) n xs) (k : Nat) (u : UnitD) : (w.setCells g (k * 10 + 1) (unitCs u)).ownsRow base e 10 (.slice (some ⟨g, 0, none⟩) n cap) n (setRowU xs k u) := own_rowU h k u
theorem below_cellsU {w0 w : World} {B g : Nat} (h : Below B w0 w) (hg : B ≤ g) (k : Nat) (u : UnitD) : Below B w0 (w.setCells g (k * 10 + 1) (unitCs u)) := below_rowU h hg k u
theorem infoU7 : (Tryz.prog.info? 28).map (·.size) = some 7 := by kernel_rfl
/-- a whole unit is stored at any place of a row -/
theorem wpList_store_unit {ops : Array Oper} {rest : List Oper} {o : Oper} {a : Act} {w : World} {Q : Exit → Act → World → Prop} (hgd : o.guard = none) (ty : TypeId) (x y : Operand) (ho : o.op = .store ty x y)
    (g off : Nat) (y0 y1 y2 y3 yn yd yo : Int) (hx : a.eval x = .pointer (some ⟨g, off, none⟩)) (hy : a.eval y = .agg #[.int .i64 y0, .int .i64 y1, .int .i64 y2, .int .i64 y3, .int .i64 yn, .int .i64 yd, .int .i64 yo])
    (hi : (Tryz.prog.info? ty).map (·.size) = some 7) (hc : ∀ j, j < 7 → (w.cell? ⟨g, off + j, none⟩).isSome = true) (hf : ∀ j, w.frozen? ⟨g, j, none⟩ = false)
    (h : wpList Tryz.prog ops Q rest (a.put o.dst undef) (w.setCells g off [.int .i64 y0, .int .i64 y1, .int .i64 y2, .int .i64 y3, .int .i64 yn, .int .i64 yd, .int .i64 yo])) : wpList Tryz.prog ops Q (o :: rest) a w :=
  wpList_plain hgd fun K hK => by
    have hr := run_storeCells_cells (P := Tryz.prog) g off [.int .i64 y0, .int .i64 y1, .int .i64 y2, .int .i64 y3, .int .i64 yn, .int .i64 yd, .int .i64 yo] 0 w (fun j hj => hc j hj) (fun j _ => hf _) (fun v hv => by
      simp only [List.mem_cons, List.not_mem_nil, or_false] at hv
      rcases hv with rfl | rfl | rfl | rfl | rfl | rfl | rfl <;> rfl)
    unfold Oper.wp execOp
    cases hq : Tryz.prog.info? ty with
    | none => simp [hq] at hi
    | some i =>
      have hs : i.size = 7 := by simp [hq] at hi; omega
      simp [ho, hx, hy, Instr.storeAt, Instr.sureAddr, Sem.run_bind, Sem.run_pure, Result.andThen_ok, storeVar, sizeOf, typeInfo, hq, Value.cells, hs]
      rw [hr]
      exact hK _ _ h
theorem any_step {fs : List FactD} {k : Nat} {f : FactD} {q : FactD → Bool} (h : fs[k]? = some f) (h1 : (fs.take k).any q = false) (h2 : q f = false) : (fs.take (k + 1)).any q = false := by
  have hk : k < fs.length := (List.getElem?_eq_some_iff.1 h).1
  have hf : fs[k] = f := (List.getElem?_eq_some_iff.1 h).2
  rw [List.take_succ_eq_append_getElem hk, hf, List.any_append, h1, List.any_cons, List.any_nil, h2]; rfl
theorem find_offset {fs : List FactD} {k : Nat} {f : FactD} (h0 : known fs = true) (h : (unitsF fs)[k]? = some f) (h1 : f.u.o ≠ 0) : findE fs = 11 := by
  have hm : f ∈ unitsF fs := List.mem_of_getElem? h
  unfold findE
  rw [if_neg (by rw [h0]; simp), if_pos]
  rw [List.any_eq_true]
  exact ⟨f, hm, by simpa using h1⟩
theorem find_fine {fs : List FactD} (h0 : known fs = true) (h : (unitsF fs).any (fun f => decide (f.u.o ≠ 0)) = false) : findE fs = 0 := by
  unfold findE
  rw [if_neg (by rw [h0]; simp), if_neg (by rw [h]; simp)]
/-- all blocks but one are as they were -/
def KB (g : Nat) (w w' : World) : Prop := ∀ k, k < w.heap.size → k ≠ g → w'.heap[k]? = w.heap[k]?
theorem KB.refl (g : Nat) (w : World) : KB g w w := fun _ _ _ => rfl
theorem KB.below {g : Nat} {w0 w w' : World} (h : KB g w0 w) (hs : w0.heap.size ≤ w.heap.size) (hb : Below w.heap.size w w') : KB g w0 w' := fun k hk hg => (hb.block k (by omega)).trans (h k hk hg)
theorem KB.alloc {g : Nat} {w0 w : World} (h : KB g w0 w) (hs : w0.heap.size ≤ w.heap.size) (o : Obj) : KB g w0 (w.alloc o) := h.below hs ((Below.refl _ _).alloc (Nat.le_refl _) o)
theorem heap_setCells_other (g k : Nat) (hk : k ≠ g) : ∀ (vs : List Value) (o : Nat) (w : World), (w.setCells g o vs).heap[k]? = w.heap[k]?
  | [], _, _ => rfl
  | v :: r, o, w => (heap_setCells_other g k hk r (o + 1) _).trans (heap_setCell_other w ⟨g, o, none⟩ k v hk)
theorem KB.cells {g : Nat} {w0 w : World} (h : KB g w0 w) (o : Nat) (vs : List Value) : KB g w0 (w.setCells g o vs) := fun k hk hg => (heap_setCells_other g k hg vs o w).trans (h k hk hg)
/-- what findUnits leaves -/
def FUpost (base n g cap : Nat) (fs : List FactD) (e : Ending) (w' : World) : Prop := e = .returned (.int .i64 (findE fs)) ∧ (findE fs = 0 → w'.ownsRow base 88 10 (.slice (some ⟨g, 0, none⟩) n cap) n (rowsC (unitsF fs)))
theorem fupost_err {base n g cap : Nat} {fs : List FactD} {e : Ending} {w' : World} (c : Int) (h : findE fs = c) (hc : c ≠ 0) (he : e = .returned (.int .i64 c)) : FUpost base n g cap fs e w' := ⟨by rw [h]; exact he, fun h0 => absurd (h.symm.trans h0) hc⟩
theorem fupost_ok {base n g cap : Nat} {fs : List FactD} {e : Ending} {w' : World} (h : findE fs = 0) (he : e = .returned (.int .i64 0)) (ho : w'.ownsRow base 88 10 (.slice (some ⟨g, 0, none⟩) n cap) n (rowsC (unitsF fs))) : FUpost base n g cap fs e w' := ⟨by rw [h]; exact he, fun _ => ho⟩
set_option maxRecDepth 100000 in
set_option maxHeartbeats 4000000 in
theorem find_core (fs : List FactD) (n g cap base B : Nat) (w : World) (HN : Hid (n = fs.length)) (hn : n ≤ 1000) (hB : B ≤ w.heap.size) (HOw : Hid (w.ownsRow base 88 10 (.slice (some ⟨g, 0, none⟩) n cap) n (rowsC (mixF fs 0)))) (HB0 : Hid (Below B w w)) (hBb : B ≤ base) :
    Calls Tryz.prog 36 #[.slice (some ⟨g, 0, none⟩) n cap] w fun e w' => Below B w w' ∧ KB g w w' ∧ FUpost base n g cap fs e w' := by
  go_enter Tryz.func36, Tryz.ntmps36
  go_wp2_with fail
  go_loopw [11] (fun i wr => ∃ k : Nat, k ≤ n ∧ i = .int .i64 k ∧ Hid (wr.ownsRow base 88 10 (.slice (some ⟨g, 0, none⟩) n cap) n (rowsC (mixF fs k)) ∧ Below B w wr ∧ known (fs.take k) = true ∧ KB g w wr)) (fun i _ => n - (intOf i).toNat)
  case atStart => exact ⟨0, Nat.zero_le _, rfl, Lib.hid ⟨HOw.out, HB0.out, rfl, KB.refl _ _⟩⟩
  case round =>
    obtain ⟨k, hk, rfl, HH⟩ := hrel
    obtain ⟨ho, hb, hkn, hkb⟩ := HH.out
    have HO := Lib.hid ho
    have HB := Lib.hid hb
    have HK := Lib.hid hkn
    have HKB := Lib.hid hkb
    clear ho hb hkn hkb HH
    by_cases hlt : k < n
    · have HLT := Lib.hid hlt
      obtain ⟨f, hf⟩ : ∃ f, fs[k]? = some f := ⟨fs[k]'(by rw [← HN.out]; exact hlt), List.getElem?_eq_getElem _⟩
      have hm := mix_at hf
      obtain ⟨nm, ⟨x0, x1, x2, x3, xn, xd, xo⟩, p, b⟩ := f
      have HM := Lib.hid hm
      have HFk := Lib.hid hf
      clear hm hf
      have q0 : wr.cell? ⟨g, k * 10, none⟩ = some (.string nm) := (HO.out.cellAt (k * 10) (by omega)).trans (rows_at _ k 0 _ HM.out (by decide))
      have q1 : wr.cell? ⟨g, k * 10 + 1, none⟩ = some (.int .i64 x0) := (HO.out.cellAt (k * 10 + 1) (by omega)).trans (rows_at _ k 1 _ HM.out (by decide))
      have q2 : wr.cell? ⟨g, k * 10 + 2, none⟩ = some (.int .i64 x1) := (HO.out.cellAt (k * 10 + 2) (by omega)).trans (rows_at _ k 2 _ HM.out (by decide))
      have q3 : wr.cell? ⟨g, k * 10 + 3, none⟩ = some (.int .i64 x2) := (HO.out.cellAt (k * 10 + 3) (by omega)).trans (rows_at _ k 3 _ HM.out (by decide))
      have q4 : wr.cell? ⟨g, k * 10 + 4, none⟩ = some (.int .i64 x3) := (HO.out.cellAt (k * 10 + 4) (by omega)).trans (rows_at _ k 4 _ HM.out (by decide))
      have q5 : wr.cell? ⟨g, k * 10 + 5, none⟩ = some (.int .i64 xn) := (HO.out.cellAt (k * 10 + 5) (by omega)).trans (rows_at _ k 5 _ HM.out (by decide))
      have q6 : wr.cell? ⟨g, k * 10 + 6, none⟩ = some (.int .i64 xd) := (HO.out.cellAt (k * 10 + 6) (by omega)).trans (rows_at _ k 6 _ HM.out (by decide))
      have q7 : wr.cell? ⟨g, k * 10 + 7, none⟩ = some (.int .i64 xo) := (HO.out.cellAt (k * 10 + 7) (by omega)).trans (rows_at _ k 7 _ HM.out (by decide))
      have q8 : wr.cell? ⟨g, k * 10 + 8, none⟩ = some (.int .i64 p) := (HO.out.cellAt (k * 10 + 8) (by omega)).trans (rows_at _ k 8 _ HM.out (by decide))
      have q9 : wr.cell? ⟨g, k * 10 + 9, none⟩ = some (.bool b) := (HO.out.cellAt (k * 10 + 9) (by omega)).trans (rows_at _ k 9 _ HM.out (by decide))
      have k0 : (0 : Int) ≤ (k : Int) := by omega
      have k1 : (k : Int) < (n : Int) := by omega
      have HU := Lib.hid fun w => unitOf_any nm w
      go_wp2_with fail
      refine (HU.out _).mono ?_
      rintro e w2 ⟨rfl, hb⟩
      have HO2 := Lib.hid (own_keep (HO.out.alloc _) hb)
      have HB2 := Lib.hid ((HB.out.alloc (Nat.le_trans hB HB.out.size) _).trans (hb.mono (Nat.le_trans (Nat.le_trans hB HB.out.size) (by rw [World.size_alloc]; omega))))
      have HL2 := Lib.hid (show B ≤ w2.heap.size from Nat.le_trans hB HB2.out.size)
      have HKB2 := Lib.hid ((HKB.out.alloc HB.out.size _).below (Nat.le_trans HB.out.size (by rw [World.size_alloc]; omega)) hb)
      clear hb HO HB q0 q1 q2 q3 q4 q5 q6 q7 q8 q9
      cases hr : unitOfL nm with
      | none =>
        have HF := Lib.hid (show findE fs = 3 from find_unknown HFk.out hr)
        clear hr
        go_wp2_with fail
        go_ret
        exact ⟨HB2.out.alloc HL2.out _, HKB2.out.alloc HB2.out.size _, fupost_err 3 HF.out (by decide) rfl⟩
      | some u =>
        obtain ⟨y0, y1, y2, y3, yn, yd, yo⟩ := u
        have HR := Lib.hid hr
        clear hr
        have hu3 := unit_fresh w2 y0 y1 y2 y3 yn yd yo
        have ho3 := HO2.out.alloc (Obj.cells #[.int .i64 y0, .int .i64 y1, .int .i64 y2, .int .i64 y3, .int .i64 yn, .int .i64 yd, .int .i64 yo] 28)
        have hb3 := HB2.out.alloc HL2.out (Obj.cells #[.int .i64 y0, .int .i64 y1, .int .i64 y2, .int .i64 y3, .int .i64 yn, .int .i64 yd, .int .i64 yo] 28)
        have hN3 : w2.heap.size ≠ g := by have := (HO2.out.lt g rfl).2; omega
        have hgB : B ≤ g := Nat.le_trans hBb (HO2.out.lt g rfl).1
        go_upto_region 5 with fail
        have hkb3 := HKB2.out.alloc HB2.out.size (Obj.cells #[.int .i64 y0, .int .i64 y1, .int .i64 y2, .int .i64 y3, .int .i64 yn, .int .i64 yd, .int .i64 yo] 28)
        obtain ⟨w3, hw3⟩ : ∃ x, x = w2.alloc (Obj.cells #[.int .i64 y0, .int .i64 y1, .int .i64 y2, .int .i64 y3, .int .i64 yn, .int .i64 yd, .int .i64 yo] 28) := ⟨_, rfl⟩
        obtain ⟨N3, hNe⟩ : ∃ x, x = w2.heap.size := ⟨_, rfl⟩
        rw [← hw3, ← hNe]
        rw [← hw3] at hu3 ho3 hb3 hkb3
        rw [← hNe] at hu3 hN3
        have HO3 := Lib.hid ho3
        have HB3 := Lib.hid hb3
        have HKB3 := Lib.hid hkb3
        obtain ⟨s0, s1, s2, s3, s4, s5, s6, sz⟩ := hu3
        clear ho3 hb3 hw3 hNe hkb3
        have q1 : w3.cell? ⟨g, k * 10 + 1, none⟩ = some (.int .i64 x0) := (HO3.out.cellAt (k * 10 + 1) (by omega)).trans (rows_at _ k 1 _ HM.out (by decide))
        have q2 : w3.cell? ⟨g, k * 10 + 2, none⟩ = some (.int .i64 x1) := (HO3.out.cellAt (k * 10 + 2) (by omega)).trans (rows_at _ k 2 _ HM.out (by decide))
        have q3 : w3.cell? ⟨g, k * 10 + 3, none⟩ = some (.int .i64 x2) := (HO3.out.cellAt (k * 10 + 3) (by omega)).trans (rows_at _ k 3 _ HM.out (by decide))
        have q4 : w3.cell? ⟨g, k * 10 + 4, none⟩ = some (.int .i64 x3) := (HO3.out.cellAt (k * 10 + 4) (by omega)).trans (rows_at _ k 4 _ HM.out (by decide))
        have q5 : w3.cell? ⟨g, k * 10 + 5, none⟩ = some (.int .i64 xn) := (HO3.out.cellAt (k * 10 + 5) (by omega)).trans (rows_at _ k 5 _ HM.out (by decide))
        have q6 : w3.cell? ⟨g, k * 10 + 6, none⟩ = some (.int .i64 xd) := (HO3.out.cellAt (k * 10 + 6) (by omega)).trans (rows_at _ k 6 _ HM.out (by decide))
        have q7 : w3.cell? ⟨g, k * 10 + 7, none⟩ = some (.int .i64 xo) := (HO3.out.cellAt (k * 10 + 7) (by omega)).trans (rows_at _ k 7 _ HM.out (by decide))
        have qz : ∀ j, w3.frozen? ⟨g, j, none⟩ = false := HO3.out.frozenAt
        have QC := Lib.hid (show ∀ j, j < 7 → (w3.cell? ⟨g, k * 10 + 1 + j, none⟩).isSome = true by
          intro j hj
          obtain rfl | rfl | rfl | rfl | rfl | rfl | rfl : j = 0 ∨ j = 1 ∨ j = 2 ∨ j = 3 ∨ j = 4 ∨ j = 5 ∨ j = 6 := by omega
          · exact Option.isSome_of_mem q1
          · exact Option.isSome_of_mem q2
          · exact Option.isSome_of_mem q3
          · exact Option.isSome_of_mem q4
          · exact Option.isSome_of_mem q5
          · exact Option.isSome_of_mem q6
          · exact Option.isSome_of_mem q7)
        have QZ := Lib.hid qz
        clear q1 q2 q3 q4 q5 q6 q7 qz
        go_upto_region 7 with fail
        go_wp2_with ((with_reducible refine wpList_store_unit rfl 28 _ _ rfl g (k * 10 + 1) y0 y1 y2 y3 yn yd yo rfl rfl infoU7 QC.out QZ.out ?_))
        go_roundw
        case rel => exact ⟨k + 1, hlt, by go_num, Lib.hid ⟨by
          rw [← mix_step HFk.out, HR.out, Option.getD_some, ← set_row_u _ k _ _ HM.out]
          exact own_cellsU HO3.out k ⟨y0, y1, y2, y3, yn, yd, yo⟩, below_cellsU HB3.out hgB k ⟨y0, y1, y2, y3, yn, yd, yo⟩, known_step HFk.out HK.out (by rw [HR.out]; rfl), HKB3.out.cells _ _⟩⟩
        case measure => simp [intOf]; omega
    · obtain rfl : k = n := by omega
      have hm : mixF fs k = unitsF fs := by
        unfold mixF
        rw [HN.out, List.take_length, List.drop_length, List.append_nil]
      have hkn : known fs = true := by have := HK.out; rwa [HN.out, List.take_length] at this
      have ho2 := HO.out
      rw [hm] at ho2
      have HO1 := Lib.hid ho2
      have HKn := Lib.hid hkn
      have HG0 := Lib.hid (HB.out)
      have HG1 := Lib.hid (HKB.out)
      obtain ⟨wA, hwA⟩ : ∃ x, x = wr := ⟨_, rfl⟩
      subst hwA
      clear HO HB HK HKB hm hkn ho2 hlt hk
      go_wp2_with fail
      go_loopw [32] (fun i wr => ∃ j : Nat, j ≤ k ∧ i = .int .i64 j ∧ Hid (wr.ownsRow base 88 10 (.slice (some ⟨g, 0, none⟩) k cap) k (rowsC (unitsF fs)) ∧ Below B w wr ∧ ((unitsF fs).take j).any (fun f => decide (f.u.o ≠ 0)) = false ∧ KB g w wr)) (fun i _ => k - (intOf i).toNat)
      case atStart => exact ⟨0, Nat.zero_le _, rfl, Lib.hid ⟨HO1.out, HG0.out, rfl, HG1.out⟩⟩
      case round =>
        obtain ⟨j, hj, rfl, HH⟩ := hrel
        obtain ⟨ho, hb, hkn, hkb⟩ := HH.out
        have HO := Lib.hid ho
        have HB := Lib.hid hb
        have HK := Lib.hid hkn
        have HKB := Lib.hid hkb
        clear ho hb hkn hkb HH
        by_cases hlt : j < k
        · have HLT := Lib.hid hlt
          obtain ⟨f, hf⟩ : ∃ f, (unitsF fs)[j]? = some f := ⟨(unitsF fs)[j]'(by rw [unitsF_len, ← HN.out]; exact hlt), List.getElem?_eq_getElem _⟩
          have HM := Lib.hid hf
          obtain ⟨nm, ⟨x0, x1, x2, x3, xn, xd, xo⟩, p, b⟩ := f
          clear hf
          have q0 : wr.cell? ⟨g, j * 10, none⟩ = some (.string nm) := (HO.out.cellAt (j * 10) (by omega)).trans (rows_at _ j 0 _ HM.out (by decide))
          have q1 : wr.cell? ⟨g, j * 10 + 1, none⟩ = some (.int .i64 x0) := (HO.out.cellAt (j * 10 + 1) (by omega)).trans (rows_at _ j 1 _ HM.out (by decide))
          have q2 : wr.cell? ⟨g, j * 10 + 2, none⟩ = some (.int .i64 x1) := (HO.out.cellAt (j * 10 + 2) (by omega)).trans (rows_at _ j 2 _ HM.out (by decide))
          have q3 : wr.cell? ⟨g, j * 10 + 3, none⟩ = some (.int .i64 x2) := (HO.out.cellAt (j * 10 + 3) (by omega)).trans (rows_at _ j 3 _ HM.out (by decide))
          have q4 : wr.cell? ⟨g, j * 10 + 4, none⟩ = some (.int .i64 x3) := (HO.out.cellAt (j * 10 + 4) (by omega)).trans (rows_at _ j 4 _ HM.out (by decide))
          have q5 : wr.cell? ⟨g, j * 10 + 5, none⟩ = some (.int .i64 xn) := (HO.out.cellAt (j * 10 + 5) (by omega)).trans (rows_at _ j 5 _ HM.out (by decide))
          have q6 : wr.cell? ⟨g, j * 10 + 6, none⟩ = some (.int .i64 xd) := (HO.out.cellAt (j * 10 + 6) (by omega)).trans (rows_at _ j 6 _ HM.out (by decide))
          have q7 : wr.cell? ⟨g, j * 10 + 7, none⟩ = some (.int .i64 xo) := (HO.out.cellAt (j * 10 + 7) (by omega)).trans (rows_at _ j 7 _ HM.out (by decide))
          have q8 : wr.cell? ⟨g, j * 10 + 8, none⟩ = some (.int .i64 p) := (HO.out.cellAt (j * 10 + 8) (by omega)).trans (rows_at _ j 8 _ HM.out (by decide))
          have q9 : wr.cell? ⟨g, j * 10 + 9, none⟩ = some (.bool b) := (HO.out.cellAt (j * 10 + 9) (by omega)).trans (rows_at _ j 9 _ HM.out (by decide))
          have k0 : (0 : Int) ≤ (j : Int) := by omega
          have k1 : (j : Int) < (k : Int) := by omega
          have HL2 := Lib.hid (show B ≤ wr.heap.size from Nat.le_trans hB HB.out.size)
          by_cases hz : xo = 0
          · subst hz
            go_wp2_with fail
            go_roundw
            case rel => exact ⟨j + 1, hlt, by go_num, Lib.hid ⟨HO.out.alloc _, HB.out.alloc HL2.out _, any_step HM.out HK.out (by simp), HKB.out.alloc HB.out.size _⟩⟩
            case measure => simp [intOf]; omega
          · have hz2 : (xo != 0) = true := by simpa using hz
            have HF := Lib.hid (show findE fs = 11 from find_offset HKn.out HM.out hz)
            clear hz
            go_wp2_with fail
            go_ret
            exact ⟨HB.out.alloc HL2.out _, HKB.out.alloc HB.out.size _, fupost_err 11 HF.out (by decide) rfl⟩
        · obtain rfl : j = k := by omega
          have HF := Lib.hid (show findE fs = 0 from find_fine HKn.out (by have := HK.out; rwa [HN.out, ← unitsF_len fs, List.take_length] at this))
          go_wp2_with fail
          go_ret
          exact ⟨HB.out, HKB.out, fupost_ok HF.out rfl HO.out⟩
theorem mixF_zero (fs : List FactD) : mixF fs 0 = fs := rfl
theorem findUnits_any (fs : List FactD) (g cap base B : Nat) (w : World) (hn : fs.length ≤ 1000) (hB : B ≤ w.heap.size) (ho : w.ownsRow base 88 10 (.slice (some ⟨g, 0, none⟩) fs.length cap) fs.length (rowsC fs)) (hBb : B ≤ base) :
    Calls Tryz.prog 36 #[.slice (some ⟨g, 0, none⟩) fs.length cap] w fun e w' => Below B w w' ∧ KB g w w' ∧ FUpost base fs.length g cap fs e w' :=
  find_core fs fs.length g cap base B w (Lib.hid rfl) hn hB (Lib.hid ho) (Lib.hid (Below.refl _ _)) hBb
end Go.Proofs.YtlahoohgbfjciaaGreatDoor
