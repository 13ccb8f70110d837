/- resume at any block of the layer, for any parameters and state. -/
import Derived.Test.YtmhfkdnblemfdaaDoorDa
import Derived.Laws.CopyOwn
import Derived.Laws.CopyRow
import Derived.Laws.Tables
namespace Go.Proofs.YtmhfkdnblemfdaaDoor
open Go.RowKit Go.Shelf

set_option linter.unusedVariables false
set_option linter.unusedSimpArgs false
theorem row_setRow {w : World} {b : Nat} {old cs : Array Value} {t : TypeId} (hg : w.heap[b]? = some (.cells old t (0, 0))) (hr : RowAt w b old.toList) : RowAt (w.setRow b cs) b cs.toList :=
  ⟨fun i v h => by rw [cell_setRow_same w b i old cs t (0, 0) hg]; simpa using h, fun o => by simp [World.frozen?, setRow_heap w b old cs t (0, 0) hg], by rw [setRow_size]; exact hr.lt⟩
theorem row_setRow_other {w : World} {b q : Nat} {cs : Array Value} {L : List Value} (h : RowAt w q L) (hne : q ≠ b) : RowAt (w.setRow b cs) q L :=
  ⟨fun i v hi => by rw [cell_setRow_other w b cs _ hne]; exact h.c i v hi, fun o => by have h2 := h.fz o; simp only [World.frozen?, setRow_other w b q cs hne] at h2 ⊢; exact h2, by rw [setRow_size]; exact h.lt⟩
/-- a relay that goes on from a state -/
def ResOk (w0 : World) (s ro : ByteArray) (rm : Int) (st : Nat) (pl : List BndD) (il : List PortD) (pa : Option Addr) (P pc : Nat) (S : List Int) (R : Value) (w' : World) : Prop :=
  ∃ (w5 : World) (rb : Nat) (a1 : Option Addr) (c1 : Nat) (a2 : Option Addr) (c2 ob : Nat), R = .pointer (some ⟨rb, 0, none⟩) ∧ Below w0.heap.size w0 w5 ∧ w5.heap.size < rb ∧
    RowAt w' rb [.string s, .slice a1 pl.length c1, .slice a2 il.length c2, .slice (some ⟨ob, 0, none⟩) 1 1, .int .i64 (st : Int), .int .i64 rm, .slice pa P pc, .slice (some ⟨w5.heap.size, 0, none⟩) st st] ∧ RowAt w' w5.heap.size (flat iL S) ∧ InS w5 a2 il.length 2 (flat portL il) ∧
    InS w5 (some ⟨ob, 0, none⟩) 1 2 [.string ⟨#[111, 117, 116]⟩, .string ro] ∧ Below w5.heap.size w5 w'
set_option maxHeartbeats 4000000 in
set_option maxRecDepth 100000 in
theorem resume_1 (s ro : ByteArray) (rm : Int) (pl : List BndD) (il : List PortD) (ag : List Int → Bool) (hn : (timerNames.any fun x => eqS x s) = true) (HF : FindOk s ro rm (1 : Nat) pl il) (HA : AgreeOk s pl ag) (pa : Option Addr) (pc : Nat) (ps : List Int) (p20 : pl.length ≤ 100) (hwf : ∀ v ∈ ps, (Lit.int .i64 v).wf = true) (psz : ∀ x ∈ pl, x.nm.size ≤ maxLen) (sa : Option Addr) (sc : Nat) (stt : List Int) (F PB : Bool) (w : World) (hm : MaxAt w) (hq : InS w pa ps.length 1 (flat iL ps)) (hst : InS w sa stt.length 1 (flat iL stt))
    (hF : F = (decide (ps.length = pl.length) && decide (prmE pl (zipP pl ps) ag = 0))) (hpb : PB = true → ∃ a, stt = [a])
    (hpo : F = true → ∀ (w1 : World) (rb : Nat) (a1 : Option Addr) (c1 : Nat) (a2 : Option Addr) (c2 ob : Nat) (w5 : World), RowAt w1 rb [.string s, .slice a1 pl.length c1, .slice a2 il.length c2, .slice (some ⟨ob, 0, none⟩) 1 1, .int .i64 (1 : Int), .int .i64 rm, .slice pa ps.length pc, .slice (some ⟨w5.heap.size, 0, none⟩) 1 1] → Below w.heap.size w w1 → Calls Tryd.prog 30 #[.pointer (some ⟨rb, 0, none⟩), .slice sa stt.length sc] w1 fun e w' => e = .returned (.bool PB) ∧ Below w1.heap.size w1 w') :
    Calls Tryd.prog 21 #[.string s, .slice pa ps.length pc, .slice sa stt.length sc] w fun e w' => ∃ R, e = .returned (.tuple #[R, .int .i64 (if (F && PB) = true then 0 else 1)]) ∧ ((F && PB) = true → ResOk w s ro rm 1 pl il pa ps.length pc stt R w') ∧ Below w.heap.size w w' := by
  have HST := Lib.hid hst
  have HPO := Lib.hid hpo
  have HPB := Lib.hid hpb
  obtain ⟨K, hK⟩ : ∃ M, M = stt.length := ⟨_, rfl⟩
  have HKL := Lib.hid hK
  have k63 : K ≤ 9223372036854775807 := by rw [hK]; exact hst.2.1
  have KB := Lib.hid (begin_any s ro rm 1 (by decide) pl il ag hn HF HA pa pc ps p20 hwf psz w hm hq)
  obtain ⟨P, hP⟩ : ∃ M, M = ps.length := ⟨_, rfl⟩
  rw [← hF] at KB
  rw [← hP] at KB HPO ⊢
  rw [← hK] at HPO ⊢
  clear hst hpo hpb hK hm hq hwf HF HA hn p20 psz hP hF
  go_enter Tryd.func21, Tryd.ntmps21
  go_wp2_with fail
  refine KB.out.mono ?_
  rintro e w1 ⟨R, rfl, hrel, hb⟩
  have HB1 := Lib.hid hb
  cases F
  · clear hb hrel
    go_wp2_with fail
    go_ret2
    first
      | exact ⟨⟨_, rfl⟩, HB1.out⟩
      | exact ⟨_, rfl, (fun h => by simp at h), HB1.out⟩
  · obtain ⟨w5, rb, a1, c1, a2, c2, ob, rfl, hb5, hrb, hR, hS, hI1, hI2, hI3, hb51, hheap⟩ := hrel (by first | rfl | trivial)
    have HB5 := Lib.hid hb5
    have HRB := Lib.hid hrb
    have HR1 := Lib.hid (show RowAt w1 rb [.string s, .slice a1 pl.length c1, .slice a2 il.length c2, .slice (some ⟨ob, 0, none⟩) 1 1, .int .i64 (1 : Int), .int .i64 rm, .slice pa P pc, .slice (some ⟨w5.heap.size, 0, none⟩) 1 1] from hR)
    have HS1 := Lib.hid (show RowAt w1 w5.heap.size [.int .i64 0] from hS)
    have HI2 := Lib.hid hI2
    have HI3 := Lib.hid hI3
    have HB51 := Lib.hid hb51
    have HH := Lib.hid (show w1.heap[w5.heap.size]? = some (.cells #[.int .i64 0] 2 (0, 0)) from hheap)
    have KP := Lib.hid (HPO.out (by first | rfl | trivial) w1 rb a1 c1 a2 c2 ob w5 HR1.out HB1.out)
    clear hb hrel hb5 hrb hR hS hI1 hI2 hI3 hb51 hheap
    go_wp2_with fail
    refine KP.out.mono ?_
    rintro e w2 ⟨rfl, hb⟩
    have HR2 := Lib.hid (HR1.out.keep hb)
    have HS2 := Lib.hid (HS1.out.keep hb)
    have HB52 := Lib.hid (HB51.out.trans (hb.mono HB51.out.size))
    have HB2 := Lib.hid (HB1.out.trans (hb.mono HB1.out.size))
    have HH2 := Lib.hid ((hb.block w5.heap.size HS1.out.lt).trans HH.out)
    clear hb HR1 HS1 HB51 HB1 HH KP
    cases PB
    · go_wp2_with fail
      go_ret2
      first
        | exact ⟨⟨_, rfl⟩, HB2.out⟩
        | exact ⟨_, rfl, (fun h => by simp at h), HB2.out⟩
    · obtain ⟨a, hst2⟩ := HPB.out rfl
      subst hst2
      obtain rfl : K = 1 := HKL.out
      obtain ⟨q, qo, rfl, hql, hqc⟩ := (show InS w2 sa 1 1 (flat iL [a]) from HST.out.keep HB2.out).at (xs := [a]) iL_len (by simp)
      have x0 : w2.cell? ⟨q, qo, none⟩ = some (.int .i64 a) := by have h := hqc 0 _ rfl 0 _ rfl; simpa using h
      have HX2 := Lib.hid (x0)
      clear hql hqc x0
      have r_7 := HR2.out.c 7 _ rfl
      have hfit1 : 0 + ([.int .i64 a] : List Value).length ≤ (#[.int .i64 0] : Array Value).size := by show (0 : Nat) + 1 ≤ 1; decide
      go_wp2_with (with_reducible refine wpList_copy_own rfl _ _ 22 22 rfl 2 Tryd.underlying22 (by kernel_rfl) w5.heap.size 0 1 1 ⟨q, qo, none⟩ 1 sc rfl rfl #[.int .i64 0] 2 HH2.out [.int .i64 a] rfl ?k1 hfit1 ?k2 ?_)
      try (case k1 => intro j v hv; have hj : j = 0 := by have := (List.getElem?_eq_some_iff.1 hv).1; simp at this; omega
                      rcases hj with rfl
                      · obtain rfl : .int .i64 a = v := by simpa using hv
                        (try rw [add_plain]); exact HX2.out
                      )
      try (case k2 => intro v hv; simp at hv; subst hv; rfl)
      have hbs : Below w5.heap.size w2 (w2.setRow w5.heap.size #[.int .i64 a]) := below_setRow (Below.refl _ _) (Nat.le_refl _)
      have hfin : ResOk w s ro rm 1 pl il pa P pc [a] (.pointer (some ⟨rb, 0, none⟩)) (w2.setRow w5.heap.size #[.int .i64 a]) :=
        ⟨w5, rb, a1, c1, a2, c2, ob, rfl, HB5.out, HRB.out, row_setRow_other HR2.out (by have := HRB.out; omega), row_setRow HH2.out HS2.out, HI2.out, HI3.out, HB52.out.trans hbs⟩
      have hbel : Below w.heap.size w (w2.setRow w5.heap.size #[.int .i64 a]) := HB2.out.trans ((hbs.mono HB5.out.size))
      generalize w2.setRow w5.heap.size #[.int .i64 a] = wf at hfin hbel ⊢
      go_wp2_with fail
      go_ret2
      exact ⟨_, rfl, hfin, hbel⟩
set_option maxHeartbeats 4000000 in
set_option maxRecDepth 100000 in
theorem resume_2 (s ro : ByteArray) (rm : Int) (pl : List BndD) (il : List PortD) (ag : List Int → Bool) (hn : (timerNames.any fun x => eqS x s) = true) (HF : FindOk s ro rm (2 : Nat) pl il) (HA : AgreeOk s pl ag) (pa : Option Addr) (pc : Nat) (ps : List Int) (p20 : pl.length ≤ 100) (hwf : ∀ v ∈ ps, (Lit.int .i64 v).wf = true) (psz : ∀ x ∈ pl, x.nm.size ≤ maxLen) (sa : Option Addr) (sc : Nat) (stt : List Int) (F PB : Bool) (w : World) (hm : MaxAt w) (hq : InS w pa ps.length 1 (flat iL ps)) (hst : InS w sa stt.length 1 (flat iL stt))
    (hF : F = (decide (ps.length = pl.length) && decide (prmE pl (zipP pl ps) ag = 0))) (hpb : PB = true → ∃ a c, stt = [a, c])
    (hpo : F = true → ∀ (w1 : World) (rb : Nat) (a1 : Option Addr) (c1 : Nat) (a2 : Option Addr) (c2 ob : Nat) (w5 : World), RowAt w1 rb [.string s, .slice a1 pl.length c1, .slice a2 il.length c2, .slice (some ⟨ob, 0, none⟩) 1 1, .int .i64 (2 : Int), .int .i64 rm, .slice pa ps.length pc, .slice (some ⟨w5.heap.size, 0, none⟩) 2 2] → Below w.heap.size w w1 → Calls Tryd.prog 30 #[.pointer (some ⟨rb, 0, none⟩), .slice sa stt.length sc] w1 fun e w' => e = .returned (.bool PB) ∧ Below w1.heap.size w1 w') :
    Calls Tryd.prog 21 #[.string s, .slice pa ps.length pc, .slice sa stt.length sc] w fun e w' => ∃ R, e = .returned (.tuple #[R, .int .i64 (if (F && PB) = true then 0 else 1)]) ∧ ((F && PB) = true → ResOk w s ro rm 2 pl il pa ps.length pc stt R w') ∧ Below w.heap.size w w' := by
  have HST := Lib.hid hst
  have HPO := Lib.hid hpo
  have HPB := Lib.hid hpb
  obtain ⟨K, hK⟩ : ∃ M, M = stt.length := ⟨_, rfl⟩
  have HKL := Lib.hid hK
  have k63 : K ≤ 9223372036854775807 := by rw [hK]; exact hst.2.1
  have KB := Lib.hid (begin_any s ro rm 2 (by decide) pl il ag hn HF HA pa pc ps p20 hwf psz w hm hq)
  obtain ⟨P, hP⟩ : ∃ M, M = ps.length := ⟨_, rfl⟩
  rw [← hF] at KB
  rw [← hP] at KB HPO ⊢
  rw [← hK] at HPO ⊢
  clear hst hpo hpb hK hm hq hwf HF HA hn p20 psz hP hF
  go_enter Tryd.func21, Tryd.ntmps21
  go_wp2_with fail
  refine KB.out.mono ?_
  rintro e w1 ⟨R, rfl, hrel, hb⟩
  have HB1 := Lib.hid hb
  cases F
  · clear hb hrel
    go_wp2_with fail
    go_ret2
    first
      | exact ⟨⟨_, rfl⟩, HB1.out⟩
      | exact ⟨_, rfl, (fun h => by simp at h), HB1.out⟩
  · obtain ⟨w5, rb, a1, c1, a2, c2, ob, rfl, hb5, hrb, hR, hS, hI1, hI2, hI3, hb51, hheap⟩ := hrel (by first | rfl | trivial)
    have HB5 := Lib.hid hb5
    have HRB := Lib.hid hrb
    have HR1 := Lib.hid (show RowAt w1 rb [.string s, .slice a1 pl.length c1, .slice a2 il.length c2, .slice (some ⟨ob, 0, none⟩) 1 1, .int .i64 (2 : Int), .int .i64 rm, .slice pa P pc, .slice (some ⟨w5.heap.size, 0, none⟩) 2 2] from hR)
    have HS1 := Lib.hid (show RowAt w1 w5.heap.size [.int .i64 0, .int .i64 0] from hS)
    have HI2 := Lib.hid hI2
    have HI3 := Lib.hid hI3
    have HB51 := Lib.hid hb51
    have HH := Lib.hid (show w1.heap[w5.heap.size]? = some (.cells #[.int .i64 0, .int .i64 0] 2 (0, 0)) from hheap)
    have KP := Lib.hid (HPO.out (by first | rfl | trivial) w1 rb a1 c1 a2 c2 ob w5 HR1.out HB1.out)
    clear hb hrel hb5 hrb hR hS hI1 hI2 hI3 hb51 hheap
    go_wp2_with fail
    refine KP.out.mono ?_
    rintro e w2 ⟨rfl, hb⟩
    have HR2 := Lib.hid (HR1.out.keep hb)
    have HS2 := Lib.hid (HS1.out.keep hb)
    have HB52 := Lib.hid (HB51.out.trans (hb.mono HB51.out.size))
    have HB2 := Lib.hid (HB1.out.trans (hb.mono HB1.out.size))
    have HH2 := Lib.hid ((hb.block w5.heap.size HS1.out.lt).trans HH.out)
    clear hb HR1 HS1 HB51 HB1 HH KP
    cases PB
    · go_wp2_with fail
      go_ret2
      first
        | exact ⟨⟨_, rfl⟩, HB2.out⟩
        | exact ⟨_, rfl, (fun h => by simp at h), HB2.out⟩
    · obtain ⟨a, c, hst2⟩ := HPB.out rfl
      subst hst2
      obtain rfl : K = 2 := HKL.out
      obtain ⟨q, qo, rfl, hql, hqc⟩ := (show InS w2 sa 2 1 (flat iL [a, c]) from HST.out.keep HB2.out).at (xs := [a, c]) iL_len (by simp)
      have x0 : w2.cell? ⟨q, qo, none⟩ = some (.int .i64 a) := by have h := hqc 0 _ rfl 0 _ rfl; simpa using h
      have x1 : w2.cell? ⟨q, qo + 1, none⟩ = some (.int .i64 c) := by have h := hqc 1 _ rfl 0 _ rfl; simpa using h
      have HX2 := Lib.hid (And.intro x0 x1)
      clear hql hqc x0 x1
      have r_7 := HR2.out.c 7 _ rfl
      have hfit1 : 0 + ([.int .i64 a, .int .i64 c] : List Value).length ≤ (#[.int .i64 0, .int .i64 0] : Array Value).size := by show (0 : Nat) + 2 ≤ 2; decide
      go_wp2_with (with_reducible refine wpList_copy_own rfl _ _ 22 22 rfl 2 Tryd.underlying22 (by kernel_rfl) w5.heap.size 0 2 2 ⟨q, qo, none⟩ 2 sc rfl rfl #[.int .i64 0, .int .i64 0] 2 HH2.out [.int .i64 a, .int .i64 c] rfl ?k1 hfit1 ?k2 ?_)
      try (case k1 => intro j v hv; have hj : j = 0 ∨ j = 1 := by have := (List.getElem?_eq_some_iff.1 hv).1; simp at this; omega
                      rcases hj with rfl | rfl
                      · obtain rfl : .int .i64 a = v := by simpa using hv
                        (try rw [add_plain]); exact HX2.out.1
                      · obtain rfl : .int .i64 c = v := by simpa using hv
                        (try rw [add_plain]); exact HX2.out.2
                      )
      try (case k2 => intro v hv; simp at hv; rcases hv with rfl | rfl <;> rfl)
      have hbs : Below w5.heap.size w2 (w2.setRow w5.heap.size #[.int .i64 a, .int .i64 c]) := below_setRow (Below.refl _ _) (Nat.le_refl _)
      have hfin : ResOk w s ro rm 2 pl il pa P pc [a, c] (.pointer (some ⟨rb, 0, none⟩)) (w2.setRow w5.heap.size #[.int .i64 a, .int .i64 c]) :=
        ⟨w5, rb, a1, c1, a2, c2, ob, rfl, HB5.out, HRB.out, row_setRow_other HR2.out (by have := HRB.out; omega), row_setRow HH2.out HS2.out, HI2.out, HI3.out, HB52.out.trans hbs⟩
      have hbel : Below w.heap.size w (w2.setRow w5.heap.size #[.int .i64 a, .int .i64 c]) := HB2.out.trans ((hbs.mono HB5.out.size))
      generalize w2.setRow w5.heap.size #[.int .i64 a, .int .i64 c] = wf at hfin hbel ⊢
      go_wp2_with fail
      go_ret2
      exact ⟨_, rfl, hfin, hbel⟩
end Go.Proofs.YtmhfkdnblemfdaaDoor
