/- resume and Settle of the block ondelay at the chapter's example. -/
import Derived.Test.YtmhfkdnblemfdaaDoorCf
import Derived.Laws.CopyOwn
import Derived.Laws.CopyRow
import Derived.Laws.Tables
namespace Go.Proofs.YtmhfkdnblemfdaaDoor
open Go.RowKit Go.Shelf

set_option linter.unusedVariables false
/-- ondelay with the time 5, begun, its state x -/
def Resumed (w0 : World) (pa : Option Addr) (pc : Nat) (R : Value) (w' : World) : Prop :=
  ∃ (w5 : World) (rb : Nat) (a1 : Option Addr) (c1 : Nat) (a2 : Option Addr) (c2 ob : Nat), R = .pointer (some ⟨rb, 0, none⟩) ∧ Below w0.heap.size w0 w5 ∧ w5.heap.size < rb ∧ RowAt w' rb [.string ⟨#[111, 110, 100, 101, 108, 97, 121]⟩, .slice a1 1 c1, .slice a2 1 c2, .slice (some ⟨ob, 0, none⟩) 1 1, .int .i64 1, .int .i64 1, .slice pa 1 pc, .slice (some ⟨w5.heap.size, 0, none⟩) 1 1] ∧ RowAt w' w5.heap.size [.int .i64 0] ∧ InS w5 a2 1 2 (flat portL [⟨⟨#[97]⟩, ⟨#[98, 105, 110, 97, 114, 121]⟩⟩]) ∧ InS w5 (some ⟨ob, 0, none⟩) 1 2 [.string ⟨#[111, 117, 116]⟩, .string ⟨#[98, 105, 110, 97, 114, 121]⟩] ∧ Below w5.heap.size w5 w'
set_option maxHeartbeats 4000000 in
set_option maxRecDepth 100000 in
theorem resume_ex (pa : Option Addr) (pc q qo qc : Nat) (w : World) (hm : MaxAt w) (hq : InS w pa 1 1 (flat iL [5])) (hx : w.cell? ⟨q, qo, none⟩ = some (.int .i64 0)) :
    Calls Tryd.prog 21 #[.string ⟨#[111, 110, 100, 101, 108, 97, 121]⟩, .slice pa 1 pc, .slice (some ⟨q, qo, none⟩) 1 qc] w fun e w' => ∃ R, e = .returned (.tuple #[R, .int .i64 0]) ∧ Resumed w pa pc R w' ∧ Below w.heap.size w w' := by
  have hval : (decide (([5] : List Int).length = ([⟨⟨#[116, 105, 109, 101]⟩, 0, 86400, 0⟩] : List BndD).length) && decide (prmE [⟨⟨#[116, 105, 109, 101]⟩, 0, 86400, 0⟩] (zipP [⟨⟨#[116, 105, 109, 101]⟩, 0, 86400, 0⟩] [5]) (fun _ => true) = 0)) = true := by rw [prmE_ondelay]; decide
  have kb := begin_any ⟨#[111, 110, 100, 101, 108, 97, 121]⟩ ⟨#[98, 105, 110, 97, 114, 121]⟩ 1 1 (by decide) [⟨⟨#[116, 105, 109, 101]⟩, 0, 86400, 0⟩] [⟨⟨#[97]⟩, ⟨#[98, 105, 110, 97, 114, 121]⟩⟩] (fun _ => true) (by decide +kernel) find_ondelay (agree_ondelay _) pa pc [5] (by decide) (by decide) (by unfold maxLen; decide +kernel) w hm hq
  rw [hval] at kb
  have KB := Lib.hid kb
  have HQ := Lib.hid hq
  have HX := Lib.hid hx
  have lq := World.block_lt_of_cell? _ _ hx
  clear kb hval hm hq hx
  go_enter Tryd.func21, Tryd.ntmps21
  go_wp2_with fail
  refine KB.out.mono ?_
  rintro e w1 ⟨R, rfl, hrel, hb⟩
  obtain ⟨w5, rb, a1, c1, a2, c2, ob, rfl, hb5, hrb, hR, hS, hI1, hI2, hI3, hb51, hheap⟩ := hrel (by simp)
  have HB1 := Lib.hid hb
  have HB5 := Lib.hid hb5
  have HRB := Lib.hid hrb
  have HR1 := Lib.hid (show RowAt w1 rb [.string ⟨#[111, 110, 100, 101, 108, 97, 121]⟩, .slice a1 1 c1, .slice a2 1 c2, .slice (some ⟨ob, 0, none⟩) 1 1, .int .i64 1, .int .i64 1, .slice pa 1 pc, .slice (some ⟨w5.heap.size, 0, none⟩) 1 1] from hR)
  have HS1 := Lib.hid (show RowAt w1 w5.heap.size [.int .i64 0] from hS)
  have HI2 := Lib.hid hI2
  have HI3 := Lib.hid hI3
  have HB51 := Lib.hid hb51
  have HH := Lib.hid (show w1.heap[w5.heap.size]? = some (.cells #[.int .i64 0] 2 (0, 0)) from hheap)
  clear hb hrel hb5 hrb hR hS hI1 hI2 hI3 hb51 hheap KB
  obtain ⟨pb, po, rfl, hpl, hpc⟩ := (show InS w1 pa ([5] : List Int).length 1 (flat iL [5]) from HQ.out.keep HB1.out).at iL_len (by decide)
  have p0 : w1.cell? ⟨pb, po, none⟩ = some (.int .i64 5) := by have h := hpc 0 _ rfl 0 _ rfl; simpa using h
  have x1 : w1.cell? ⟨q, qo, none⟩ = some (.int .i64 0) := (HB1.out.cell (p := ⟨q, qo, none⟩) lq).trans HX.out
  have KP := Lib.hid (possOn_any rb pb po pc q qo qc 5 0 _ _ _ _ _ w1 HR1.out p0 x1 (by decide) (by decide) (by decide))
  clear hpc p0
  go_wp2_with fail
  refine KP.out.mono ?_
  rintro e w2 ⟨rfl, hb⟩
  have HR2 := Lib.hid (HR1.out.keep hb)
  have HS2 := Lib.hid (HS1.out.keep hb)
  have HB52 := Lib.hid (HB51.out.trans (hb.mono HB51.out.size))
  have HB2 := Lib.hid (HB1.out.trans (hb.mono HB1.out.size))
  have HH2 := Lib.hid ((hb.block w5.heap.size HS1.out.lt).trans HH.out)
  have x2 : w2.cell? ⟨q, qo, none⟩ = some (.int .i64 0) := (hb.cell (p := ⟨q, qo, none⟩) (World.block_lt_of_cell? _ _ x1)).trans x1
  have HX2 := Lib.hid x2
  clear hb x1 x2 HR1 HS1 HB51 HB1 HH KP
  have r_7 := HR2.out.c 7 _ rfl
  have hself2 : w2.setRow w5.heap.size #[.int .i64 0] = w2 := setRow_self _ _ _ _ _ HH2.out
  go_wp2_with (with_reducible refine wpList_copy_own rfl _ _ 22 22 rfl 2 Tryd.underlying22 (by kernel_rfl) w5.heap.size 0 1 1 ⟨q, qo, none⟩ 1 qc rfl rfl #[.int .i64 0] 2 HH2.out [.int .i64 0] rfl ?k1 (by decide) ?k2 ?_)
  try (case k1 => intro j v hv; have hj : j = 0 := by have := (List.getElem?_eq_some_iff.1 hv).1; simp at this; omega
                  subst hj; obtain rfl : .int .i64 0 = v := by simpa using hv
                  rw [add_plain]; exact HX2.out)
  case k2 => intro v hv; simp at hv; subst hv; rfl
  go_ret2
  exact ⟨_, rfl, ⟨w5, rb, a1, c1, a2, c2, ob, rfl, HB5.out, HRB.out, HR2.out, HS2.out, HI2.out, HI3.out, HB52.out⟩, HB2.out⟩
end Go.Proofs.YtmhfkdnblemfdaaDoor
