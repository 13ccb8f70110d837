/- resume and Settle of the block ondelay at the chapter's example; Clone and Equal of one number. -/
import Derived.Test.YtmhfkdnblemfdaaDoorCe
import Derived.OwnWalk
import Derived.Lib.SliceRun
namespace Go.Proofs.YtmhfkdnblemfdaaDoor
open Go.RowKit Go.Shelf

set_option linter.unusedVariables false
theorem own_cell {w : World} {g : Nat} {cur : Array Value} {e : TypeId} {fr : Nat × Nat} {k : Nat} {L : List Value} (hh : w.heap[g]? = some (.cells cur e fr)) (ht : cur.toList.take k = L) (i : Nat) (u : Value) (hu : L[i]? = some u) : w.cell? ⟨g, i, none⟩ = some u := by
  have h1 : cur[i]? = some u := by
    rw [← ht] at hu
    have := (List.getElem?_eq_some_iff.1 hu).1
    rw [List.getElem?_take] at hu
    split at hu
    · simpa using hu
    · simp at hu
  simp [World.cell?, hh, h1]
set_option maxHeartbeats 2000000 in
set_option maxRecDepth 100000 in
theorem clone1_any (b o c : Nat) (x : Int) (w : World) (hx : w.cell? ⟨b, o, none⟩ = some (.int .i64 x)) :
    Calls Tryd.prog 27 #[.slice (some ⟨b, o, none⟩) 1 c] w fun e w' => ∃ b2 c2, e = .returned (.slice (some ⟨b2, 0, none⟩) 1 c2) ∧ w'.cell? ⟨b2, 0, none⟩ = some (.int .i64 x) ∧ w.heap.size ≤ b2 ∧ Below w.heap.size w w' := by
  obtain ⟨iv, hif, hz0, hz1, hz2⟩ := info_parts infoI64
  have hb := World.block_lt_of_cell? _ _ hx
  have nal : Below w.heap.size w (w.alloc (Obj.cells #[] 2)) := (Below.refl _ _).alloc (Nat.le_refl _) _
  have hx2 : (w.alloc (Obj.cells #[] 2)).cell? ⟨b, o, none⟩ = some (.int .i64 x) := (nal.cell (p := ⟨b, o, none⟩) hb).trans hx
  have HN := Lib.hid nal
  have HE := Lib.hid (own_empty w 2 1)
  have hnil := fun w => Lib.run_eql_slice_nil (P := Tryd.prog) w 22 2 (some ⟨b, o, none⟩) 1 c 0 0 Tryd.underlying22
  have HX := Lib.hid hx
  clear nal hx
  go_enter Tryd.func27, Tryd.ntmps27
  go_wp2_with (at_builtin; refine wpList_append_own _ rfl _ _ 22 rfl w.heap.size 2 iv (.int .i64 0) 1 8 Tryd.underlying22 hif hz0 hz1 hz2 rfl (by decide) _ _ _ rfl HE.out ⟨b, o, none⟩ 1 c [.int .i64 x] rfl rfl ?q1 ?q2 ?q3 ?q4 ?q5 ?_)
  try
    case q1 =>
      intro q u hu
      have hq : q = 0 := by have := (List.getElem?_eq_some_iff.1 hu).1; simp at this; omega
      subst hq
      obtain rfl : .int .i64 x = u := by simpa using hu
      first
        | exact HX.out
        | (rw [add_plain]; exact hx2)
  try
    case q2 =>
      first
        | rfl
        | (intro u hu; simp at hu; subst hu; rfl)
  try (case q3 => unfold maxLen; omega)
  try (case q4 => omega)
  try (case q5 => (try rw [World.size_alloc]); omega)
  intro v5 w7 hown hgrow _
  have hne : (1 : Nat) ≠ 0 := by decide
  obtain ⟨_, ⟨rfl, h0⟩ | ⟨g, cap, cur, rfl, hg, hh, _, _, _, ht⟩⟩ := hown
  · exact absurd h0 (by decide)
  · have HC := Lib.hid (show w7.cell? ⟨g, 0, none⟩ = some (.int .i64 x) by
      have e := own_cell hh ht 0 (.int .i64 x) (by rfl)
      exact e)
    have HG := Lib.hid hg
    have HBB := Lib.hid (HN.out.grown hgrow (by rw [World.size_alloc]; omega) (fun q e => by simp [Value.ownBlock] at e; omega))
    clear hgrow hh ht hg
    go_wp2_with fail
    go_ret
    first
      | exact ⟨_, _, rfl, HC.out, HG.out, HBB.out⟩
      | exact ⟨⟨_, _, ⟨rfl, rfl⟩, HC.out, HG.out⟩, HBB.out⟩
set_option maxHeartbeats 2000000 in
theorem equal1_any (b o c b2 c2 : Nat) (x y : Int) (w : World) (hx : w.cell? ⟨b, o, none⟩ = some (.int .i64 x)) (hy : w.cell? ⟨b2, 0, none⟩ = some (.int .i64 y)) :
    Calls Tryd.prog 28 #[.slice (some ⟨b, o, none⟩) 1 c, .slice (some ⟨b2, 0, none⟩) 1 c2] w fun e w' => e = .returned (.bool (decide (x = y))) ∧ Below w.heap.size w w' := by
  have l1 := World.block_lt_of_cell? _ _ hx
  have l2 := World.block_lt_of_cell? _ _ hy
  go_enter Tryd.func28, Tryd.ntmps28
  go_wp2_with fail
  go_loopw [13] (fun i wr => ∃ k : Nat, i = .int .i64 k ∧ k ≤ 1 ∧ (k = 1 → x = y) ∧ Hid (Below w.heap.size w wr)) (fun i _ => (1 - intOf i).toNat)
  case atStart => exact ⟨0, rfl, by omega, fun h => by omega, Lib.hid (Below.refl _ _)⟩
  case round =>
    obtain ⟨k, rfl, hk, hxy, HB⟩ := hrel
    by_cases h0 : k = 0
    · subst h0
      have c1 : wr.cell? ⟨b, o, none⟩ = some (.int .i64 x) := (HB.out.cell (p := ⟨b, o, none⟩) l1).trans hx
      have c2 : wr.cell? ⟨b2, 0, none⟩ = some (.int .i64 y) := (HB.out.cell (p := ⟨b2, 0, none⟩) l2).trans hy
      clear hxy
      by_cases he : x = y
      · subst he
        go_wp2_with fail
        go_quiet (fail)
        go_wp2_with fail
        go_roundw
        case rel => exact ⟨1, by go_num, by omega, by simp, Lib.hid (bdrewN HB.out _)⟩
        case measure => simp [intOf]
      · have e1 : (x != y) = true := bne_iff_ne.2 he
        have e2 : (x == y) = false := beq_eq_false_iff_ne.2 he
        go_wp2_with fail
        go_quiet (fail)
        go_wp2_with fail
        go_ret
        exact ⟨by simp [he], bdrewN HB.out _⟩
    · obtain rfl : k = 1 := by omega
      have he := hxy rfl
      go_wp2_with fail
      go_ret
      exact ⟨by simp, HB.out⟩
end Go.Proofs.YtmhfkdnblemfdaaDoor
