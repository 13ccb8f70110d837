/- Clone and Equal of one and two numbers, as rows. -/
import Derived.Test.YtmhfkdnblemfdaaDoorCi
import Derived.Test.YtmhfkdnblemfdaaDoorDa
import Derived.OwnWalk
import Derived.Lib.SliceRun
namespace Go.Proofs.YtmhfkdnblemfdaaDoor
open Go.RowKit Go.Shelf

set_option linter.unusedVariables false
set_option linter.unusedSimpArgs false
set_option maxHeartbeats 2000000 in
set_option maxRecDepth 100000 in
theorem clone2_any (b o c : Nat) (x y : Int) (w : World) (hx : w.cell? ⟨b, o, none⟩ = some (.int .i64 x)) (hy : w.cell? ⟨b, o + 1, none⟩ = some (.int .i64 y)) :
    Calls Tryd.prog 27 #[.slice (some ⟨b, o, none⟩) 2 c] w fun e w' => ∃ b2 c2, e = .returned (.slice (some ⟨b2, 0, none⟩) 2 c2) ∧ (w'.cell? ⟨b2, 0, none⟩ = some (.int .i64 x) ∧ w'.cell? ⟨b2, 1, none⟩ = some (.int .i64 y)) ∧ w.heap.size ≤ b2 ∧ Below w.heap.size w w' := by
  obtain ⟨iv, hif, hz0, hz1, hz2⟩ := info_parts infoI64
  have hb := World.block_lt_of_cell? _ _ hx
  have nal : Below w.heap.size w (w.alloc (Obj.cells #[] 2)) := (Below.refl _ _).alloc (Nat.le_refl _) _
  have hx2 : (w.alloc (Obj.cells #[] 2)).cell? ⟨b, o, none⟩ = some (.int .i64 x) := (nal.cell (p := ⟨b, o, none⟩) hb).trans hx
  have hy2 : (w.alloc (Obj.cells #[] 2)).cell? ⟨b, o + 1, none⟩ = some (.int .i64 y) := (nal.cell (p := ⟨b, o + 1, none⟩) hb).trans hy
  have HN := Lib.hid nal
  have HE := Lib.hid (own_empty w 2 1)
  have hnil := fun w => Lib.run_eql_slice_nil (P := Tryd.prog) w 22 2 (some ⟨b, o, none⟩) 2 c 0 0 Tryd.underlying22
  have HX := Lib.hid hx
  have HY := Lib.hid hy
  clear nal hx hy
  go_enter Tryd.func27, Tryd.ntmps27
  go_wp2_with (at_builtin; refine wpList_append_own _ rfl _ _ 22 rfl w.heap.size 2 iv (.int .i64 0) 1 8 Tryd.underlying22 hif hz0 hz1 hz2 rfl (by decide) _ _ _ rfl HE.out ⟨b, o, none⟩ 2 c [.int .i64 x, .int .i64 y] rfl rfl ?q1 ?q2 ?q3 ?q4 ?q5 ?_)
  try
    case q1 =>
      intro q u hu
      have hq : q = 0 ∨ q = 1 := by have := (List.getElem?_eq_some_iff.1 hu).1; simp at this; omega
      rcases hq with rfl | rfl
      · obtain rfl : .int .i64 x = u := by simpa using hu
        first
          | exact HX.out
          | (rw [add_plain]; exact hx2)
      · obtain rfl : .int .i64 y = u := by simpa using hu
        first
          | exact HY.out
          | (rw [add_plain]; exact hy2)
  try
    case q2 =>
      first
        | rfl
        | exact ⟨rfl, rfl⟩
        | (intro u hu; simp at hu; rcases hu with rfl | rfl <;> rfl)
  try (case q3 => unfold maxLen; omega)
  try (case q4 => omega)
  try (case q5 => (try rw [World.size_alloc]); omega)
  intro v5 w7 hown hgrow _
  obtain ⟨_, ⟨rfl, h0⟩ | ⟨g, cap, cur, rfl, hg, hh, _, _, _, ht⟩⟩ := hown
  · exact absurd h0 (by decide)
  · have HC := Lib.hid (show w7.cell? ⟨g, 0, none⟩ = some (.int .i64 x) ∧ w7.cell? ⟨g, 1, none⟩ = some (.int .i64 y) from ⟨own_cell hh ht 0 (.int .i64 x) (by rfl), own_cell hh ht 1 (.int .i64 y) (by rfl)⟩)
    have HG := Lib.hid hg
    have HBB := Lib.hid (HN.out.grown hgrow (by rw [World.size_alloc]; omega) (fun q e => by simp [Value.ownBlock] at e; omega))
    clear hgrow hh ht hg
    go_wp2_with fail
    go_ret
    first
      | exact ⟨_, _, rfl, HC.out, HG.out, HBB.out⟩
      | exact ⟨⟨_, _, ⟨rfl, rfl⟩, HC.out, HG.out⟩, HBB.out⟩
set_option maxHeartbeats 2000000 in
theorem equal2_any (b o c b2 c2 : Nat) (x y x' y' : Int) (w : World) (hx : w.cell? ⟨b, o, none⟩ = some (.int .i64 x)) (hy : w.cell? ⟨b, o + 1, none⟩ = some (.int .i64 y)) (hx' : w.cell? ⟨b2, 0, none⟩ = some (.int .i64 x')) (hy' : w.cell? ⟨b2, 1, none⟩ = some (.int .i64 y')) :
    Calls Tryd.prog 28 #[.slice (some ⟨b, o, none⟩) 2 c, .slice (some ⟨b2, 0, none⟩) 2 c2] w fun e w' => e = .returned (.bool (decide (x = x' ∧ y = y'))) ∧ Below w.heap.size w w' := by
  have HC := Lib.hid (And.intro hx (And.intro hy (And.intro hx' hy')))
  obtain ⟨R, hR⟩ : ∃ z, z = decide (x = x' ∧ y = y') := ⟨_, rfl⟩
  have HR := Lib.hid hR
  rw [← hR]
  clear hx hy hx' hy' hR
  go_enter Tryd.func28, Tryd.ntmps28
  go_wp2_with fail
  go_loopw [13] (fun i wr => ∃ k : Nat, i = .int .i64 k ∧ k ≤ 2 ∧ Hid ((0 < k → x = x') ∧ (1 < k → y = y') ∧ Below w.heap.size w wr)) (fun i _ => (2 - intOf i).toNat)
  case atStart => exact ⟨0, rfl, by omega, Lib.hid ⟨fun h => by omega, fun h => by omega, Below.refl _ _⟩⟩
  case round =>
    obtain ⟨k, rfl, hk, hH⟩ := hrel
    have HXY := Lib.hid (And.intro hH.out.1 hH.out.2.1)
    have HB := Lib.hid hH.out.2.2
    clear hH
    rcases (by omega : k = 0 ∨ k = 1 ∨ k = 2) with rfl | rfl | rfl
    · have c1 := cellB HC.out.1 HB.out
      have c2 := cellB HC.out.2.2.1 HB.out
      by_cases he : x = x'
      · have HE := Lib.hid he
        have e1 : (x != x') = false := by rw [he]; simp
        have e2 : (x == x') = true := by rw [he]; simp
        clear he
        go_wp2_with fail
        go_quiet (fail)
        go_wp2_with fail
        go_roundw
        case rel => exact ⟨1, by go_num, by omega, Lib.hid ⟨fun _ => HE.out, fun h => by omega, bdrewN HB.out _⟩⟩
        case measure => simp [intOf]
      · have HE := Lib.hid he
        have e1 : (x != x') = true := bne_iff_ne.2 he
        have e2 : (x == x') = false := beq_eq_false_iff_ne.2 he
        clear he
        go_wp2_with fail
        go_quiet (fail)
        go_wp2_with fail
        go_ret
        exact ⟨by rw [HR.out, decide_eq_false (fun h => HE.out h.1)]; rfl, bdrewN HB.out _⟩
    · have c1 := cellB HC.out.2.1 HB.out
      have c2 := cellB HC.out.2.2.2 HB.out
      by_cases he : y = y'
      · have HE := Lib.hid he
        have e1 : (y != y') = false := by rw [he]; simp
        have e2 : (y == y') = true := by rw [he]; simp
        clear he
        go_wp2_with fail
        go_quiet (fail)
        go_wp2_with fail
        go_roundw
        case rel => exact ⟨2, by go_num, by omega, Lib.hid ⟨fun _ => HXY.out.1 (by decide), fun _ => HE.out, bdrewN HB.out _⟩⟩
        case measure => simp [intOf]
      · have HE := Lib.hid he
        have e1 : (y != y') = true := bne_iff_ne.2 he
        have e2 : (y == y') = false := beq_eq_false_iff_ne.2 he
        clear he
        go_wp2_with fail
        go_quiet (fail)
        go_wp2_with fail
        go_ret
        exact ⟨by rw [HR.out, decide_eq_false (fun h => HE.out h.2)]; rfl, bdrewN HB.out _⟩
    · go_wp2_with fail
      go_ret
      exact ⟨by rw [HR.out, decide_eq_true ⟨HXY.out.1 (by decide), HXY.out.2 (by decide)⟩]; rfl, HB.out⟩
end Go.Proofs.YtmhfkdnblemfdaaDoor
