/- Contract of laws: a map of two names to structs with functions, made anew. -/
import Derived.Test.YtepmeacdacnhmaaPf
import Derived.Maps.OwnOps
import Derived.Maps.OwnSet
import Derived.Maps.Views
import Derived.Maps.Keyed
import Derived.Maps.StringElems
namespace Go.Proofs.Ytepmeacdacnhmaa
open Go.RowKit Go.Shelf Go.Maps Go.WideMaps

/-- an element of a map as it is -/
def heldE (v : Value) : Option (DataW Value × List MemPlace) := some (.held v, [])
theorem heldE_inv {v : Value} {d : Value} {ps : List MemPlace} (h : heldE v = some (.held d, ps)) : v = d := by
  unfold heldE at h
  simp only [Option.some.injEq, Prod.mk.injEq, DataW.held.injEq] at h
  exact h.1
theorem lawS : Keyed Try.prog 9 := string_keyed Try.underlying9
theorem grown_row {w w' : World} {b : Nat} {L : List Value} {row : Option Nat} (t : RowAt w b L) (hg : w.grownBy w' row) (hne : some b ≠ row) : RowAt w' b L :=
  ⟨fun i v h => (World.cell?_of_block (a := ⟨b, i, none⟩) (hg.block b t.lt hne)).trans (t.c i v h), fun o => (World.frozen?_of_block (a := ⟨b, o, none⟩) (hg.block b t.lt hne)).trans (t.fz o), Nat.lt_of_lt_of_le t.lt hg.size⟩
abbrev kPid : ByteArray := ⟨#[112, 105, 100]⟩
abbrev kRate : ByteArray := ⟨#[114, 97, 116, 101]⟩
theorem keyPid : keyOf Try.prog 9 (.string kPid) = some (.string [112, 105, 100]) := keyOf_string_mk Try.underlying9 (by unfold maxLen; decide)
theorem keyRate : keyOf Try.prog 9 (.string kRate) = some (.string [114, 97, 116, 101]) := keyOf_string_mk Try.underlying9 (by unfold maxLen; decide)
abbrev pidLaw (s1 : Nat) : Value := .agg #[.int .i64 5, .int .i64 3, .slice (some ⟨s1, 0, none⟩) 3 3, .func (.func 35) #[] #[], .func (.func 36) #[] #[]]
abbrev rateLaw (s2 : Nat) : Value := .agg #[.int .i64 2, .int .i64 2, .slice (some ⟨s2, 0, none⟩) 1 1, .func (.func 37) #[] #[], .func (.func 38) #[] #[]]
abbrev lawsD (s1 s2 : Nat) : DataW Value := ((DataW.map []).put (.string [112, 105, 100]) (.held (pidLaw s1))).put (.string [114, 97, 116, 101]) (.held (rateLaw s2))
set_option maxHeartbeats 2000000 in
theorem laws_any (w : World) : Calls Try.prog 26 #[] w fun e w' => ∃ b s1 s2 : Nat, e = .returned (.map (some b)) ∧ w'.ownsMap Try.prog 9 heldE b 2 (lawsD s1 s2) ∧ RowAt w' s1 [.int .i64 1, .int .i64 1, .int .i64 2] ∧ Below w.heap.size w w' := by
  have hmm := @run_makeMap Try.prog
  have HO0 := Lib.hid (fun o => (World.ownsMap_made w Try.prog 9 heldE).alloc o)
  have R0 : RowAt ((w.alloc (Obj.map #[] 0)).alloc (Obj.cells #[.int .i64 1, .int .i64 1, .int .i64 2] 3)) (w.heap.size + 1) [.int .i64 1, .int .i64 1, .int .i64 2] := by
    have h := row_fresh (w.alloc (Obj.map #[] 0)) #[.int .i64 1, .int .i64 1, .int .i64 2] 3
    rw [World.size_alloc] at h
    exact h
  have B0 : Below w.heap.size w ((w.alloc (Obj.map #[] 0)).alloc (Obj.cells #[.int .i64 1, .int .i64 1, .int .i64 2] 3)) := ((Below.refl _ _).alloc (Nat.le_refl _) _).alloc (by rw [World.size_alloc]; omega) _
  obtain ⟨w1, hr1, ho1, hg1⟩ := (HO0.out (Obj.cells #[.int .i64 1, .int .i64 1, .int .i64 2] 3)).update (val := pidLaw (w.heap.size + 1)) lawS Try.underlying60 (by unfold maxLen; omega) keyPid (d := .held (pidLaw (w.heap.size + 1))) (ps := []) rfl
  dsimp only [pidLaw, kPid] at hr1
  have R1 := grown_row R0 hg1 (by simp)
  have B1 := Below.grown B0 hg1 B0.size (fun k hk => by cases hk; exact Nat.le_refl _)
  have O2 : (w1.alloc (Obj.cells #[.int .i64 1] 3)).ownsMap Try.prog 9 heldE w.heap.size (0 + 1) ((DataW.map []).put (.string [112, 105, 100]) (.held (pidLaw (w.heap.size + 1)))) := ho1.alloc _
  have R2 := R1.keep ((Below.refl _ _).alloc (Nat.le_refl _) (Obj.cells #[.int .i64 1] 3))
  have B2 := B1.alloc B1.size (Obj.cells #[.int .i64 1] 3)
  obtain ⟨w3, hr3, ho3, hg3⟩ := O2.update (val := rateLaw w1.heap.size) lawS Try.underlying60 (by unfold maxLen; omega) keyRate (d := .held (rateLaw w1.heap.size)) (ps := []) rfl
  dsimp only [rateLaw, kRate] at hr3
  have R3 := grown_row R2 hg3 (by simp)
  have B3 := Below.grown B2 hg3 B2.size (fun k hk => by cases hk; exact Nat.le_refl _)
  have HR3 := Lib.hid R3
  have HB3 := Lib.hid B3
  have HO3 := Lib.hid ho3
  clear R0 R1 R2 R3 B0 B1 B2 B3 ho1 ho3 O2 hg1 hg3 HO0
  go_enter Try.func26, Try.ntmps26
  go_wp2_with fail
  go_ret
  exact ⟨_, _, _, rfl, HO3.out, HR3.out, HB3.out⟩
end Go.Proofs.Ytepmeacdacnhmaa
