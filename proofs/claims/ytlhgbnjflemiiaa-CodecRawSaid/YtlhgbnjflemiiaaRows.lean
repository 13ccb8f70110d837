/-
  No cell of these rows narrows 'for every input' (looked for: loops, veiled, ifaces, maps, wideKeys, modest, calm, conditions, laid).
  DERIVED. THE GIVEN ROWS OF THIS SEAT. 6 by the template 'for every input the law returns true; each argument reads behind the call as it read before'; 0 by the template 'total and deterministic' (their statements: YtlhgbnjflemiiaaTotals.lean).
  GIVEN WITH THE SEED: the statements are not yours to turn. If you find one false, say at which input.
  Laid BY PROGRAM, IN A SANDBOX (cutbox-rows.mjs): the forced cells as the released guide's own fill.sh prints them over the translation af450b138e07d412… (all of the seat's roots in one cut). By AI agents, Wed Nov 11 2026. No macro, syntax, notation, axiom, sorry.
-/
import Derived.Test.YtlhgbnjflemiiaaChecked
import GoSem.Claim
import GoSem.ClaimJoined
import GoSem.ClaimMapViews
import Derived.JoinedTies
import Derived.KernelRfl
namespace Go.Proofs.Ytlhgbnjflemiiaa
/- THE CELL 'sum', in the pinned program and in every row, IS THE sha256 OF THE DUMP (.gsa) THAT YtlhgbnjflemiiaaProg.lean LOADS. Nothing in Lean hashes anything: it is a label: what it is worth is what the hold of that sum in a sandbox is worth. -/
noncomputable def Try.pinned : Pinned := { name := "ytlhgbnjflemiiaa", sum := "af450b138e07d4128eae850c59f9f27d6f4c52db0ad88e99c211f46b151ae25c", checked := Try.checked }
namespace Rows
def none {H : Type} : Left H := { results := [], args := [] }

/-- 'plenumlaw02.CodecWrites': WHATEVER THE INPUT: true; the input reads as it did. -/
def codecWritesSpec : ChangeSpec := { name := "codecWrites", fn := fun _ => fun
  | [d] => { results := [.lit (.bool true)], args := [d] }
  | _ => none }
def codecWritesRow : OpenClaim := { program := "ytlhgbnjflemiiaa", sum := "af450b138e07d4128eae850c59f9f27d6f4c52db0ad88e99c211f46b151ae25c", func := "plenum/plenumlaw02.CodecWrites", spec := "codecWrites", recurses := true, apart := false }
def CodecWritesSaid : Prop := codecWritesRow.holds Try.pinned (OpenSpec.ofChange codecWritesSpec)

/-- ITS FALSE NEIGHBOUR: 'it returns false'. Refute it at one input. -/
def codecWritesWrong : ChangeSpec := { name := "codecWrites", fn := fun _ => fun
  | [d] => { results := [.lit (.bool false)], args := [d] }
  | _ => none }
def CodecWritesWrongFalsely : Prop := codecWritesRow.holds Try.pinned (OpenSpec.ofChange codecWritesWrong)

/-- 'plenumlaw02.CodecReads': WHATEVER THE INPUT: true; the input reads as it did. -/
def codecReadsSpec : ChangeSpec := { name := "codecReads", fn := fun _ => fun
  | [d] => { results := [.lit (.bool true)], args := [d] }
  | _ => none }
def codecReadsRow : OpenClaim := { program := "ytlhgbnjflemiiaa", sum := "af450b138e07d4128eae850c59f9f27d6f4c52db0ad88e99c211f46b151ae25c", func := "plenum/plenumlaw02.CodecReads", spec := "codecReads", recurses := true, apart := false }
def CodecReadsSaid : Prop := codecReadsRow.holds Try.pinned (OpenSpec.ofChange codecReadsSpec)

/-- ITS FALSE NEIGHBOUR: 'it returns false'. Refute it at one input. -/
def codecReadsWrong : ChangeSpec := { name := "codecReads", fn := fun _ => fun
  | [d] => { results := [.lit (.bool false)], args := [d] }
  | _ => none }
def CodecReadsWrongFalsely : Prop := codecReadsRow.holds Try.pinned (OpenSpec.ofChange codecReadsWrong)

/-- 'plenumlaw02.CodecRaw': WHATEVER THE INPUT: true; the input reads as it did. -/
def codecRawSpec : ChangeSpec := { name := "codecRaw", fn := fun _ => fun
  | [d1, d2] => { results := [.lit (.bool true)], args := [d1, d2] }
  | _ => none }
def codecRawRow : OpenClaim := { program := "ytlhgbnjflemiiaa", sum := "af450b138e07d4128eae850c59f9f27d6f4c52db0ad88e99c211f46b151ae25c", func := "plenum/plenumlaw02.CodecRaw", spec := "codecRaw", recurses := true, apart := false }
def CodecRawSaid : Prop := codecRawRow.holds Try.pinned (OpenSpec.ofChange codecRawSpec)

/-- ITS FALSE NEIGHBOUR: 'it returns false'. Refute it at one input. -/
def codecRawWrong : ChangeSpec := { name := "codecRaw", fn := fun _ => fun
  | [d1, d2] => { results := [.lit (.bool false)], args := [d1, d2] }
  | _ => none }
def CodecRawWrongFalsely : Prop := codecRawRow.holds Try.pinned (OpenSpec.ofChange codecRawWrong)

/-- 'plenumlaw02.CodecSkips': WHATEVER THE INPUT: true; the input reads as it did. -/
def codecSkipsSpec : ChangeSpec := { name := "codecSkips", fn := fun _ => fun
  | [d1, d2] => { results := [.lit (.bool true)], args := [d1, d2] }
  | _ => none }
def codecSkipsRow : OpenClaim := { program := "ytlhgbnjflemiiaa", sum := "af450b138e07d4128eae850c59f9f27d6f4c52db0ad88e99c211f46b151ae25c", func := "plenum/plenumlaw02.CodecSkips", spec := "codecSkips", recurses := true, apart := false }
def CodecSkipsSaid : Prop := codecSkipsRow.holds Try.pinned (OpenSpec.ofChange codecSkipsSpec)

/-- ITS FALSE NEIGHBOUR: 'it returns false'. Refute it at one input. -/
def codecSkipsWrong : ChangeSpec := { name := "codecSkips", fn := fun _ => fun
  | [d1, d2] => { results := [.lit (.bool false)], args := [d1, d2] }
  | _ => none }
def CodecSkipsWrongFalsely : Prop := codecSkipsRow.holds Try.pinned (OpenSpec.ofChange codecSkipsWrong)

/-- 'plenumlaw02.CodecPrefix': WHATEVER THE INPUT: true; the input reads as it did. -/
def codecPrefixSpec : ChangeSpec := { name := "codecPrefix", fn := fun _ => fun
  | [d1, d2] => { results := [.lit (.bool true)], args := [d1, d2] }
  | _ => none }
def codecPrefixRow : OpenClaim := { program := "ytlhgbnjflemiiaa", sum := "af450b138e07d4128eae850c59f9f27d6f4c52db0ad88e99c211f46b151ae25c", func := "plenum/plenumlaw02.CodecPrefix", spec := "codecPrefix", recurses := true, apart := false }
def CodecPrefixSaid : Prop := codecPrefixRow.holds Try.pinned (OpenSpec.ofChange codecPrefixSpec)

/-- ITS FALSE NEIGHBOUR: 'it returns false'. Refute it at one input. -/
def codecPrefixWrong : ChangeSpec := { name := "codecPrefix", fn := fun _ => fun
  | [d1, d2] => { results := [.lit (.bool false)], args := [d1, d2] }
  | _ => none }
def CodecPrefixWrongFalsely : Prop := codecPrefixRow.holds Try.pinned (OpenSpec.ofChange codecPrefixWrong)

/-- 'plenumlaw02.CodecDigest': WHATEVER THE INPUT: true; the input reads as it did. -/
def codecDigestSpec : ChangeSpec := { name := "codecDigest", fn := fun _ => fun
  | [d1, d2, d3] => { results := [.lit (.bool true)], args := [d1, d2, d3] }
  | _ => none }
def codecDigestRow : OpenClaim := { program := "ytlhgbnjflemiiaa", sum := "af450b138e07d4128eae850c59f9f27d6f4c52db0ad88e99c211f46b151ae25c", func := "plenum/plenumlaw02.CodecDigest", spec := "codecDigest", recurses := true, apart := false }
def CodecDigestSaid : Prop := codecDigestRow.holds Try.pinned (OpenSpec.ofChange codecDigestSpec)

/-- ITS FALSE NEIGHBOUR: 'it returns false'. Refute it at one input. -/
def codecDigestWrong : ChangeSpec := { name := "codecDigest", fn := fun _ => fun
  | [d1, d2, d3] => { results := [.lit (.bool false)], args := [d1, d2, d3] }
  | _ => none }
def CodecDigestWrongFalsely : Prop := codecDigestRow.holds Try.pinned (OpenSpec.ofChange codecDigestWrong)

/- THE SECOND FORM. 'bulk': how many values and letters a reading holds, each counted each time it is reached (what is shared counts as often as it is met; a slice's spare places count too). A statement '..UptoSaid' is the law's where the arguments, and the package variables that the reading takes, are together of bulk at most 1048576: NARROWER than '..Said'. Prove '..Said' where nothing that the law and all that it calls make is longer than what came in: it says more and counts as full. Else prove '..UptoSaid'. A law counts once. -/
mutual
def uptoBulk {H : Type} : DataW H → Nat
  | .lit (.string bytes) => bytes.length + 1
  | .lit _ => 1
  | .nil => 1
  | .ptr d => uptoBulk d + 1
  | .slice elems spare => uptoBulkAll elems + uptoBulkAll spare + 1
  | .agg parts => uptoBulkAll parts + 1
  | .iface _ d => uptoBulk d + 1
  | .map entries => uptoBulkEntries entries + 1
  | .held _ => 1
def uptoBulkAll {H : Type} : List (DataW H) → Nat
  | [] => 0
  | d :: r => uptoBulk d + uptoBulkAll r
def uptoBulkEntries {H : Type} : List (Lit × DataW H) → Nat
  | [] => 0
  | x :: r => uptoBulkEntry x + uptoBulkEntries r
def uptoBulkEntry {H : Type} : Lit × DataW H → Nat
  | (.string bytes, d) => bytes.length + uptoBulk d + 1
  | (_, d) => uptoBulk d + 1
 end
def uptoSmall : (H : Type) → List (DataW H) → Bool := fun _ ds => decide (uptoBulkAll ds ≤ 1048576)
def OpenSpec.upto (s : _root_.Go.ChangeSpec) : _root_.Go.OpenSpec := { _root_.Go.OpenSpec.ofChange s with cond := some uptoSmall }

/-- 'plenumlaw02.CodecWrites', WHERE WHAT IT READS IS OF BULK AT MOST 1048576: true; the input reads as it did. -/
def codecWritesUptoRow : OpenClaim := { program := "ytlhgbnjflemiiaa", sum := "af450b138e07d4128eae850c59f9f27d6f4c52db0ad88e99c211f46b151ae25c", func := "plenum/plenumlaw02.CodecWrites", spec := "codecWrites", recurses := true, apart := false, narrowed := true }
def CodecWritesUptoSaid : Prop := codecWritesUptoRow.holds Try.pinned (OpenSpec.upto codecWritesSpec)

/-- 'plenumlaw02.CodecReads', WHERE WHAT IT READS IS OF BULK AT MOST 1048576: true; the input reads as it did. -/
def codecReadsUptoRow : OpenClaim := { program := "ytlhgbnjflemiiaa", sum := "af450b138e07d4128eae850c59f9f27d6f4c52db0ad88e99c211f46b151ae25c", func := "plenum/plenumlaw02.CodecReads", spec := "codecReads", recurses := true, apart := false, narrowed := true }
def CodecReadsUptoSaid : Prop := codecReadsUptoRow.holds Try.pinned (OpenSpec.upto codecReadsSpec)

/-- 'plenumlaw02.CodecRaw', WHERE WHAT IT READS IS OF BULK AT MOST 1048576: true; the input reads as it did. -/
def codecRawUptoRow : OpenClaim := { program := "ytlhgbnjflemiiaa", sum := "af450b138e07d4128eae850c59f9f27d6f4c52db0ad88e99c211f46b151ae25c", func := "plenum/plenumlaw02.CodecRaw", spec := "codecRaw", recurses := true, apart := false, narrowed := true }
def CodecRawUptoSaid : Prop := codecRawUptoRow.holds Try.pinned (OpenSpec.upto codecRawSpec)

/-- 'plenumlaw02.CodecSkips', WHERE WHAT IT READS IS OF BULK AT MOST 1048576: true; the input reads as it did. -/
def codecSkipsUptoRow : OpenClaim := { program := "ytlhgbnjflemiiaa", sum := "af450b138e07d4128eae850c59f9f27d6f4c52db0ad88e99c211f46b151ae25c", func := "plenum/plenumlaw02.CodecSkips", spec := "codecSkips", recurses := true, apart := false, narrowed := true }
def CodecSkipsUptoSaid : Prop := codecSkipsUptoRow.holds Try.pinned (OpenSpec.upto codecSkipsSpec)

/-- 'plenumlaw02.CodecPrefix', WHERE WHAT IT READS IS OF BULK AT MOST 1048576: true; the input reads as it did. -/
def codecPrefixUptoRow : OpenClaim := { program := "ytlhgbnjflemiiaa", sum := "af450b138e07d4128eae850c59f9f27d6f4c52db0ad88e99c211f46b151ae25c", func := "plenum/plenumlaw02.CodecPrefix", spec := "codecPrefix", recurses := true, apart := false, narrowed := true }
def CodecPrefixUptoSaid : Prop := codecPrefixUptoRow.holds Try.pinned (OpenSpec.upto codecPrefixSpec)

/-- 'plenumlaw02.CodecDigest', WHERE WHAT IT READS IS OF BULK AT MOST 1048576: true; the input reads as it did. -/
def codecDigestUptoRow : OpenClaim := { program := "ytlhgbnjflemiiaa", sum := "af450b138e07d4128eae850c59f9f27d6f4c52db0ad88e99c211f46b151ae25c", func := "plenum/plenumlaw02.CodecDigest", spec := "codecDigest", recurses := true, apart := false, narrowed := true }
def CodecDigestUptoSaid : Prop := codecDigestUptoRow.holds Try.pinned (OpenSpec.upto codecDigestSpec)

end Rows
end Go.Proofs.Ytlhgbnjflemiiaa
