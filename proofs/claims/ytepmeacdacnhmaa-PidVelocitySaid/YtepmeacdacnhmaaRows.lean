/-
  No cell of these rows narrows 'for every input' (looked for: loops, veiled, ifaces, maps, wideKeys, modest, calm, conditions, laid).
  DERIVED. THE GIVEN ROWS OF THIS SEAT. 4 by the template 'for every input the law returns true; each argument reads behind the call as it read before'; 0 by the template 'total and deterministic' (their statements: YtepmeacdacnhmaaTotals.lean).
  GIVEN WITH THE SEED: the statements are not yours to turn. If you find one false, say at which input.
  Laid BY PROGRAM, IN A SANDBOX (cutbox-rows.mjs): the forced cells as the released guide's own fill.sh prints them over the translation a254b2f4bc4c9877… (all of the seat's roots in one cut). By AI agents, Wed Nov 11 2026. No macro, syntax, notation, axiom, sorry.
-/
import Derived.Test.YtepmeacdacnhmaaChecked
import GoSem.Claim
import GoSem.ClaimJoined
import GoSem.ClaimMapViews
import Derived.JoinedTies
import Derived.KernelRfl
namespace Go.Proofs.Ytepmeacdacnhmaa
/- THE CELL 'sum', in the pinned program and in every row, IS THE sha256 OF THE DUMP (.gsa) THAT YtepmeacdacnhmaaProg.lean LOADS. Nothing in Lean hashes anything: it is a label: what it is worth is what the hold of that sum in a sandbox is worth. -/
noncomputable def Try.pinned : Pinned := { name := "ytepmeacdacnhmaa", sum := "a254b2f4bc4c9877f7cda10bf484ed48966ee236ee899bb526134f2b547db5a5", checked := Try.checked }
namespace Rows
def none {H : Type} : Left H := { results := [], args := [] }

/-- 'plenumlaw20.PidVelocity': WHATEVER THE INPUT: true; the input reads as it did. -/
def pidVelocitySpec : ChangeSpec := { name := "pidVelocity", fn := fun _ => fun
  | [d1, d2, d3, d4] => { results := [.lit (.bool true)], args := [d1, d2, d3, d4] }
  | _ => none }
def pidVelocityRow : OpenClaim := { program := "ytepmeacdacnhmaa", sum := "a254b2f4bc4c9877f7cda10bf484ed48966ee236ee899bb526134f2b547db5a5", func := "plenum/plenumlaw20.PidVelocity", spec := "pidVelocity", inPlace := ["math/bits.Add64"], unfollowed := true, recurses := true, named := ["math/bits.divideError", "math/bits.overflowError"], apart := false }
def PidVelocitySaid : Prop := pidVelocityRow.holds Try.pinned (OpenSpec.ofChange pidVelocitySpec)

/-- ITS FALSE NEIGHBOUR: 'it returns false'. Refute it at one input. -/
def pidVelocityWrong : ChangeSpec := { name := "pidVelocity", fn := fun _ => fun
  | [d1, d2, d3, d4] => { results := [.lit (.bool false)], args := [d1, d2, d3, d4] }
  | _ => none }
def PidVelocityWrongFalsely : Prop := pidVelocityRow.holds Try.pinned (OpenSpec.ofChange pidVelocityWrong)

/-- 'plenumlaw20.PidTracks': WHATEVER THE INPUT: true; the input reads as it did. -/
def pidTracksSpec : ChangeSpec := { name := "pidTracks", fn := fun _ => fun
  | [d1, d2, d3, d4, d5] => { results := [.lit (.bool true)], args := [d1, d2, d3, d4, d5] }
  | _ => none }
def pidTracksRow : OpenClaim := { program := "ytepmeacdacnhmaa", sum := "a254b2f4bc4c9877f7cda10bf484ed48966ee236ee899bb526134f2b547db5a5", func := "plenum/plenumlaw20.PidTracks", spec := "pidTracks", inPlace := ["math/bits.Add64"], unfollowed := true, recurses := true, named := ["math/bits.divideError", "math/bits.overflowError"], apart := false }
def PidTracksSaid : Prop := pidTracksRow.holds Try.pinned (OpenSpec.ofChange pidTracksSpec)

/-- ITS FALSE NEIGHBOUR: 'it returns false'. Refute it at one input. -/
def pidTracksWrong : ChangeSpec := { name := "pidTracks", fn := fun _ => fun
  | [d1, d2, d3, d4, d5] => { results := [.lit (.bool false)], args := [d1, d2, d3, d4, d5] }
  | _ => none }
def PidTracksWrongFalsely : Prop := pidTracksRow.holds Try.pinned (OpenSpec.ofChange pidTracksWrong)

/-- 'plenumlaw20.PidFollows': WHATEVER THE INPUT: true; the input reads as it did. -/
def pidFollowsSpec : ChangeSpec := { name := "pidFollows", fn := fun _ => fun
  | [d1, d2, d3, d4, d5] => { results := [.lit (.bool true)], args := [d1, d2, d3, d4, d5] }
  | _ => none }
def pidFollowsRow : OpenClaim := { program := "ytepmeacdacnhmaa", sum := "a254b2f4bc4c9877f7cda10bf484ed48966ee236ee899bb526134f2b547db5a5", func := "plenum/plenumlaw20.PidFollows", spec := "pidFollows", inPlace := ["math/bits.Add64"], unfollowed := true, recurses := true, named := ["math/bits.divideError", "math/bits.overflowError"], apart := false }
def PidFollowsSaid : Prop := pidFollowsRow.holds Try.pinned (OpenSpec.ofChange pidFollowsSpec)

/-- ITS FALSE NEIGHBOUR: 'it returns false'. Refute it at one input. -/
def pidFollowsWrong : ChangeSpec := { name := "pidFollows", fn := fun _ => fun
  | [d1, d2, d3, d4, d5] => { results := [.lit (.bool false)], args := [d1, d2, d3, d4, d5] }
  | _ => none }
def PidFollowsWrongFalsely : Prop := pidFollowsRow.holds Try.pinned (OpenSpec.ofChange pidFollowsWrong)

/-- 'plenumlaw20.PidSettles': WHATEVER THE INPUT: true; the input reads as it did. -/
def pidSettlesSpec : ChangeSpec := { name := "pidSettles", fn := fun _ => fun
  | [d1, d2, d3, d4, d5] => { results := [.lit (.bool true)], args := [d1, d2, d3, d4, d5] }
  | _ => none }
def pidSettlesRow : OpenClaim := { program := "ytepmeacdacnhmaa", sum := "a254b2f4bc4c9877f7cda10bf484ed48966ee236ee899bb526134f2b547db5a5", func := "plenum/plenumlaw20.PidSettles", spec := "pidSettles", inPlace := ["math/bits.Add64"], unfollowed := true, recurses := true, named := ["math/bits.divideError", "math/bits.overflowError"], apart := false }
def PidSettlesSaid : Prop := pidSettlesRow.holds Try.pinned (OpenSpec.ofChange pidSettlesSpec)

/-- ITS FALSE NEIGHBOUR: 'it returns false'. Refute it at one input. -/
def pidSettlesWrong : ChangeSpec := { name := "pidSettles", fn := fun _ => fun
  | [d1, d2, d3, d4, d5] => { results := [.lit (.bool false)], args := [d1, d2, d3, d4, d5] }
  | _ => none }
def PidSettlesWrongFalsely : Prop := pidSettlesRow.holds Try.pinned (OpenSpec.ofChange pidSettlesWrong)

/- THE SECOND FORM. 'bulk': how many values and letters a reading holds, each counted each time it is reached (what is shared counts as often as it is met; a slice's spare places count too). A statement '..UptoSaid' is the law's where the arguments, and the package variables that the reading takes, are together of bulk at most 1048576: NARROWER than '..Said'. Prove '..Said' where nothing that the law and all that it calls make is longer than what came in: it says more and counts as full. Else prove '..UptoSaid'. A law counts once. -/
mutual
def uptoBulk {H : Type} : DataW H → Nat
  | .lit (.string bytes) => bytes.length + 1
  | .lit _ => 1
  | .nil => 1
  | .ptr d => uptoBulk d + 1
  | .slice elems spare => uptoBulkAll elems + uptoBulkAll spare + 1
  | .agg parts => uptoBulkAll parts + 1
  | .iface _ d => uptoBulk d + 1
  | .map entries => uptoBulkEntries entries + 1
  | .held _ => 1
def uptoBulkAll {H : Type} : List (DataW H) → Nat
  | [] => 0
  | d :: r => uptoBulk d + uptoBulkAll r
def uptoBulkEntries {H : Type} : List (Lit × DataW H) → Nat
  | [] => 0
  | x :: r => uptoBulkEntry x + uptoBulkEntries r
def uptoBulkEntry {H : Type} : Lit × DataW H → Nat
  | (.string bytes, d) => bytes.length + uptoBulk d + 1
  | (_, d) => uptoBulk d + 1
 end
def uptoSmall : (H : Type) → List (DataW H) → Bool := fun _ ds => decide (uptoBulkAll ds ≤ 1048576)
def OpenSpec.upto (s : _root_.Go.ChangeSpec) : _root_.Go.OpenSpec := { _root_.Go.OpenSpec.ofChange s with cond := some uptoSmall }

/-- 'plenumlaw20.PidVelocity', WHERE WHAT IT READS IS OF BULK AT MOST 1048576: true; the input reads as it did. -/
def pidVelocityUptoRow : OpenClaim := { program := "ytepmeacdacnhmaa", sum := "a254b2f4bc4c9877f7cda10bf484ed48966ee236ee899bb526134f2b547db5a5", func := "plenum/plenumlaw20.PidVelocity", spec := "pidVelocity", inPlace := ["math/bits.Add64"], unfollowed := true, recurses := true, named := ["math/bits.divideError", "math/bits.overflowError"], apart := false, narrowed := true }
def PidVelocityUptoSaid : Prop := pidVelocityUptoRow.holds Try.pinned (OpenSpec.upto pidVelocitySpec)

/-- 'plenumlaw20.PidTracks', WHERE WHAT IT READS IS OF BULK AT MOST 1048576: true; the input reads as it did. -/
def pidTracksUptoRow : OpenClaim := { program := "ytepmeacdacnhmaa", sum := "a254b2f4bc4c9877f7cda10bf484ed48966ee236ee899bb526134f2b547db5a5", func := "plenum/plenumlaw20.PidTracks", spec := "pidTracks", inPlace := ["math/bits.Add64"], unfollowed := true, recurses := true, named := ["math/bits.divideError", "math/bits.overflowError"], apart := false, narrowed := true }
def PidTracksUptoSaid : Prop := pidTracksUptoRow.holds Try.pinned (OpenSpec.upto pidTracksSpec)

/-- 'plenumlaw20.PidFollows', WHERE WHAT IT READS IS OF BULK AT MOST 1048576: true; the input reads as it did. -/
def pidFollowsUptoRow : OpenClaim := { program := "ytepmeacdacnhmaa", sum := "a254b2f4bc4c9877f7cda10bf484ed48966ee236ee899bb526134f2b547db5a5", func := "plenum/plenumlaw20.PidFollows", spec := "pidFollows", inPlace := ["math/bits.Add64"], unfollowed := true, recurses := true, named := ["math/bits.divideError", "math/bits.overflowError"], apart := false, narrowed := true }
def PidFollowsUptoSaid : Prop := pidFollowsUptoRow.holds Try.pinned (OpenSpec.upto pidFollowsSpec)

/-- 'plenumlaw20.PidSettles', WHERE WHAT IT READS IS OF BULK AT MOST 1048576: true; the input reads as it did. -/
def pidSettlesUptoRow : OpenClaim := { program := "ytepmeacdacnhmaa", sum := "a254b2f4bc4c9877f7cda10bf484ed48966ee236ee899bb526134f2b547db5a5", func := "plenum/plenumlaw20.PidSettles", spec := "pidSettles", inPlace := ["math/bits.Add64"], unfollowed := true, recurses := true, named := ["math/bits.divideError", "math/bits.overflowError"], apart := false, narrowed := true }
def PidSettlesUptoSaid : Prop := pidSettlesUptoRow.holds Try.pinned (OpenSpec.upto pidSettlesSpec)

end Rows
end Go.Proofs.Ytepmeacdacnhmaa
