/-
  No cell of these rows narrows 'for every input' (looked for: loops, veiled, ifaces, maps, wideKeys, modest, calm, conditions, laid).
  DERIVED. THE GIVEN ROWS OF THIS SEAT. 6 by the template 'for every input the law returns true; each argument reads behind the call as it read before'; 0 by the template 'total and deterministic' (their statements: YtenlkadmniobdaaTotals.lean).
  GIVEN WITH THE SEED: the statements are not yours to turn. If you find one false, say at which input.
  Laid BY PROGRAM, IN A SANDBOX (cutbox-rows.mjs): the forced cells as the released guide's own fill.sh prints them over the translation 227431420a9caa78… (all of the seat's roots in one cut). By AI agents, Wed Nov 11 2026. No macro, syntax, notation, axiom, sorry.
-/
import Derived.Test.YtenlkadmniobdaaChecked
import GoSem.Claim
import GoSem.ClaimJoined
import GoSem.ClaimMapViews
import Derived.JoinedTies
import Derived.KernelRfl
namespace Go.Proofs.Ytenlkadmniobdaa
/- THE CELL 'sum', in the pinned program and in every row, IS THE sha256 OF THE DUMP (.gsa) THAT YtenlkadmniobdaaProg.lean LOADS. Nothing in Lean hashes anything: it is a label: what it is worth is what the hold of that sum in a sandbox is worth. -/
noncomputable def Try.pinned : Pinned := { name := "ytenlkadmniobdaa", sum := "227431420a9caa7815bb16dee3e26396315750f8c6f811bb24275f9ce72f5c51", checked := Try.checked }
namespace Rows
def none {H : Type} : Left H := { results := [], args := [] }

/-- 'foliotlaw08.PulseOffsets': WHATEVER THE INPUT: true; the input reads as it did. -/
def pulseOffsetsSpec : ChangeSpec := { name := "pulseOffsets", fn := fun _ => fun
  | [d] => { results := [.lit (.bool true)], args := [d] }
  | _ => none }
def pulseOffsetsRow : OpenClaim := { program := "ytenlkadmniobdaa", sum := "227431420a9caa7815bb16dee3e26396315750f8c6f811bb24275f9ce72f5c51", func := "foliot/foliotlaw08.PulseOffsets", spec := "pulseOffsets", recurses := true, named := ["math/bits.divideError", "math/bits.overflowError"], apart := false }
def PulseOffsetsSaid : Prop := pulseOffsetsRow.holds Try.pinned (OpenSpec.ofChange pulseOffsetsSpec)

/-- ITS FALSE NEIGHBOUR: 'it returns false'. Refute it at one input. -/
def pulseOffsetsWrong : ChangeSpec := { name := "pulseOffsets", fn := fun _ => fun
  | [d] => { results := [.lit (.bool false)], args := [d] }
  | _ => none }
def PulseOffsetsWrongFalsely : Prop := pulseOffsetsRow.holds Try.pinned (OpenSpec.ofChange pulseOffsetsWrong)

/-- 'foliotlaw08.PulseMedians': WHATEVER THE INPUT: true; the input reads as it did. -/
def pulseMediansSpec : ChangeSpec := { name := "pulseMedians", fn := fun _ => fun
  | [d] => { results := [.lit (.bool true)], args := [d] }
  | _ => none }
def pulseMediansRow : OpenClaim := { program := "ytenlkadmniobdaa", sum := "227431420a9caa7815bb16dee3e26396315750f8c6f811bb24275f9ce72f5c51", func := "foliot/foliotlaw08.PulseMedians", spec := "pulseMedians", recurses := true, named := ["math/bits.divideError", "math/bits.overflowError"], apart := false }
def PulseMediansSaid : Prop := pulseMediansRow.holds Try.pinned (OpenSpec.ofChange pulseMediansSpec)

/-- ITS FALSE NEIGHBOUR: 'it returns false'. Refute it at one input. -/
def pulseMediansWrong : ChangeSpec := { name := "pulseMedians", fn := fun _ => fun
  | [d] => { results := [.lit (.bool false)], args := [d] }
  | _ => none }
def PulseMediansWrongFalsely : Prop := pulseMediansRow.holds Try.pinned (OpenSpec.ofChange pulseMediansWrong)

/-- 'foliotlaw08.PulseWild': WHATEVER THE INPUT: true; the input reads as it did. -/
def pulseWildSpec : ChangeSpec := { name := "pulseWild", fn := fun _ => fun
  | [d1, d2, d3] => { results := [.lit (.bool true)], args := [d1, d2, d3] }
  | _ => none }
def pulseWildRow : OpenClaim := { program := "ytenlkadmniobdaa", sum := "227431420a9caa7815bb16dee3e26396315750f8c6f811bb24275f9ce72f5c51", func := "foliot/foliotlaw08.PulseWild", spec := "pulseWild", recurses := true, named := ["math/bits.divideError", "math/bits.overflowError"], apart := false }
def PulseWildSaid : Prop := pulseWildRow.holds Try.pinned (OpenSpec.ofChange pulseWildSpec)

/-- ITS FALSE NEIGHBOUR: 'it returns false'. Refute it at one input. -/
def pulseWildWrong : ChangeSpec := { name := "pulseWild", fn := fun _ => fun
  | [d1, d2, d3] => { results := [.lit (.bool false)], args := [d1, d2, d3] }
  | _ => none }
def PulseWildWrongFalsely : Prop := pulseWildRow.holds Try.pinned (OpenSpec.ofChange pulseWildWrong)

/-- 'foliotlaw08.PulseTurns': WHATEVER THE INPUT: true; the input reads as it did. -/
def pulseTurnsSpec : ChangeSpec := { name := "pulseTurns", fn := fun _ => fun
  | [d1, d2, d3, d4] => { results := [.lit (.bool true)], args := [d1, d2, d3, d4] }
  | _ => none }
def pulseTurnsRow : OpenClaim := { program := "ytenlkadmniobdaa", sum := "227431420a9caa7815bb16dee3e26396315750f8c6f811bb24275f9ce72f5c51", func := "foliot/foliotlaw08.PulseTurns", spec := "pulseTurns", recurses := true, named := ["math/bits.divideError", "math/bits.overflowError"], apart := false }
def PulseTurnsSaid : Prop := pulseTurnsRow.holds Try.pinned (OpenSpec.ofChange pulseTurnsSpec)

/-- ITS FALSE NEIGHBOUR: 'it returns false'. Refute it at one input. -/
def pulseTurnsWrong : ChangeSpec := { name := "pulseTurns", fn := fun _ => fun
  | [d1, d2, d3, d4] => { results := [.lit (.bool false)], args := [d1, d2, d3, d4] }
  | _ => none }
def PulseTurnsWrongFalsely : Prop := pulseTurnsRow.holds Try.pinned (OpenSpec.ofChange pulseTurnsWrong)

/-- 'foliotlaw08.PulseScript': WHATEVER THE INPUT: true; the input reads as it did. -/
def pulseScriptSpec : ChangeSpec := { name := "pulseScript", fn := fun _ => fun
  | [d] => { results := [.lit (.bool true)], args := [d] }
  | _ => none }
def pulseScriptRow : OpenClaim := { program := "ytenlkadmniobdaa", sum := "227431420a9caa7815bb16dee3e26396315750f8c6f811bb24275f9ce72f5c51", func := "foliot/foliotlaw08.PulseScript", spec := "pulseScript", recurses := true, named := ["math/bits.divideError", "math/bits.overflowError"], apart := false }
def PulseScriptSaid : Prop := pulseScriptRow.holds Try.pinned (OpenSpec.ofChange pulseScriptSpec)

/-- ITS FALSE NEIGHBOUR: 'it returns false'. Refute it at one input. -/
def pulseScriptWrong : ChangeSpec := { name := "pulseScript", fn := fun _ => fun
  | [d] => { results := [.lit (.bool false)], args := [d] }
  | _ => none }
def PulseScriptWrongFalsely : Prop := pulseScriptRow.holds Try.pinned (OpenSpec.ofChange pulseScriptWrong)

/-- 'foliotlaw08.PulseSteady': WHATEVER THE INPUT: true; the input reads as it did. -/
def pulseSteadySpec : ChangeSpec := { name := "pulseSteady", fn := fun _ => fun
  | [d1, d2, d3, d4] => { results := [.lit (.bool true)], args := [d1, d2, d3, d4] }
  | _ => none }
def pulseSteadyRow : OpenClaim := { program := "ytenlkadmniobdaa", sum := "227431420a9caa7815bb16dee3e26396315750f8c6f811bb24275f9ce72f5c51", func := "foliot/foliotlaw08.PulseSteady", spec := "pulseSteady", recurses := true, named := ["math/bits.divideError", "math/bits.overflowError"], apart := false }
def PulseSteadySaid : Prop := pulseSteadyRow.holds Try.pinned (OpenSpec.ofChange pulseSteadySpec)

/-- ITS FALSE NEIGHBOUR: 'it returns false'. Refute it at one input. -/
def pulseSteadyWrong : ChangeSpec := { name := "pulseSteady", fn := fun _ => fun
  | [d1, d2, d3, d4] => { results := [.lit (.bool false)], args := [d1, d2, d3, d4] }
  | _ => none }
def PulseSteadyWrongFalsely : Prop := pulseSteadyRow.holds Try.pinned (OpenSpec.ofChange pulseSteadyWrong)

/- THE SECOND FORM. 'bulk': how many values and letters a reading holds, each counted each time it is reached (what is shared counts as often as it is met; a slice's spare places count too). A statement '..UptoSaid' is the law's where the arguments, and the package variables that the reading takes, are together of bulk at most 1048576: NARROWER than '..Said'. Prove '..Said' where nothing that the law and all that it calls make is longer than what came in: it says more and counts as full. Else prove '..UptoSaid'. A law counts once. -/
mutual
def uptoBulk {H : Type} : DataW H → Nat
  | .lit (.string bytes) => bytes.length + 1
  | .lit _ => 1
  | .nil => 1
  | .ptr d => uptoBulk d + 1
  | .slice elems spare => uptoBulkAll elems + uptoBulkAll spare + 1
  | .agg parts => uptoBulkAll parts + 1
  | .iface _ d => uptoBulk d + 1
  | .map entries => uptoBulkEntries entries + 1
  | .held _ => 1
def uptoBulkAll {H : Type} : List (DataW H) → Nat
  | [] => 0
  | d :: r => uptoBulk d + uptoBulkAll r
def uptoBulkEntries {H : Type} : List (Lit × DataW H) → Nat
  | [] => 0
  | x :: r => uptoBulkEntry x + uptoBulkEntries r
def uptoBulkEntry {H : Type} : Lit × DataW H → Nat
  | (.string bytes, d) => bytes.length + uptoBulk d + 1
  | (_, d) => uptoBulk d + 1
 end
def uptoSmall : (H : Type) → List (DataW H) → Bool := fun _ ds => decide (uptoBulkAll ds ≤ 1048576)
def OpenSpec.upto (s : _root_.Go.ChangeSpec) : _root_.Go.OpenSpec := { _root_.Go.OpenSpec.ofChange s with cond := some uptoSmall }

/-- 'foliotlaw08.PulseOffsets', WHERE WHAT IT READS IS OF BULK AT MOST 1048576: true; the input reads as it did. -/
def pulseOffsetsUptoRow : OpenClaim := { program := "ytenlkadmniobdaa", sum := "227431420a9caa7815bb16dee3e26396315750f8c6f811bb24275f9ce72f5c51", func := "foliot/foliotlaw08.PulseOffsets", spec := "pulseOffsets", recurses := true, named := ["math/bits.divideError", "math/bits.overflowError"], apart := false, narrowed := true }
def PulseOffsetsUptoSaid : Prop := pulseOffsetsUptoRow.holds Try.pinned (OpenSpec.upto pulseOffsetsSpec)

/-- 'foliotlaw08.PulseMedians', WHERE WHAT IT READS IS OF BULK AT MOST 1048576: true; the input reads as it did. -/
def pulseMediansUptoRow : OpenClaim := { program := "ytenlkadmniobdaa", sum := "227431420a9caa7815bb16dee3e26396315750f8c6f811bb24275f9ce72f5c51", func := "foliot/foliotlaw08.PulseMedians", spec := "pulseMedians", recurses := true, named := ["math/bits.divideError", "math/bits.overflowError"], apart := false, narrowed := true }
def PulseMediansUptoSaid : Prop := pulseMediansUptoRow.holds Try.pinned (OpenSpec.upto pulseMediansSpec)

/-- 'foliotlaw08.PulseWild', WHERE WHAT IT READS IS OF BULK AT MOST 1048576: true; the input reads as it did. -/
def pulseWildUptoRow : OpenClaim := { program := "ytenlkadmniobdaa", sum := "227431420a9caa7815bb16dee3e26396315750f8c6f811bb24275f9ce72f5c51", func := "foliot/foliotlaw08.PulseWild", spec := "pulseWild", recurses := true, named := ["math/bits.divideError", "math/bits.overflowError"], apart := false, narrowed := true }
def PulseWildUptoSaid : Prop := pulseWildUptoRow.holds Try.pinned (OpenSpec.upto pulseWildSpec)

/-- 'foliotlaw08.PulseTurns', WHERE WHAT IT READS IS OF BULK AT MOST 1048576: true; the input reads as it did. -/
def pulseTurnsUptoRow : OpenClaim := { program := "ytenlkadmniobdaa", sum := "227431420a9caa7815bb16dee3e26396315750f8c6f811bb24275f9ce72f5c51", func := "foliot/foliotlaw08.PulseTurns", spec := "pulseTurns", recurses := true, named := ["math/bits.divideError", "math/bits.overflowError"], apart := false, narrowed := true }
def PulseTurnsUptoSaid : Prop := pulseTurnsUptoRow.holds Try.pinned (OpenSpec.upto pulseTurnsSpec)

/-- 'foliotlaw08.PulseScript', WHERE WHAT IT READS IS OF BULK AT MOST 1048576: true; the input reads as it did. -/
def pulseScriptUptoRow : OpenClaim := { program := "ytenlkadmniobdaa", sum := "227431420a9caa7815bb16dee3e26396315750f8c6f811bb24275f9ce72f5c51", func := "foliot/foliotlaw08.PulseScript", spec := "pulseScript", recurses := true, named := ["math/bits.divideError", "math/bits.overflowError"], apart := false, narrowed := true }
def PulseScriptUptoSaid : Prop := pulseScriptUptoRow.holds Try.pinned (OpenSpec.upto pulseScriptSpec)

/-- 'foliotlaw08.PulseSteady', WHERE WHAT IT READS IS OF BULK AT MOST 1048576: true; the input reads as it did. -/
def pulseSteadyUptoRow : OpenClaim := { program := "ytenlkadmniobdaa", sum := "227431420a9caa7815bb16dee3e26396315750f8c6f811bb24275f9ce72f5c51", func := "foliot/foliotlaw08.PulseSteady", spec := "pulseSteady", recurses := true, named := ["math/bits.divideError", "math/bits.overflowError"], apart := false, narrowed := true }
def PulseSteadyUptoSaid : Prop := pulseSteadyUptoRow.holds Try.pinned (OpenSpec.upto pulseSteadySpec)

end Rows
end Go.Proofs.Ytenlkadmniobdaa
