/-
  No cell of these rows narrows 'for every input' (looked for: loops, veiled, ifaces, maps, wideKeys, modest, calm, conditions, laid).
  DERIVED. THE GIVEN ROWS OF THIS SEAT. 9 by the template 'for every input the law returns true; each argument reads behind the call as it read before'; 0 by the template 'total and deterministic' (their statements: YtpjakfbjiioflaaTotals.lean).
  GIVEN WITH THE SEED: the statements are not yours to turn. If you find one false, say at which input.
  Laid BY PROGRAM, IN A SANDBOX (cutbox-rows.mjs): the forced cells as the released guide's own fill.sh prints them over the translation e4cd425b43f9b81a… (all of the seat's roots in one cut). By AI agents, Wed Nov 11 2026. No macro, syntax, notation, axiom, sorry.
-/
import Derived.Test.YtpjakfbjiioflaaChecked
import GoSem.Claim
import GoSem.ClaimJoined
import GoSem.ClaimMapViews
import Derived.JoinedTies
import Derived.KernelRfl
namespace Go.Proofs.Ytpjakfbjiioflaa
/- THE CELL 'sum', in the pinned program and in every row, IS THE sha256 OF THE DUMP (.gsa) THAT YtpjakfbjiioflaaProg.lean LOADS. Nothing in Lean hashes anything: it is a label: what it is worth is what the hold of that sum in a sandbox is worth. -/
noncomputable def Try.pinned : Pinned := { name := "ytpjakfbjiioflaa", sum := "e4cd425b43f9b81a3267911555abe6d185b57f01d1ce916269e5fbe89a53ef3d", checked := Try.checked }
namespace Rows
def none {H : Type} : Left H := { results := [], args := [] }

/-- 'multikernellaw11.CapExact': WHATEVER THE INPUT: true; the input reads as it did. -/
def capExactSpec : ChangeSpec := { name := "capExact", fn := fun _ => fun
  | [d1, d2, d3] => { results := [.lit (.bool true)], args := [d1, d2, d3] }
  | _ => none }
def capExactRow : OpenClaim := { program := "ytpjakfbjiioflaa", sum := "e4cd425b43f9b81a3267911555abe6d185b57f01d1ce916269e5fbe89a53ef3d", func := "multikernel/multikernellaw11.CapExact", spec := "capExact", apart := false }
def CapExactSaid : Prop := capExactRow.holds Try.pinned (OpenSpec.ofChange capExactSpec)

/-- ITS FALSE NEIGHBOUR: 'it returns false'. Refute it at one input. -/
def capExactWrong : ChangeSpec := { name := "capExact", fn := fun _ => fun
  | [d1, d2, d3] => { results := [.lit (.bool false)], args := [d1, d2, d3] }
  | _ => none }
def CapExactWrongFalsely : Prop := capExactRow.holds Try.pinned (OpenSpec.ofChange capExactWrong)

/-- 'multikernellaw11.CapRetypeExact': WHATEVER THE INPUT: true; the input reads as it did. -/
def capRetypeExactSpec : ChangeSpec := { name := "capRetypeExact", fn := fun _ => fun
  | [d1, d2, d3, d4, d5, d6, d7] => { results := [.lit (.bool true)], args := [d1, d2, d3, d4, d5, d6, d7] }
  | _ => none }
def capRetypeExactRow : OpenClaim := { program := "ytpjakfbjiioflaa", sum := "e4cd425b43f9b81a3267911555abe6d185b57f01d1ce916269e5fbe89a53ef3d", func := "multikernel/multikernellaw11.CapRetypeExact", spec := "capRetypeExact", apart := false }
def CapRetypeExactSaid : Prop := capRetypeExactRow.holds Try.pinned (OpenSpec.ofChange capRetypeExactSpec)

/-- ITS FALSE NEIGHBOUR: 'it returns false'. Refute it at one input. -/
def capRetypeExactWrong : ChangeSpec := { name := "capRetypeExact", fn := fun _ => fun
  | [d1, d2, d3, d4, d5, d6, d7] => { results := [.lit (.bool false)], args := [d1, d2, d3, d4, d5, d6, d7] }
  | _ => none }
def CapRetypeExactWrongFalsely : Prop := capRetypeExactRow.holds Try.pinned (OpenSpec.ofChange capRetypeExactWrong)

/-- 'multikernellaw11.CapCodecExact': WHATEVER THE INPUT: true; the input reads as it did. -/
def capCodecExactSpec : ChangeSpec := { name := "capCodecExact", fn := fun _ => fun
  | [d1, d2] => { results := [.lit (.bool true)], args := [d1, d2] }
  | _ => none }
def capCodecExactRow : OpenClaim := { program := "ytpjakfbjiioflaa", sum := "e4cd425b43f9b81a3267911555abe6d185b57f01d1ce916269e5fbe89a53ef3d", func := "multikernel/multikernellaw11.CapCodecExact", spec := "capCodecExact", apart := false }
def CapCodecExactSaid : Prop := capCodecExactRow.holds Try.pinned (OpenSpec.ofChange capCodecExactSpec)

/-- ITS FALSE NEIGHBOUR: 'it returns false'. Refute it at one input. -/
def capCodecExactWrong : ChangeSpec := { name := "capCodecExact", fn := fun _ => fun
  | [d1, d2] => { results := [.lit (.bool false)], args := [d1, d2] }
  | _ => none }
def CapCodecExactWrongFalsely : Prop := capCodecExactRow.holds Try.pinned (OpenSpec.ofChange capCodecExactWrong)

/-- 'multikernellaw11.CapRoundTrip': WHATEVER THE INPUT: true; the input reads as it did. -/
def capRoundTripSpec : ChangeSpec := { name := "capRoundTrip", fn := fun _ => fun
  | [d1, d2, d3, d4, d5, d6] => { results := [.lit (.bool true)], args := [d1, d2, d3, d4, d5, d6] }
  | _ => none }
def capRoundTripRow : OpenClaim := { program := "ytpjakfbjiioflaa", sum := "e4cd425b43f9b81a3267911555abe6d185b57f01d1ce916269e5fbe89a53ef3d", func := "multikernel/multikernellaw11.CapRoundTrip", spec := "capRoundTrip", apart := false }
def CapRoundTripSaid : Prop := capRoundTripRow.holds Try.pinned (OpenSpec.ofChange capRoundTripSpec)

/-- ITS FALSE NEIGHBOUR: 'it returns false'. Refute it at one input. -/
def capRoundTripWrong : ChangeSpec := { name := "capRoundTrip", fn := fun _ => fun
  | [d1, d2, d3, d4, d5, d6] => { results := [.lit (.bool false)], args := [d1, d2, d3, d4, d5, d6] }
  | _ => none }
def CapRoundTripWrongFalsely : Prop := capRoundTripRow.holds Try.pinned (OpenSpec.ofChange capRoundTripWrong)

/-- 'multikernellaw11.CapRetypePlaces': WHATEVER THE INPUT: true; the input reads as it did. -/
def capRetypePlacesSpec : ChangeSpec := { name := "capRetypePlaces", fn := fun _ => fun
  | [d1, d2, d3, d4, d5, d6, d7] => { results := [.lit (.bool true)], args := [d1, d2, d3, d4, d5, d6, d7] }
  | _ => none }
def capRetypePlacesRow : OpenClaim := { program := "ytpjakfbjiioflaa", sum := "e4cd425b43f9b81a3267911555abe6d185b57f01d1ce916269e5fbe89a53ef3d", func := "multikernel/multikernellaw11.CapRetypePlaces", spec := "capRetypePlaces", apart := false }
def CapRetypePlacesSaid : Prop := capRetypePlacesRow.holds Try.pinned (OpenSpec.ofChange capRetypePlacesSpec)

/-- ITS FALSE NEIGHBOUR: 'it returns false'. Refute it at one input. -/
def capRetypePlacesWrong : ChangeSpec := { name := "capRetypePlaces", fn := fun _ => fun
  | [d1, d2, d3, d4, d5, d6, d7] => { results := [.lit (.bool false)], args := [d1, d2, d3, d4, d5, d6, d7] }
  | _ => none }
def CapRetypePlacesWrongFalsely : Prop := capRetypePlacesRow.holds Try.pinned (OpenSpec.ofChange capRetypePlacesWrong)

/-- 'multikernellaw11.CapRetypeSplits': WHATEVER THE INPUT: true; the input reads as it did. -/
def capRetypeSplitsSpec : ChangeSpec := { name := "capRetypeSplits", fn := fun _ => fun
  | [d1, d2, d3, d4, d5, d6, d7] => { results := [.lit (.bool true)], args := [d1, d2, d3, d4, d5, d6, d7] }
  | _ => none }
def capRetypeSplitsRow : OpenClaim := { program := "ytpjakfbjiioflaa", sum := "e4cd425b43f9b81a3267911555abe6d185b57f01d1ce916269e5fbe89a53ef3d", func := "multikernel/multikernellaw11.CapRetypeSplits", spec := "capRetypeSplits", apart := false }
def CapRetypeSplitsSaid : Prop := capRetypeSplitsRow.holds Try.pinned (OpenSpec.ofChange capRetypeSplitsSpec)

/-- ITS FALSE NEIGHBOUR: 'it returns false'. Refute it at one input. -/
def capRetypeSplitsWrong : ChangeSpec := { name := "capRetypeSplits", fn := fun _ => fun
  | [d1, d2, d3, d4, d5, d6, d7] => { results := [.lit (.bool false)], args := [d1, d2, d3, d4, d5, d6, d7] }
  | _ => none }
def CapRetypeSplitsWrongFalsely : Prop := capRetypeSplitsRow.holds Try.pinned (OpenSpec.ofChange capRetypeSplitsWrong)

/-- 'multikernellaw11.CapDevice': WHATEVER THE INPUT: true; the input reads as it did. -/
def capDeviceSpec : ChangeSpec := { name := "capDevice", fn := fun _ => fun
  | [d1, d2, d3] => { results := [.lit (.bool true)], args := [d1, d2, d3] }
  | _ => none }
def capDeviceRow : OpenClaim := { program := "ytpjakfbjiioflaa", sum := "e4cd425b43f9b81a3267911555abe6d185b57f01d1ce916269e5fbe89a53ef3d", func := "multikernel/multikernellaw11.CapDevice", spec := "capDevice", apart := false }
def CapDeviceSaid : Prop := capDeviceRow.holds Try.pinned (OpenSpec.ofChange capDeviceSpec)

/-- ITS FALSE NEIGHBOUR: 'it returns false'. Refute it at one input. -/
def capDeviceWrong : ChangeSpec := { name := "capDevice", fn := fun _ => fun
  | [d1, d2, d3] => { results := [.lit (.bool false)], args := [d1, d2, d3] }
  | _ => none }
def CapDeviceWrongFalsely : Prop := capDeviceRow.holds Try.pinned (OpenSpec.ofChange capDeviceWrong)

/-- 'multikernellaw11.CapAttenuate': WHATEVER THE INPUT: true; the input reads as it did. -/
def capAttenuateSpec : ChangeSpec := { name := "capAttenuate", fn := fun _ => fun
  | [d1, d2, d3, d4, d5, d6, d7] => { results := [.lit (.bool true)], args := [d1, d2, d3, d4, d5, d6, d7] }
  | _ => none }
def capAttenuateRow : OpenClaim := { program := "ytpjakfbjiioflaa", sum := "e4cd425b43f9b81a3267911555abe6d185b57f01d1ce916269e5fbe89a53ef3d", func := "multikernel/multikernellaw11.CapAttenuate", spec := "capAttenuate", apart := false }
def CapAttenuateSaid : Prop := capAttenuateRow.holds Try.pinned (OpenSpec.ofChange capAttenuateSpec)

/-- ITS FALSE NEIGHBOUR: 'it returns false'. Refute it at one input. -/
def capAttenuateWrong : ChangeSpec := { name := "capAttenuate", fn := fun _ => fun
  | [d1, d2, d3, d4, d5, d6, d7] => { results := [.lit (.bool false)], args := [d1, d2, d3, d4, d5, d6, d7] }
  | _ => none }
def CapAttenuateWrongFalsely : Prop := capAttenuateRow.holds Try.pinned (OpenSpec.ofChange capAttenuateWrong)

/-- 'multikernellaw11.CapCoexist': WHATEVER THE INPUT: true; the input reads as it did. -/
def capCoexistSpec : ChangeSpec := { name := "capCoexist", fn := fun _ => fun
  | [d1, d2, d3, d4, d5, d6, d7, d8, d9, d10, d11] => { results := [.lit (.bool true)], args := [d1, d2, d3, d4, d5, d6, d7, d8, d9, d10, d11] }
  | _ => none }
def capCoexistRow : OpenClaim := { program := "ytpjakfbjiioflaa", sum := "e4cd425b43f9b81a3267911555abe6d185b57f01d1ce916269e5fbe89a53ef3d", func := "multikernel/multikernellaw11.CapCoexist", spec := "capCoexist", apart := false }
def CapCoexistSaid : Prop := capCoexistRow.holds Try.pinned (OpenSpec.ofChange capCoexistSpec)

/-- ITS FALSE NEIGHBOUR: 'it returns false'. Refute it at one input. -/
def capCoexistWrong : ChangeSpec := { name := "capCoexist", fn := fun _ => fun
  | [d1, d2, d3, d4, d5, d6, d7, d8, d9, d10, d11] => { results := [.lit (.bool false)], args := [d1, d2, d3, d4, d5, d6, d7, d8, d9, d10, d11] }
  | _ => none }
def CapCoexistWrongFalsely : Prop := capCoexistRow.holds Try.pinned (OpenSpec.ofChange capCoexistWrong)

/- THE SECOND FORM. 'bulk': how many values and letters a reading holds, each counted each time it is reached (what is shared counts as often as it is met; a slice's spare places count too). A statement '..UptoSaid' is the law's where the arguments, and the package variables that the reading takes, are together of bulk at most 1048576: NARROWER than '..Said'. Prove '..Said' where nothing that the law and all that it calls make is longer than what came in: it says more and counts as full. Else prove '..UptoSaid'. A law counts once. -/
mutual
def uptoBulk {H : Type} : DataW H → Nat
  | .lit (.string bytes) => bytes.length + 1
  | .lit _ => 1
  | .nil => 1
  | .ptr d => uptoBulk d + 1
  | .slice elems spare => uptoBulkAll elems + uptoBulkAll spare + 1
  | .agg parts => uptoBulkAll parts + 1
  | .iface _ d => uptoBulk d + 1
  | .map entries => uptoBulkEntries entries + 1
  | .held _ => 1
def uptoBulkAll {H : Type} : List (DataW H) → Nat
  | [] => 0
  | d :: r => uptoBulk d + uptoBulkAll r
def uptoBulkEntries {H : Type} : List (Lit × DataW H) → Nat
  | [] => 0
  | x :: r => uptoBulkEntry x + uptoBulkEntries r
def uptoBulkEntry {H : Type} : Lit × DataW H → Nat
  | (.string bytes, d) => bytes.length + uptoBulk d + 1
  | (_, d) => uptoBulk d + 1
 end
def uptoSmall : (H : Type) → List (DataW H) → Bool := fun _ ds => decide (uptoBulkAll ds ≤ 1048576)
def OpenSpec.upto (s : _root_.Go.ChangeSpec) : _root_.Go.OpenSpec := { _root_.Go.OpenSpec.ofChange s with cond := some uptoSmall }

/-- 'multikernellaw11.CapExact', WHERE WHAT IT READS IS OF BULK AT MOST 1048576: true; the input reads as it did. -/
def capExactUptoRow : OpenClaim := { program := "ytpjakfbjiioflaa", sum := "e4cd425b43f9b81a3267911555abe6d185b57f01d1ce916269e5fbe89a53ef3d", func := "multikernel/multikernellaw11.CapExact", spec := "capExact", apart := false, narrowed := true }
def CapExactUptoSaid : Prop := capExactUptoRow.holds Try.pinned (OpenSpec.upto capExactSpec)

/-- 'multikernellaw11.CapRetypeExact', WHERE WHAT IT READS IS OF BULK AT MOST 1048576: true; the input reads as it did. -/
def capRetypeExactUptoRow : OpenClaim := { program := "ytpjakfbjiioflaa", sum := "e4cd425b43f9b81a3267911555abe6d185b57f01d1ce916269e5fbe89a53ef3d", func := "multikernel/multikernellaw11.CapRetypeExact", spec := "capRetypeExact", apart := false, narrowed := true }
def CapRetypeExactUptoSaid : Prop := capRetypeExactUptoRow.holds Try.pinned (OpenSpec.upto capRetypeExactSpec)

/-- 'multikernellaw11.CapCodecExact', WHERE WHAT IT READS IS OF BULK AT MOST 1048576: true; the input reads as it did. -/
def capCodecExactUptoRow : OpenClaim := { program := "ytpjakfbjiioflaa", sum := "e4cd425b43f9b81a3267911555abe6d185b57f01d1ce916269e5fbe89a53ef3d", func := "multikernel/multikernellaw11.CapCodecExact", spec := "capCodecExact", apart := false, narrowed := true }
def CapCodecExactUptoSaid : Prop := capCodecExactUptoRow.holds Try.pinned (OpenSpec.upto capCodecExactSpec)

/-- 'multikernellaw11.CapRoundTrip', WHERE WHAT IT READS IS OF BULK AT MOST 1048576: true; the input reads as it did. -/
def capRoundTripUptoRow : OpenClaim := { program := "ytpjakfbjiioflaa", sum := "e4cd425b43f9b81a3267911555abe6d185b57f01d1ce916269e5fbe89a53ef3d", func := "multikernel/multikernellaw11.CapRoundTrip", spec := "capRoundTrip", apart := false, narrowed := true }
def CapRoundTripUptoSaid : Prop := capRoundTripUptoRow.holds Try.pinned (OpenSpec.upto capRoundTripSpec)

/-- 'multikernellaw11.CapRetypePlaces', WHERE WHAT IT READS IS OF BULK AT MOST 1048576: true; the input reads as it did. -/
def capRetypePlacesUptoRow : OpenClaim := { program := "ytpjakfbjiioflaa", sum := "e4cd425b43f9b81a3267911555abe6d185b57f01d1ce916269e5fbe89a53ef3d", func := "multikernel/multikernellaw11.CapRetypePlaces", spec := "capRetypePlaces", apart := false, narrowed := true }
def CapRetypePlacesUptoSaid : Prop := capRetypePlacesUptoRow.holds Try.pinned (OpenSpec.upto capRetypePlacesSpec)

/-- 'multikernellaw11.CapRetypeSplits', WHERE WHAT IT READS IS OF BULK AT MOST 1048576: true; the input reads as it did. -/
def capRetypeSplitsUptoRow : OpenClaim := { program := "ytpjakfbjiioflaa", sum := "e4cd425b43f9b81a3267911555abe6d185b57f01d1ce916269e5fbe89a53ef3d", func := "multikernel/multikernellaw11.CapRetypeSplits", spec := "capRetypeSplits", apart := false, narrowed := true }
def CapRetypeSplitsUptoSaid : Prop := capRetypeSplitsUptoRow.holds Try.pinned (OpenSpec.upto capRetypeSplitsSpec)

/-- 'multikernellaw11.CapDevice', WHERE WHAT IT READS IS OF BULK AT MOST 1048576: true; the input reads as it did. -/
def capDeviceUptoRow : OpenClaim := { program := "ytpjakfbjiioflaa", sum := "e4cd425b43f9b81a3267911555abe6d185b57f01d1ce916269e5fbe89a53ef3d", func := "multikernel/multikernellaw11.CapDevice", spec := "capDevice", apart := false, narrowed := true }
def CapDeviceUptoSaid : Prop := capDeviceUptoRow.holds Try.pinned (OpenSpec.upto capDeviceSpec)

/-- 'multikernellaw11.CapAttenuate', WHERE WHAT IT READS IS OF BULK AT MOST 1048576: true; the input reads as it did. -/
def capAttenuateUptoRow : OpenClaim := { program := "ytpjakfbjiioflaa", sum := "e4cd425b43f9b81a3267911555abe6d185b57f01d1ce916269e5fbe89a53ef3d", func := "multikernel/multikernellaw11.CapAttenuate", spec := "capAttenuate", apart := false, narrowed := true }
def CapAttenuateUptoSaid : Prop := capAttenuateUptoRow.holds Try.pinned (OpenSpec.upto capAttenuateSpec)

/-- 'multikernellaw11.CapCoexist', WHERE WHAT IT READS IS OF BULK AT MOST 1048576: true; the input reads as it did. -/
def capCoexistUptoRow : OpenClaim := { program := "ytpjakfbjiioflaa", sum := "e4cd425b43f9b81a3267911555abe6d185b57f01d1ce916269e5fbe89a53ef3d", func := "multikernel/multikernellaw11.CapCoexist", spec := "capCoexist", apart := false, narrowed := true }
def CapCoexistUptoSaid : Prop := capCoexistUptoRow.holds Try.pinned (OpenSpec.upto capCoexistSpec)

end Rows
end Go.Proofs.Ytpjakfbjiioflaa
