/-
  No cell of these rows narrows 'for every input' (looked for: loops, veiled, ifaces, maps, wideKeys, modest, calm, conditions, laid).
  DERIVED. THE GIVEN ROWS OF THIS SEAT. 3 by the template 'for every input the law returns true; each argument reads behind the call as it read before'; 0 by the template 'total and deterministic' (their statements: YtohdhmdanllbjaaTotals.lean).
  GIVEN WITH THE SEED: the statements are not yours to turn. If you find one false, say at which input.
  Laid BY PROGRAM, IN A SANDBOX (cutbox-rows.mjs): the forced cells as the released guide's own fill.sh prints them over the translation 8e88ac04461c44d6… (all of the seat's roots in one cut). By AI agents, Wed Nov 11 2026. No macro, syntax, notation, axiom, sorry.
-/
import Derived.Test.YtohdhmdanllbjaaChecked
import GoSem.Claim
import GoSem.ClaimJoined
import GoSem.ClaimMapViews
import Derived.JoinedTies
import Derived.KernelRfl
namespace Go.Proofs.Ytohdhmdanllbjaa
/- THE CELL 'sum', in the pinned program and in every row, IS THE sha256 OF THE DUMP (.gsa) THAT YtohdhmdanllbjaaProg.lean LOADS. Nothing in Lean hashes anything: it is a label: what it is worth is what the hold of that sum in a sandbox is worth. -/
noncomputable def Try.pinned : Pinned := { name := "ytohdhmdanllbjaa", sum := "8e88ac04461c44d6c9db1eb1f8b297f65b841943f33fb7fa90a0a04467d73773", checked := Try.checked }
namespace Rows
def none {H : Type} : Left H := { results := [], args := [] }

/-- 'pursuivantlaw05.HostGoods': WHATEVER THE INPUT: true; the input reads as it did. -/
def hostGoodsSpec : ChangeSpec := { name := "hostGoods", fn := fun _ => fun
  | [d1, d2] => { results := [.lit (.bool true)], args := [d1, d2] }
  | _ => none }
def hostGoodsRow : OpenClaim := { program := "ytohdhmdanllbjaa", sum := "8e88ac04461c44d6c9db1eb1f8b297f65b841943f33fb7fa90a0a04467d73773", func := "pursuivant/pursuivantlaw05.HostGoods", spec := "hostGoods", inPlace := ["internal/bytealg.IndexByteString", "internal/bytealg.IndexString"], unfollowed := true, recurses := true, named := ["internal/bytealg.MaxLen"], apart := false }
def HostGoodsSaid : Prop := hostGoodsRow.holds Try.pinned (OpenSpec.ofChange hostGoodsSpec)

/-- ITS FALSE NEIGHBOUR: 'it returns false'. Refute it at one input. -/
def hostGoodsWrong : ChangeSpec := { name := "hostGoods", fn := fun _ => fun
  | [d1, d2] => { results := [.lit (.bool false)], args := [d1, d2] }
  | _ => none }
def HostGoodsWrongFalsely : Prop := hostGoodsRow.holds Try.pinned (OpenSpec.ofChange hostGoodsWrong)

/-- 'pursuivantlaw05.HostPorts': WHATEVER THE INPUT: true; the input reads as it did. -/
def hostPortsSpec : ChangeSpec := { name := "hostPorts", fn := fun _ => fun
  | [d1, d2] => { results := [.lit (.bool true)], args := [d1, d2] }
  | _ => none }
def hostPortsRow : OpenClaim := { program := "ytohdhmdanllbjaa", sum := "8e88ac04461c44d6c9db1eb1f8b297f65b841943f33fb7fa90a0a04467d73773", func := "pursuivant/pursuivantlaw05.HostPorts", spec := "hostPorts", inPlace := ["internal/bytealg.IndexByteString", "internal/bytealg.IndexString"], unfollowed := true, recurses := true, named := ["internal/bytealg.MaxLen"], apart := false }
def HostPortsSaid : Prop := hostPortsRow.holds Try.pinned (OpenSpec.ofChange hostPortsSpec)

/-- ITS FALSE NEIGHBOUR: 'it returns false'. Refute it at one input. -/
def hostPortsWrong : ChangeSpec := { name := "hostPorts", fn := fun _ => fun
  | [d1, d2] => { results := [.lit (.bool false)], args := [d1, d2] }
  | _ => none }
def HostPortsWrongFalsely : Prop := hostPortsRow.holds Try.pinned (OpenSpec.ofChange hostPortsWrong)

/-- 'pursuivantlaw05.HostJoins': WHATEVER THE INPUT: true; the input reads as it did. -/
def hostJoinsSpec : ChangeSpec := { name := "hostJoins", fn := fun _ => fun
  | [d1, d2, d3] => { results := [.lit (.bool true)], args := [d1, d2, d3] }
  | _ => none }
def hostJoinsRow : OpenClaim := { program := "ytohdhmdanllbjaa", sum := "8e88ac04461c44d6c9db1eb1f8b297f65b841943f33fb7fa90a0a04467d73773", func := "pursuivant/pursuivantlaw05.HostJoins", spec := "hostJoins", inPlace := ["internal/bytealg.IndexByteString", "internal/bytealg.IndexString"], unfollowed := true, recurses := true, named := ["internal/bytealg.MaxLen"], apart := false }
def HostJoinsSaid : Prop := hostJoinsRow.holds Try.pinned (OpenSpec.ofChange hostJoinsSpec)

/-- ITS FALSE NEIGHBOUR: 'it returns false'. Refute it at one input. -/
def hostJoinsWrong : ChangeSpec := { name := "hostJoins", fn := fun _ => fun
  | [d1, d2, d3] => { results := [.lit (.bool false)], args := [d1, d2, d3] }
  | _ => none }
def HostJoinsWrongFalsely : Prop := hostJoinsRow.holds Try.pinned (OpenSpec.ofChange hostJoinsWrong)

/- THE SECOND FORM. 'bulk': how many values and letters a reading holds, each counted each time it is reached (what is shared counts as often as it is met; a slice's spare places count too). A statement '..UptoSaid' is the law's where the arguments, and the package variables that the reading takes, are together of bulk at most 1048576: NARROWER than '..Said'. Prove '..Said' where nothing that the law and all that it calls make is longer than what came in: it says more and counts as full. Else prove '..UptoSaid'. A law counts once. -/
mutual
def uptoBulk {H : Type} : DataW H → Nat
  | .lit (.string bytes) => bytes.length + 1
  | .lit _ => 1
  | .nil => 1
  | .ptr d => uptoBulk d + 1
  | .slice elems spare => uptoBulkAll elems + uptoBulkAll spare + 1
  | .agg parts => uptoBulkAll parts + 1
  | .iface _ d => uptoBulk d + 1
  | .map entries => uptoBulkEntries entries + 1
  | .held _ => 1
def uptoBulkAll {H : Type} : List (DataW H) → Nat
  | [] => 0
  | d :: r => uptoBulk d + uptoBulkAll r
def uptoBulkEntries {H : Type} : List (Lit × DataW H) → Nat
  | [] => 0
  | x :: r => uptoBulkEntry x + uptoBulkEntries r
def uptoBulkEntry {H : Type} : Lit × DataW H → Nat
  | (.string bytes, d) => bytes.length + uptoBulk d + 1
  | (_, d) => uptoBulk d + 1
 end
def uptoSmall : (H : Type) → List (DataW H) → Bool := fun _ ds => decide (uptoBulkAll ds ≤ 1048576)
def OpenSpec.upto (s : _root_.Go.ChangeSpec) : _root_.Go.OpenSpec := { _root_.Go.OpenSpec.ofChange s with cond := some uptoSmall }

/-- 'pursuivantlaw05.HostGoods', WHERE WHAT IT READS IS OF BULK AT MOST 1048576: true; the input reads as it did. -/
def hostGoodsUptoRow : OpenClaim := { program := "ytohdhmdanllbjaa", sum := "8e88ac04461c44d6c9db1eb1f8b297f65b841943f33fb7fa90a0a04467d73773", func := "pursuivant/pursuivantlaw05.HostGoods", spec := "hostGoods", inPlace := ["internal/bytealg.IndexByteString", "internal/bytealg.IndexString"], unfollowed := true, recurses := true, named := ["internal/bytealg.MaxLen"], apart := false, narrowed := true }
def HostGoodsUptoSaid : Prop := hostGoodsUptoRow.holds Try.pinned (OpenSpec.upto hostGoodsSpec)

/-- 'pursuivantlaw05.HostPorts', WHERE WHAT IT READS IS OF BULK AT MOST 1048576: true; the input reads as it did. -/
def hostPortsUptoRow : OpenClaim := { program := "ytohdhmdanllbjaa", sum := "8e88ac04461c44d6c9db1eb1f8b297f65b841943f33fb7fa90a0a04467d73773", func := "pursuivant/pursuivantlaw05.HostPorts", spec := "hostPorts", inPlace := ["internal/bytealg.IndexByteString", "internal/bytealg.IndexString"], unfollowed := true, recurses := true, named := ["internal/bytealg.MaxLen"], apart := false, narrowed := true }
def HostPortsUptoSaid : Prop := hostPortsUptoRow.holds Try.pinned (OpenSpec.upto hostPortsSpec)

/-- 'pursuivantlaw05.HostJoins', WHERE WHAT IT READS IS OF BULK AT MOST 1048576: true; the input reads as it did. -/
def hostJoinsUptoRow : OpenClaim := { program := "ytohdhmdanllbjaa", sum := "8e88ac04461c44d6c9db1eb1f8b297f65b841943f33fb7fa90a0a04467d73773", func := "pursuivant/pursuivantlaw05.HostJoins", spec := "hostJoins", inPlace := ["internal/bytealg.IndexByteString", "internal/bytealg.IndexString"], unfollowed := true, recurses := true, named := ["internal/bytealg.MaxLen"], apart := false, narrowed := true }
def HostJoinsUptoSaid : Prop := hostJoinsUptoRow.holds Try.pinned (OpenSpec.upto hostJoinsSpec)

end Rows
end Go.Proofs.Ytohdhmdanllbjaa
