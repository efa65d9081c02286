/-
  NARROWER THAN 'FOR EVERY INPUT', by the rows' own cells (each row's printed sentence says how): AlertIs: laid · AlertCuts: laid · AlertApart: laid · AlertSees: laid · AlertMerges: laid · AlertIds: laid · AlertTimes: laid · AlertNone: laid.
  DERIVED. THE GIVEN ROWS OF THIS SEAT. 8 by the template 'for every input the law returns true; each argument reads behind the call as it read before'; 0 by the template 'total and deterministic' (their statements: YtknhkmlihbgjpaaDoorTotals.lean).
  GIVEN WITH THE SEED: the statements are not yours to turn. If you find one false, say at which input.
  Laid BY PROGRAM, IN A SANDBOX (cutbox-rows.mjs): the forced cells as the released guide's own fill.sh prints them over the translation 0548428f08e41323… (all of the seat's roots in one cut). By AI agents, Wed Nov 11 2026. No macro, syntax, notation, axiom, sorry.
-/
import Derived.Test.YtknhkmlihbgjpaaDoorChecked
import GoSem.Claim
import GoSem.ClaimJoined
import GoSem.ClaimMapViews
import Derived.JoinedTies
import Derived.KernelRfl
namespace Go.Proofs.YtknhkmlihbgjpaaDoor
/- THE CELL 'sum', in the pinned program and in every row, IS THE sha256 OF THE DUMP (.gsa) THAT YtknhkmlihbgjpaaDoorProg.lean LOADS. Nothing in Lean hashes anything: it is a label: what it is worth is what the hold of that sum in a sandbox is worth. -/
noncomputable def Tryd.pinned : Pinned := { name := "ytknhkmlihbgjpaadoor", sum := "0548428f08e4132300df295a092870c87b16d61e13cb48d6a8c4a81671923a08", checked := Tryd.checked }
namespace Rows
def none {H : Type} : Left H := { results := [], args := [] }

/- WHAT THE LISTED PACKAGE-LEVEL VARIABLES READ AS WHEN THE CALL BEGINS. Each datum BY PROGRAM (the guide's laid-datum.mjs) off the statement by which the dump's own 'gosem.cut.vars' lays the variable. In a bare row this is a premise. The card (YtknhkmlihbgjpaaDoorCards.lean) ties it to the program's text. -/
def laid_lychgate_digest_startWords {H : Type} : DataW H := .agg [.lit (.int .u32 1779033703), .lit (.int .u32 3144134277), .lit (.int .u32 1013904242), .lit (.int .u32 2773480762), .lit (.int .u32 1359893119), .lit (.int .u32 2600822924), .lit (.int .u32 528734635), .lit (.int .u32 1541459225)]
def laid_lychgate_digest_roundWords {H : Type} : DataW H := .agg [.lit (.int .u32 1116352408), .lit (.int .u32 1899447441), .lit (.int .u32 3049323471), .lit (.int .u32 3921009573), .lit (.int .u32 961987163), .lit (.int .u32 1508970993), .lit (.int .u32 2453635748), .lit (.int .u32 2870763221), .lit (.int .u32 3624381080), .lit (.int .u32 310598401), .lit (.int .u32 607225278), .lit (.int .u32 1426881987), .lit (.int .u32 1925078388), .lit (.int .u32 2162078206), .lit (.int .u32 2614888103), .lit (.int .u32 3248222580), .lit (.int .u32 3835390401), .lit (.int .u32 4022224774), .lit (.int .u32 264347078), .lit (.int .u32 604807628), .lit (.int .u32 770255983), .lit (.int .u32 1249150122), .lit (.int .u32 1555081692), .lit (.int .u32 1996064986), .lit (.int .u32 2554220882), .lit (.int .u32 2821834349), .lit (.int .u32 2952996808), .lit (.int .u32 3210313671), .lit (.int .u32 3336571891), .lit (.int .u32 3584528711), .lit (.int .u32 113926993), .lit (.int .u32 338241895), .lit (.int .u32 666307205), .lit (.int .u32 773529912), .lit (.int .u32 1294757372), .lit (.int .u32 1396182291), .lit (.int .u32 1695183700), .lit (.int .u32 1986661051), .lit (.int .u32 2177026350), .lit (.int .u32 2456956037), .lit (.int .u32 2730485921), .lit (.int .u32 2820302411), .lit (.int .u32 3259730800), .lit (.int .u32 3345764771), .lit (.int .u32 3516065817), .lit (.int .u32 3600352804), .lit (.int .u32 4094571909), .lit (.int .u32 275423344), .lit (.int .u32 430227734), .lit (.int .u32 506948616), .lit (.int .u32 659060556), .lit (.int .u32 883997877), .lit (.int .u32 958139571), .lit (.int .u32 1322822218), .lit (.int .u32 1537002063), .lit (.int .u32 1747873779), .lit (.int .u32 1955562222), .lit (.int .u32 2024104815), .lit (.int .u32 2227730452), .lit (.int .u32 2361852424), .lit (.int .u32 2428436474), .lit (.int .u32 2756734187), .lit (.int .u32 3204031479), .lit (.int .u32 3329325298)]

/-- 'lychgatelaw09.AlertIs': WHATEVER THE INPUT: true; the input reads as it did. -/
def alertIsSpec : ChangeSpec := { name := "alertIs", fn := fun _ => fun
  | [d1, d2, d3] => { results := [.lit (.bool true)], args := [d1, d2, d3] }
  | _ => none }
def alertIsRow : OpenClaim := { program := "ytknhkmlihbgjpaadoor", sum := "0548428f08e4132300df295a092870c87b16d61e13cb48d6a8c4a81671923a08", func := "lychgate/lychgatelaw09.AlertIs", spec := "alertIs", unfollowed := true, recurses := true, named := ["lychgate/digest.startWords", "lychgate/digest.roundWords"], plainKeys := false, apart := false, laid := [("lychgate/digest.startWords", laid_lychgate_digest_startWords), ("lychgate/digest.roundWords", laid_lychgate_digest_roundWords)] }
def AlertIsSaid : Prop := alertIsRow.holds Tryd.pinned (OpenSpec.ofChange alertIsSpec)

/-- ITS FALSE NEIGHBOUR: 'it returns false'. Refute it at one input. -/
def alertIsWrong : ChangeSpec := { name := "alertIs", fn := fun _ => fun
  | [d1, d2, d3] => { results := [.lit (.bool false)], args := [d1, d2, d3] }
  | _ => none }
def AlertIsWrongFalsely : Prop := alertIsRow.holds Tryd.pinned (OpenSpec.ofChange alertIsWrong)

/-- 'lychgatelaw09.AlertCuts': WHATEVER THE INPUT: true; the input reads as it did. -/
def alertCutsSpec : ChangeSpec := { name := "alertCuts", fn := fun _ => fun
  | [d1, d2, d3] => { results := [.lit (.bool true)], args := [d1, d2, d3] }
  | _ => none }
def alertCutsRow : OpenClaim := { program := "ytknhkmlihbgjpaadoor", sum := "0548428f08e4132300df295a092870c87b16d61e13cb48d6a8c4a81671923a08", func := "lychgate/lychgatelaw09.AlertCuts", spec := "alertCuts", unfollowed := true, recurses := true, named := ["lychgate/digest.startWords", "lychgate/digest.roundWords"], plainKeys := false, apart := false, laid := [("lychgate/digest.startWords", laid_lychgate_digest_startWords), ("lychgate/digest.roundWords", laid_lychgate_digest_roundWords)] }
def AlertCutsSaid : Prop := alertCutsRow.holds Tryd.pinned (OpenSpec.ofChange alertCutsSpec)

/-- ITS FALSE NEIGHBOUR: 'it returns false'. Refute it at one input. -/
def alertCutsWrong : ChangeSpec := { name := "alertCuts", fn := fun _ => fun
  | [d1, d2, d3] => { results := [.lit (.bool false)], args := [d1, d2, d3] }
  | _ => none }
def AlertCutsWrongFalsely : Prop := alertCutsRow.holds Tryd.pinned (OpenSpec.ofChange alertCutsWrong)

/-- 'lychgatelaw09.AlertApart': WHATEVER THE INPUT: true; the input reads as it did. -/
def alertApartSpec : ChangeSpec := { name := "alertApart", fn := fun _ => fun
  | [d1, d2] => { results := [.lit (.bool true)], args := [d1, d2] }
  | _ => none }
def alertApartRow : OpenClaim := { program := "ytknhkmlihbgjpaadoor", sum := "0548428f08e4132300df295a092870c87b16d61e13cb48d6a8c4a81671923a08", func := "lychgate/lychgatelaw09.AlertApart", spec := "alertApart", unfollowed := true, recurses := true, named := ["lychgate/digest.startWords", "lychgate/digest.roundWords"], plainKeys := false, apart := false, laid := [("lychgate/digest.startWords", laid_lychgate_digest_startWords), ("lychgate/digest.roundWords", laid_lychgate_digest_roundWords)] }
def AlertApartSaid : Prop := alertApartRow.holds Tryd.pinned (OpenSpec.ofChange alertApartSpec)

/-- ITS FALSE NEIGHBOUR: 'it returns false'. Refute it at one input. -/
def alertApartWrong : ChangeSpec := { name := "alertApart", fn := fun _ => fun
  | [d1, d2] => { results := [.lit (.bool false)], args := [d1, d2] }
  | _ => none }
def AlertApartWrongFalsely : Prop := alertApartRow.holds Tryd.pinned (OpenSpec.ofChange alertApartWrong)

/-- 'lychgatelaw09.AlertSees': WHATEVER THE INPUT: true; the input reads as it did. -/
def alertSeesSpec : ChangeSpec := { name := "alertSees", fn := fun _ => fun
  | [d1, d2, d3] => { results := [.lit (.bool true)], args := [d1, d2, d3] }
  | _ => none }
def alertSeesRow : OpenClaim := { program := "ytknhkmlihbgjpaadoor", sum := "0548428f08e4132300df295a092870c87b16d61e13cb48d6a8c4a81671923a08", func := "lychgate/lychgatelaw09.AlertSees", spec := "alertSees", unfollowed := true, recurses := true, named := ["lychgate/digest.startWords", "lychgate/digest.roundWords"], plainKeys := false, apart := false, laid := [("lychgate/digest.startWords", laid_lychgate_digest_startWords), ("lychgate/digest.roundWords", laid_lychgate_digest_roundWords)] }
def AlertSeesSaid : Prop := alertSeesRow.holds Tryd.pinned (OpenSpec.ofChange alertSeesSpec)

/-- ITS FALSE NEIGHBOUR: 'it returns false'. Refute it at one input. -/
def alertSeesWrong : ChangeSpec := { name := "alertSees", fn := fun _ => fun
  | [d1, d2, d3] => { results := [.lit (.bool false)], args := [d1, d2, d3] }
  | _ => none }
def AlertSeesWrongFalsely : Prop := alertSeesRow.holds Tryd.pinned (OpenSpec.ofChange alertSeesWrong)

/-- 'lychgatelaw09.AlertMerges': WHATEVER THE INPUT: true; the input reads as it did. -/
def alertMergesSpec : ChangeSpec := { name := "alertMerges", fn := fun _ => fun
  | [d1, d2, d3] => { results := [.lit (.bool true)], args := [d1, d2, d3] }
  | _ => none }
def alertMergesRow : OpenClaim := { program := "ytknhkmlihbgjpaadoor", sum := "0548428f08e4132300df295a092870c87b16d61e13cb48d6a8c4a81671923a08", func := "lychgate/lychgatelaw09.AlertMerges", spec := "alertMerges", unfollowed := true, recurses := true, named := ["lychgate/digest.startWords", "lychgate/digest.roundWords"], plainKeys := false, apart := false, laid := [("lychgate/digest.startWords", laid_lychgate_digest_startWords), ("lychgate/digest.roundWords", laid_lychgate_digest_roundWords)] }
def AlertMergesSaid : Prop := alertMergesRow.holds Tryd.pinned (OpenSpec.ofChange alertMergesSpec)

/-- ITS FALSE NEIGHBOUR: 'it returns false'. Refute it at one input. -/
def alertMergesWrong : ChangeSpec := { name := "alertMerges", fn := fun _ => fun
  | [d1, d2, d3] => { results := [.lit (.bool false)], args := [d1, d2, d3] }
  | _ => none }
def AlertMergesWrongFalsely : Prop := alertMergesRow.holds Tryd.pinned (OpenSpec.ofChange alertMergesWrong)

/-- 'lychgatelaw09.AlertIds': WHATEVER THE INPUT: true; the input reads as it did. -/
def alertIdsSpec : ChangeSpec := { name := "alertIds", fn := fun _ => fun
  | [d1, d2, d3] => { results := [.lit (.bool true)], args := [d1, d2, d3] }
  | _ => none }
def alertIdsRow : OpenClaim := { program := "ytknhkmlihbgjpaadoor", sum := "0548428f08e4132300df295a092870c87b16d61e13cb48d6a8c4a81671923a08", func := "lychgate/lychgatelaw09.AlertIds", spec := "alertIds", unfollowed := true, recurses := true, named := ["lychgate/digest.startWords", "lychgate/digest.roundWords"], plainKeys := false, apart := false, laid := [("lychgate/digest.startWords", laid_lychgate_digest_startWords), ("lychgate/digest.roundWords", laid_lychgate_digest_roundWords)] }
def AlertIdsSaid : Prop := alertIdsRow.holds Tryd.pinned (OpenSpec.ofChange alertIdsSpec)

/-- ITS FALSE NEIGHBOUR: 'it returns false'. Refute it at one input. -/
def alertIdsWrong : ChangeSpec := { name := "alertIds", fn := fun _ => fun
  | [d1, d2, d3] => { results := [.lit (.bool false)], args := [d1, d2, d3] }
  | _ => none }
def AlertIdsWrongFalsely : Prop := alertIdsRow.holds Tryd.pinned (OpenSpec.ofChange alertIdsWrong)

/-- 'lychgatelaw09.AlertTimes': WHATEVER THE INPUT: true; the input reads as it did. -/
def alertTimesSpec : ChangeSpec := { name := "alertTimes", fn := fun _ => fun
  | [d1, d2] => { results := [.lit (.bool true)], args := [d1, d2] }
  | _ => none }
def alertTimesRow : OpenClaim := { program := "ytknhkmlihbgjpaadoor", sum := "0548428f08e4132300df295a092870c87b16d61e13cb48d6a8c4a81671923a08", func := "lychgate/lychgatelaw09.AlertTimes", spec := "alertTimes", unfollowed := true, recurses := true, named := ["lychgate/digest.startWords", "lychgate/digest.roundWords"], plainKeys := false, apart := false, laid := [("lychgate/digest.startWords", laid_lychgate_digest_startWords), ("lychgate/digest.roundWords", laid_lychgate_digest_roundWords)] }
def AlertTimesSaid : Prop := alertTimesRow.holds Tryd.pinned (OpenSpec.ofChange alertTimesSpec)

/-- ITS FALSE NEIGHBOUR: 'it returns false'. Refute it at one input. -/
def alertTimesWrong : ChangeSpec := { name := "alertTimes", fn := fun _ => fun
  | [d1, d2] => { results := [.lit (.bool false)], args := [d1, d2] }
  | _ => none }
def AlertTimesWrongFalsely : Prop := alertTimesRow.holds Tryd.pinned (OpenSpec.ofChange alertTimesWrong)

/-- 'lychgatelaw09.AlertNone': WHATEVER THE INPUT: true; the input reads as it did. -/
def alertNoneSpec : ChangeSpec := { name := "alertNone", fn := fun _ => fun
  | [d1, d2] => { results := [.lit (.bool true)], args := [d1, d2] }
  | _ => none }
def alertNoneRow : OpenClaim := { program := "ytknhkmlihbgjpaadoor", sum := "0548428f08e4132300df295a092870c87b16d61e13cb48d6a8c4a81671923a08", func := "lychgate/lychgatelaw09.AlertNone", spec := "alertNone", unfollowed := true, recurses := true, named := ["lychgate/digest.startWords", "lychgate/digest.roundWords"], plainKeys := false, apart := false, laid := [("lychgate/digest.startWords", laid_lychgate_digest_startWords), ("lychgate/digest.roundWords", laid_lychgate_digest_roundWords)] }
def AlertNoneSaid : Prop := alertNoneRow.holds Tryd.pinned (OpenSpec.ofChange alertNoneSpec)

/-- ITS FALSE NEIGHBOUR: 'it returns false'. Refute it at one input. -/
def alertNoneWrong : ChangeSpec := { name := "alertNone", fn := fun _ => fun
  | [d1, d2] => { results := [.lit (.bool false)], args := [d1, d2] }
  | _ => none }
def AlertNoneWrongFalsely : Prop := alertNoneRow.holds Tryd.pinned (OpenSpec.ofChange alertNoneWrong)

/- THE SECOND FORM. 'bulk': how many values and letters a reading holds, each counted each time it is reached (what is shared counts as often as it is met; a slice's spare places count too). A statement '..UptoSaid' is the law's where the arguments, and the package variables that the reading takes, are together of bulk at most 1048576: NARROWER than '..Said'. Prove '..Said' where nothing that the law and all that it calls make is longer than what came in: it says more and counts as full. Else prove '..UptoSaid'. A law counts once. -/
mutual
def uptoBulk {H : Type} : DataW H → Nat
  | .lit (.string bytes) => bytes.length + 1
  | .lit _ => 1
  | .nil => 1
  | .ptr d => uptoBulk d + 1
  | .slice elems spare => uptoBulkAll elems + uptoBulkAll spare + 1
  | .agg parts => uptoBulkAll parts + 1
  | .iface _ d => uptoBulk d + 1
  | .map entries => uptoBulkEntries entries + 1
  | .held _ => 1
def uptoBulkAll {H : Type} : List (DataW H) → Nat
  | [] => 0
  | d :: r => uptoBulk d + uptoBulkAll r
def uptoBulkEntries {H : Type} : List (Lit × DataW H) → Nat
  | [] => 0
  | x :: r => uptoBulkEntry x + uptoBulkEntries r
def uptoBulkEntry {H : Type} : Lit × DataW H → Nat
  | (.string bytes, d) => bytes.length + uptoBulk d + 1
  | (_, d) => uptoBulk d + 1
 end
def uptoSmall : (H : Type) → List (DataW H) → Bool := fun _ ds => decide (uptoBulkAll ds ≤ 1048576)
def OpenSpec.upto (s : _root_.Go.ChangeSpec) : _root_.Go.OpenSpec := { _root_.Go.OpenSpec.ofChange s with cond := some uptoSmall }

/-- 'lychgatelaw09.AlertIs', WHERE WHAT IT READS IS OF BULK AT MOST 1048576: true; the input reads as it did. -/
def alertIsUptoRow : OpenClaim := { program := "ytknhkmlihbgjpaadoor", sum := "0548428f08e4132300df295a092870c87b16d61e13cb48d6a8c4a81671923a08", func := "lychgate/lychgatelaw09.AlertIs", spec := "alertIs", unfollowed := true, recurses := true, named := ["lychgate/digest.startWords", "lychgate/digest.roundWords"], plainKeys := false, apart := false, laid := [("lychgate/digest.startWords", laid_lychgate_digest_startWords), ("lychgate/digest.roundWords", laid_lychgate_digest_roundWords)], narrowed := true }
def AlertIsUptoSaid : Prop := alertIsUptoRow.holds Tryd.pinned (OpenSpec.upto alertIsSpec)

/-- 'lychgatelaw09.AlertCuts', WHERE WHAT IT READS IS OF BULK AT MOST 1048576: true; the input reads as it did. -/
def alertCutsUptoRow : OpenClaim := { program := "ytknhkmlihbgjpaadoor", sum := "0548428f08e4132300df295a092870c87b16d61e13cb48d6a8c4a81671923a08", func := "lychgate/lychgatelaw09.AlertCuts", spec := "alertCuts", unfollowed := true, recurses := true, named := ["lychgate/digest.startWords", "lychgate/digest.roundWords"], plainKeys := false, apart := false, laid := [("lychgate/digest.startWords", laid_lychgate_digest_startWords), ("lychgate/digest.roundWords", laid_lychgate_digest_roundWords)], narrowed := true }
def AlertCutsUptoSaid : Prop := alertCutsUptoRow.holds Tryd.pinned (OpenSpec.upto alertCutsSpec)

/-- 'lychgatelaw09.AlertApart', WHERE WHAT IT READS IS OF BULK AT MOST 1048576: true; the input reads as it did. -/
def alertApartUptoRow : OpenClaim := { program := "ytknhkmlihbgjpaadoor", sum := "0548428f08e4132300df295a092870c87b16d61e13cb48d6a8c4a81671923a08", func := "lychgate/lychgatelaw09.AlertApart", spec := "alertApart", unfollowed := true, recurses := true, named := ["lychgate/digest.startWords", "lychgate/digest.roundWords"], plainKeys := false, apart := false, laid := [("lychgate/digest.startWords", laid_lychgate_digest_startWords), ("lychgate/digest.roundWords", laid_lychgate_digest_roundWords)], narrowed := true }
def AlertApartUptoSaid : Prop := alertApartUptoRow.holds Tryd.pinned (OpenSpec.upto alertApartSpec)

/-- 'lychgatelaw09.AlertSees', WHERE WHAT IT READS IS OF BULK AT MOST 1048576: true; the input reads as it did. -/
def alertSeesUptoRow : OpenClaim := { program := "ytknhkmlihbgjpaadoor", sum := "0548428f08e4132300df295a092870c87b16d61e13cb48d6a8c4a81671923a08", func := "lychgate/lychgatelaw09.AlertSees", spec := "alertSees", unfollowed := true, recurses := true, named := ["lychgate/digest.startWords", "lychgate/digest.roundWords"], plainKeys := false, apart := false, laid := [("lychgate/digest.startWords", laid_lychgate_digest_startWords), ("lychgate/digest.roundWords", laid_lychgate_digest_roundWords)], narrowed := true }
def AlertSeesUptoSaid : Prop := alertSeesUptoRow.holds Tryd.pinned (OpenSpec.upto alertSeesSpec)

/-- 'lychgatelaw09.AlertMerges', WHERE WHAT IT READS IS OF BULK AT MOST 1048576: true; the input reads as it did. -/
def alertMergesUptoRow : OpenClaim := { program := "ytknhkmlihbgjpaadoor", sum := "0548428f08e4132300df295a092870c87b16d61e13cb48d6a8c4a81671923a08", func := "lychgate/lychgatelaw09.AlertMerges", spec := "alertMerges", unfollowed := true, recurses := true, named := ["lychgate/digest.startWords", "lychgate/digest.roundWords"], plainKeys := false, apart := false, laid := [("lychgate/digest.startWords", laid_lychgate_digest_startWords), ("lychgate/digest.roundWords", laid_lychgate_digest_roundWords)], narrowed := true }
def AlertMergesUptoSaid : Prop := alertMergesUptoRow.holds Tryd.pinned (OpenSpec.upto alertMergesSpec)

/-- 'lychgatelaw09.AlertIds', WHERE WHAT IT READS IS OF BULK AT MOST 1048576: true; the input reads as it did. -/
def alertIdsUptoRow : OpenClaim := { program := "ytknhkmlihbgjpaadoor", sum := "0548428f08e4132300df295a092870c87b16d61e13cb48d6a8c4a81671923a08", func := "lychgate/lychgatelaw09.AlertIds", spec := "alertIds", unfollowed := true, recurses := true, named := ["lychgate/digest.startWords", "lychgate/digest.roundWords"], plainKeys := false, apart := false, laid := [("lychgate/digest.startWords", laid_lychgate_digest_startWords), ("lychgate/digest.roundWords", laid_lychgate_digest_roundWords)], narrowed := true }
def AlertIdsUptoSaid : Prop := alertIdsUptoRow.holds Tryd.pinned (OpenSpec.upto alertIdsSpec)

/-- 'lychgatelaw09.AlertTimes', WHERE WHAT IT READS IS OF BULK AT MOST 1048576: true; the input reads as it did. -/
def alertTimesUptoRow : OpenClaim := { program := "ytknhkmlihbgjpaadoor", sum := "0548428f08e4132300df295a092870c87b16d61e13cb48d6a8c4a81671923a08", func := "lychgate/lychgatelaw09.AlertTimes", spec := "alertTimes", unfollowed := true, recurses := true, named := ["lychgate/digest.startWords", "lychgate/digest.roundWords"], plainKeys := false, apart := false, laid := [("lychgate/digest.startWords", laid_lychgate_digest_startWords), ("lychgate/digest.roundWords", laid_lychgate_digest_roundWords)], narrowed := true }
def AlertTimesUptoSaid : Prop := alertTimesUptoRow.holds Tryd.pinned (OpenSpec.upto alertTimesSpec)

/-- 'lychgatelaw09.AlertNone', WHERE WHAT IT READS IS OF BULK AT MOST 1048576: true; the input reads as it did. -/
def alertNoneUptoRow : OpenClaim := { program := "ytknhkmlihbgjpaadoor", sum := "0548428f08e4132300df295a092870c87b16d61e13cb48d6a8c4a81671923a08", func := "lychgate/lychgatelaw09.AlertNone", spec := "alertNone", unfollowed := true, recurses := true, named := ["lychgate/digest.startWords", "lychgate/digest.roundWords"], plainKeys := false, apart := false, laid := [("lychgate/digest.startWords", laid_lychgate_digest_startWords), ("lychgate/digest.roundWords", laid_lychgate_digest_roundWords)], narrowed := true }
def AlertNoneUptoSaid : Prop := alertNoneUptoRow.holds Tryd.pinned (OpenSpec.upto alertNoneSpec)

end Rows
end Go.Proofs.YtknhkmlihbgjpaaDoor
