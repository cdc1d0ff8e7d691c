/-
  NARROWER THAN 'FOR EVERY INPUT', by the rows' own cells (each row's printed sentence says how): ArchiveSets: laid · ArchiveTurns: laid · JudgeSweeps: laid · JudgeAlls: laid.
  DERIVED. THE GIVEN ROWS OF THIS SEAT. 4 by the template 'for every input the law returns true; each argument reads behind the call as it read before'; 0 by the template 'total and deterministic' (their statements: YtkajeepbelfpiaaGreatDoorTotals.lean).
  GIVEN WITH THE SEED: the statements are not yours to turn. If you find one false, say at which input.
  Laid BY PROGRAM, IN A SANDBOX (cutbox-rows.mjs): the forced cells as the released guide's own fill.sh prints them over the translation fe4c42466dfb429c… (all of the seat's roots in one cut). By AI agents, Wed Nov 11 2026. No macro, syntax, notation, axiom, sorry.
-/
import Derived.Test.YtkajeepbelfpiaaGreatDoorChecked
import GoSem.PinnedTables
import GoSem.Claim
import GoSem.ClaimJoined
import GoSem.ClaimMapViews
import Derived.JoinedTies
import Derived.KernelRfl
namespace Go.Proofs.YtkajeepbelfpiaaGreatDoor
/- THE CELL 'sum', in the pinned program and in every row, IS THE sha256 OF THE DUMP (.gsa) THAT YtkajeepbelfpiaaGreatDoorProg.lean LOADS. Nothing in Lean hashes anything: it is a label: what it is worth is what the hold of that sum in a sandbox is worth. -/
noncomputable def Tryz.pinned : Pinned := { name := "ytkajeepbelfpiaagreatdoor", sum := "fe4c42466dfb429cb1da4e0209b998b910b5f90b91d835af10cba5bf0ee99cbf", checked := Tryz.checked }
namespace Rows
def none {H : Type} : Left H := { results := [], args := [] }

/- WHAT THE LISTED PACKAGE-LEVEL VARIABLES READ AS WHEN THE CALL BEGINS. Each datum BY PROGRAM (the guide's laid-datum.mjs) off the statement by which the dump's own 'gosem.cut.vars' lays the variable. In a bare row this is a premise. The card (YtkajeepbelfpiaaGreatDoorCards.lean) ties it to the program's text. -/
def laid_darner_api_Words256 {H : Type} : DataW H := .agg [.lit (.int .u32 1116352408), .lit (.int .u32 1899447441), .lit (.int .u32 3049323471), .lit (.int .u32 3921009573), .lit (.int .u32 961987163), .lit (.int .u32 1508970993), .lit (.int .u32 2453635748), .lit (.int .u32 2870763221), .lit (.int .u32 3624381080), .lit (.int .u32 310598401), .lit (.int .u32 607225278), .lit (.int .u32 1426881987), .lit (.int .u32 1925078388), .lit (.int .u32 2162078206), .lit (.int .u32 2614888103), .lit (.int .u32 3248222580), .lit (.int .u32 3835390401), .lit (.int .u32 4022224774), .lit (.int .u32 264347078), .lit (.int .u32 604807628), .lit (.int .u32 770255983), .lit (.int .u32 1249150122), .lit (.int .u32 1555081692), .lit (.int .u32 1996064986), .lit (.int .u32 2554220882), .lit (.int .u32 2821834349), .lit (.int .u32 2952996808), .lit (.int .u32 3210313671), .lit (.int .u32 3336571891), .lit (.int .u32 3584528711), .lit (.int .u32 113926993), .lit (.int .u32 338241895), .lit (.int .u32 666307205), .lit (.int .u32 773529912), .lit (.int .u32 1294757372), .lit (.int .u32 1396182291), .lit (.int .u32 1695183700), .lit (.int .u32 1986661051), .lit (.int .u32 2177026350), .lit (.int .u32 2456956037), .lit (.int .u32 2730485921), .lit (.int .u32 2820302411), .lit (.int .u32 3259730800), .lit (.int .u32 3345764771), .lit (.int .u32 3516065817), .lit (.int .u32 3600352804), .lit (.int .u32 4094571909), .lit (.int .u32 275423344), .lit (.int .u32 430227734), .lit (.int .u32 506948616), .lit (.int .u32 659060556), .lit (.int .u32 883997877), .lit (.int .u32 958139571), .lit (.int .u32 1322822218), .lit (.int .u32 1537002063), .lit (.int .u32 1747873779), .lit (.int .u32 1955562222), .lit (.int .u32 2024104815), .lit (.int .u32 2227730452), .lit (.int .u32 2361852424), .lit (.int .u32 2428436474), .lit (.int .u32 2756734187), .lit (.int .u32 3204031479), .lit (.int .u32 3329325298)]
def laid_darner_api_First256 {H : Type} : DataW H := .agg [.lit (.int .u32 1779033703), .lit (.int .u32 3144134277), .lit (.int .u32 1013904242), .lit (.int .u32 2773480762), .lit (.int .u32 1359893119), .lit (.int .u32 2600822924), .lit (.int .u32 528734635), .lit (.int .u32 1541459225)]
def laid_unicode_utf8_acceptRanges {H : Type} : DataW H := .agg [.agg [.lit (.int .u8 128), .lit (.int .u8 191)], .agg [.lit (.int .u8 160), .lit (.int .u8 191)], .agg [.lit (.int .u8 128), .lit (.int .u8 159)], .agg [.lit (.int .u8 144), .lit (.int .u8 191)], .agg [.lit (.int .u8 128), .lit (.int .u8 143)], .agg [.lit (.int .u8 0), .lit (.int .u8 0)], .agg [.lit (.int .u8 0), .lit (.int .u8 0)], .agg [.lit (.int .u8 0), .lit (.int .u8 0)], .agg [.lit (.int .u8 0), .lit (.int .u8 0)], .agg [.lit (.int .u8 0), .lit (.int .u8 0)], .agg [.lit (.int .u8 0), .lit (.int .u8 0)], .agg [.lit (.int .u8 0), .lit (.int .u8 0)], .agg [.lit (.int .u8 0), .lit (.int .u8 0)], .agg [.lit (.int .u8 0), .lit (.int .u8 0)], .agg [.lit (.int .u8 0), .lit (.int .u8 0)], .agg [.lit (.int .u8 0), .lit (.int .u8 0)]]
def laid_darner_archive_copies {H : Type} : DataW H := .agg [.lit (.string [46, 112, 97, 114, 126, 97, 114, 99, 104, 105, 118, 101, 46, 48]), .lit (.string [46, 112, 97, 114, 126, 97, 114, 99, 104, 105, 118, 101, 46, 49])]
/-- One of Go's own tables, pinned by name: the form's constant. -/
def laid_unicode_utf8_first : DataW Unit := Go.Pinned.utf8First
def laid_darner_judge_names {H : Type} : DataW H := .agg [.lit (.string [110, 111, 110, 101]), .lit (.string [110, 101, 119]), .lit (.string [109, 105, 115, 115, 105, 110, 103]), .lit (.string [99, 108, 101, 97, 110]), .lit (.string [114, 111, 116]), .lit (.string [101, 100, 105, 116]), .lit (.string [116, 111, 117, 99, 104, 101, 100]), .lit (.string [103, 111, 110, 101]), .lit (.string [114, 101, 98, 111, 114, 110])]

/-- 'darnerlaw11.ArchiveSets': WHATEVER THE INPUT: true; the input reads as it did. -/
def archiveSetsSpec : ChangeSpec := { name := "archiveSets", fn := fun _ => fun
  | [d1, d2] => { results := [.lit (.bool true)], args := [d1, d2] }
  | _ => none }
def archiveSetsRow : OpenClaim := { program := "ytkajeepbelfpiaagreatdoor", sum := "fe4c42466dfb429cb1da4e0209b998b910b5f90b91d835af10cba5bf0ee99cbf", func := "darner/darnerlaw11.ArchiveSets", spec := "archiveSets", inPlace := ["maps.clone", "internal/bytealg.IndexByteString", "internal/bytealg.IndexString"], unfollowed := true, recurses := true, named := ["darner/archive.copies", "unicode/utf8.first", "unicode/utf8.acceptRanges", "internal/bytealg.MaxLen", "darner/api.First256", "darner/api.Words256"], apart := false, laid := [("darner/api.Words256", laid_darner_api_Words256), ("darner/api.First256", laid_darner_api_First256), ("unicode/utf8.acceptRanges", laid_unicode_utf8_acceptRanges), ("darner/archive.copies", laid_darner_archive_copies), ("unicode/utf8.first", laid_unicode_utf8_first)] }
def ArchiveSetsSaid : Prop := archiveSetsRow.holds Tryz.pinned (OpenSpec.ofChange archiveSetsSpec)

/-- ITS FALSE NEIGHBOUR: 'it returns false'. Refute it at one input. -/
def archiveSetsWrong : ChangeSpec := { name := "archiveSets", fn := fun _ => fun
  | [d1, d2] => { results := [.lit (.bool false)], args := [d1, d2] }
  | _ => none }
def ArchiveSetsWrongFalsely : Prop := archiveSetsRow.holds Tryz.pinned (OpenSpec.ofChange archiveSetsWrong)

/-- 'darnerlaw11.ArchiveTurns': WHATEVER THE INPUT: true; the input reads as it did. -/
def archiveTurnsSpec : ChangeSpec := { name := "archiveTurns", fn := fun _ => fun
  | [d1, d2] => { results := [.lit (.bool true)], args := [d1, d2] }
  | _ => none }
def archiveTurnsRow : OpenClaim := { program := "ytkajeepbelfpiaagreatdoor", sum := "fe4c42466dfb429cb1da4e0209b998b910b5f90b91d835af10cba5bf0ee99cbf", func := "darner/darnerlaw11.ArchiveTurns", spec := "archiveTurns", inPlace := ["maps.clone", "internal/bytealg.IndexByteString", "internal/bytealg.IndexString"], unfollowed := true, recurses := true, named := ["darner/archive.copies", "unicode/utf8.first", "unicode/utf8.acceptRanges", "internal/bytealg.MaxLen", "darner/api.First256", "darner/api.Words256"], apart := false, laid := [("darner/api.Words256", laid_darner_api_Words256), ("darner/api.First256", laid_darner_api_First256), ("unicode/utf8.acceptRanges", laid_unicode_utf8_acceptRanges), ("darner/archive.copies", laid_darner_archive_copies), ("unicode/utf8.first", laid_unicode_utf8_first)] }
def ArchiveTurnsSaid : Prop := archiveTurnsRow.holds Tryz.pinned (OpenSpec.ofChange archiveTurnsSpec)

/-- ITS FALSE NEIGHBOUR: 'it returns false'. Refute it at one input. -/
def archiveTurnsWrong : ChangeSpec := { name := "archiveTurns", fn := fun _ => fun
  | [d1, d2] => { results := [.lit (.bool false)], args := [d1, d2] }
  | _ => none }
def ArchiveTurnsWrongFalsely : Prop := archiveTurnsRow.holds Tryz.pinned (OpenSpec.ofChange archiveTurnsWrong)

/-- 'darnerlaw13.JudgeSweeps': WHATEVER THE INPUT: true; the input reads as it did. -/
def judgeSweepsSpec : ChangeSpec := { name := "judgeSweeps", fn := fun _ => fun
  | [d1, d2, d3] => { results := [.lit (.bool true)], args := [d1, d2, d3] }
  | _ => none }
def judgeSweepsRow : OpenClaim := { program := "ytkajeepbelfpiaagreatdoor", sum := "fe4c42466dfb429cb1da4e0209b998b910b5f90b91d835af10cba5bf0ee99cbf", func := "darner/darnerlaw13.JudgeSweeps", spec := "judgeSweeps", inPlace := ["math.Float64bits", "math.Float64frombits", "internal/bytealg.IndexByteString", "internal/bytealg.IndexString", "maps.clone"], unfollowed := true, recurses := true, named := ["darner/judge.names", "unicode/utf8.first", "unicode/utf8.acceptRanges", "internal/bytealg.MaxLen", "darner/api.First256", "darner/api.Words256"], apart := false, laid := [("darner/api.Words256", laid_darner_api_Words256), ("darner/api.First256", laid_darner_api_First256), ("unicode/utf8.acceptRanges", laid_unicode_utf8_acceptRanges), ("darner/judge.names", laid_darner_judge_names), ("unicode/utf8.first", laid_unicode_utf8_first)] }
def JudgeSweepsSaid : Prop := judgeSweepsRow.holds Tryz.pinned (OpenSpec.ofChange judgeSweepsSpec)

/-- ITS FALSE NEIGHBOUR: 'it returns false'. Refute it at one input. -/
def judgeSweepsWrong : ChangeSpec := { name := "judgeSweeps", fn := fun _ => fun
  | [d1, d2, d3] => { results := [.lit (.bool false)], args := [d1, d2, d3] }
  | _ => none }
def JudgeSweepsWrongFalsely : Prop := judgeSweepsRow.holds Tryz.pinned (OpenSpec.ofChange judgeSweepsWrong)

/-- 'darnerlaw13.JudgeAlls': WHATEVER THE INPUT: true; the input reads as it did. -/
def judgeAllsSpec : ChangeSpec := { name := "judgeAlls", fn := fun _ => fun
  | [d1, d2] => { results := [.lit (.bool true)], args := [d1, d2] }
  | _ => none }
def judgeAllsRow : OpenClaim := { program := "ytkajeepbelfpiaagreatdoor", sum := "fe4c42466dfb429cb1da4e0209b998b910b5f90b91d835af10cba5bf0ee99cbf", func := "darner/darnerlaw13.JudgeAlls", spec := "judgeAlls", inPlace := ["math.Float64bits", "math.Float64frombits", "internal/bytealg.IndexByteString", "internal/bytealg.IndexString", "maps.clone"], unfollowed := true, recurses := true, named := ["darner/judge.names", "unicode/utf8.first", "unicode/utf8.acceptRanges", "internal/bytealg.MaxLen", "darner/api.First256", "darner/api.Words256"], apart := false, laid := [("darner/api.Words256", laid_darner_api_Words256), ("darner/api.First256", laid_darner_api_First256), ("unicode/utf8.acceptRanges", laid_unicode_utf8_acceptRanges), ("darner/judge.names", laid_darner_judge_names), ("unicode/utf8.first", laid_unicode_utf8_first)] }
def JudgeAllsSaid : Prop := judgeAllsRow.holds Tryz.pinned (OpenSpec.ofChange judgeAllsSpec)

/-- ITS FALSE NEIGHBOUR: 'it returns false'. Refute it at one input. -/
def judgeAllsWrong : ChangeSpec := { name := "judgeAlls", fn := fun _ => fun
  | [d1, d2] => { results := [.lit (.bool false)], args := [d1, d2] }
  | _ => none }
def JudgeAllsWrongFalsely : Prop := judgeAllsRow.holds Tryz.pinned (OpenSpec.ofChange judgeAllsWrong)

/- THE SECOND FORM. 'bulk': how many values and letters a reading holds, each counted each time it is reached (what is shared counts as often as it is met; a slice's spare places count too). A statement '..UptoSaid' is the law's where the arguments, and the package variables that the reading takes, are together of bulk at most 1048576: NARROWER than '..Said'. Prove '..Said' where nothing that the law and all that it calls make is longer than what came in: it says more and counts as full. Else prove '..UptoSaid'. A law counts once. -/
mutual
def uptoBulk {H : Type} : DataW H → Nat
  | .lit (.string bytes) => bytes.length + 1
  | .lit _ => 1
  | .nil => 1
  | .ptr d => uptoBulk d + 1
  | .slice elems spare => uptoBulkAll elems + uptoBulkAll spare + 1
  | .agg parts => uptoBulkAll parts + 1
  | .iface _ d => uptoBulk d + 1
  | .map entries => uptoBulkEntries entries + 1
  | .held _ => 1
def uptoBulkAll {H : Type} : List (DataW H) → Nat
  | [] => 0
  | d :: r => uptoBulk d + uptoBulkAll r
def uptoBulkEntries {H : Type} : List (Lit × DataW H) → Nat
  | [] => 0
  | x :: r => uptoBulkEntry x + uptoBulkEntries r
def uptoBulkEntry {H : Type} : Lit × DataW H → Nat
  | (.string bytes, d) => bytes.length + uptoBulk d + 1
  | (_, d) => uptoBulk d + 1
 end
def uptoSmall : (H : Type) → List (DataW H) → Bool := fun _ ds => decide (uptoBulkAll ds ≤ 1048576)
def OpenSpec.upto (s : _root_.Go.ChangeSpec) : _root_.Go.OpenSpec := { _root_.Go.OpenSpec.ofChange s with cond := some uptoSmall }

/-- 'darnerlaw11.ArchiveSets', WHERE WHAT IT READS IS OF BULK AT MOST 1048576: true; the input reads as it did. -/
def archiveSetsUptoRow : OpenClaim := { program := "ytkajeepbelfpiaagreatdoor", sum := "fe4c42466dfb429cb1da4e0209b998b910b5f90b91d835af10cba5bf0ee99cbf", func := "darner/darnerlaw11.ArchiveSets", spec := "archiveSets", inPlace := ["maps.clone", "internal/bytealg.IndexByteString", "internal/bytealg.IndexString"], unfollowed := true, recurses := true, named := ["darner/archive.copies", "unicode/utf8.first", "unicode/utf8.acceptRanges", "internal/bytealg.MaxLen", "darner/api.First256", "darner/api.Words256"], apart := false, laid := [("darner/api.Words256", laid_darner_api_Words256), ("darner/api.First256", laid_darner_api_First256), ("unicode/utf8.acceptRanges", laid_unicode_utf8_acceptRanges), ("darner/archive.copies", laid_darner_archive_copies), ("unicode/utf8.first", laid_unicode_utf8_first)], narrowed := true }
def ArchiveSetsUptoSaid : Prop := archiveSetsUptoRow.holds Tryz.pinned (OpenSpec.upto archiveSetsSpec)

/-- 'darnerlaw11.ArchiveTurns', WHERE WHAT IT READS IS OF BULK AT MOST 1048576: true; the input reads as it did. -/
def archiveTurnsUptoRow : OpenClaim := { program := "ytkajeepbelfpiaagreatdoor", sum := "fe4c42466dfb429cb1da4e0209b998b910b5f90b91d835af10cba5bf0ee99cbf", func := "darner/darnerlaw11.ArchiveTurns", spec := "archiveTurns", inPlace := ["maps.clone", "internal/bytealg.IndexByteString", "internal/bytealg.IndexString"], unfollowed := true, recurses := true, named := ["darner/archive.copies", "unicode/utf8.first", "unicode/utf8.acceptRanges", "internal/bytealg.MaxLen", "darner/api.First256", "darner/api.Words256"], apart := false, laid := [("darner/api.Words256", laid_darner_api_Words256), ("darner/api.First256", laid_darner_api_First256), ("unicode/utf8.acceptRanges", laid_unicode_utf8_acceptRanges), ("darner/archive.copies", laid_darner_archive_copies), ("unicode/utf8.first", laid_unicode_utf8_first)], narrowed := true }
def ArchiveTurnsUptoSaid : Prop := archiveTurnsUptoRow.holds Tryz.pinned (OpenSpec.upto archiveTurnsSpec)

/-- 'darnerlaw13.JudgeSweeps', WHERE WHAT IT READS IS OF BULK AT MOST 1048576: true; the input reads as it did. -/
def judgeSweepsUptoRow : OpenClaim := { program := "ytkajeepbelfpiaagreatdoor", sum := "fe4c42466dfb429cb1da4e0209b998b910b5f90b91d835af10cba5bf0ee99cbf", func := "darner/darnerlaw13.JudgeSweeps", spec := "judgeSweeps", inPlace := ["math.Float64bits", "math.Float64frombits", "internal/bytealg.IndexByteString", "internal/bytealg.IndexString", "maps.clone"], unfollowed := true, recurses := true, named := ["darner/judge.names", "unicode/utf8.first", "unicode/utf8.acceptRanges", "internal/bytealg.MaxLen", "darner/api.First256", "darner/api.Words256"], apart := false, laid := [("darner/api.Words256", laid_darner_api_Words256), ("darner/api.First256", laid_darner_api_First256), ("unicode/utf8.acceptRanges", laid_unicode_utf8_acceptRanges), ("darner/judge.names", laid_darner_judge_names), ("unicode/utf8.first", laid_unicode_utf8_first)], narrowed := true }
def JudgeSweepsUptoSaid : Prop := judgeSweepsUptoRow.holds Tryz.pinned (OpenSpec.upto judgeSweepsSpec)

/-- 'darnerlaw13.JudgeAlls', WHERE WHAT IT READS IS OF BULK AT MOST 1048576: true; the input reads as it did. -/
def judgeAllsUptoRow : OpenClaim := { program := "ytkajeepbelfpiaagreatdoor", sum := "fe4c42466dfb429cb1da4e0209b998b910b5f90b91d835af10cba5bf0ee99cbf", func := "darner/darnerlaw13.JudgeAlls", spec := "judgeAlls", inPlace := ["math.Float64bits", "math.Float64frombits", "internal/bytealg.IndexByteString", "internal/bytealg.IndexString", "maps.clone"], unfollowed := true, recurses := true, named := ["darner/judge.names", "unicode/utf8.first", "unicode/utf8.acceptRanges", "internal/bytealg.MaxLen", "darner/api.First256", "darner/api.Words256"], apart := false, laid := [("darner/api.Words256", laid_darner_api_Words256), ("darner/api.First256", laid_darner_api_First256), ("unicode/utf8.acceptRanges", laid_unicode_utf8_acceptRanges), ("darner/judge.names", laid_darner_judge_names), ("unicode/utf8.first", laid_unicode_utf8_first)], narrowed := true }
def JudgeAllsUptoSaid : Prop := judgeAllsUptoRow.holds Tryz.pinned (OpenSpec.upto judgeAllsSpec)

end Rows
end Go.Proofs.YtkajeepbelfpiaaGreatDoor
