import PyProof.Rows.All
import Wide.All
import OpenK.AllK
import Wide.FinOn
import KE.KStateDown
import HandS.ForMost
import HandS.ForExc
import HandS.Defaults
import HandS.Head0
import HandS.Head1
import HandS.Head2
import HandS.HeadEnd
import HandS.HeadHook1
import HandS.HeadHook2
import HandS.HeadHook3
import HandS.HeadHook4
import HandS.ExcField
import HandS.ExcInit
import KE.KSuper
import KE.KExcPX
import HandS.Codes
import HandS.TupAny
import HandS.IsInst
import HandS.Flow
import HandS.Strs
import KE.KDictDisplayH
import HandS.DeepEq
import HandS.ListEq
import KE.DataEq
import HandS.Iter
import HandS.DictTup
import KE.KDictCopyH
import PyProof.DictUpdate
import HandS.Finally
import HandS.TryOnly
import HandS.Conv
import HandS.Exc
import HandS.ExcOwn
import HandS.ExcCtx
import HandS.ExcInitHot
import HandS.Nested
import HandS.SuiteRaise
import HandS.RaiseFrom
import HandS.ExcIs
import KE.KExcSuper
import HandS.FStr
import HandS.StrMore
import HandS.Style
import HandS.Replace
import KE.IntTextLaws
import KE.IntTextText
import PyProof.Rows.StrStep
import PyProof.Rows.StrSplitCount
import HandS.ReplaceLit
import PySem.Challenge.RW_wheresay_k09_whole_texts
set_option Elab.async false
set_option linter.all false
set_option maxRecDepth 100000
set_option maxHeartbeats 0
namespace K9
open PySem PySem.Spec L2
open PyProof.Rows hiding St
def top (i : Nat) : Stmt := PySem.Challenge.pw_wheresay_k09_whole_texts.main.body.getD i (.Pass ⟨0, 0, 0, 0⟩)
abbrev s__wall : Stmt := top 0
abbrev s_BadRows_init : Stmt := inClass (top 5) 0
abbrev s_is_whole : Stmt := top 9
abbrev s_is_number : Stmt := top 10
abbrev s_is_name : Stmt := top 11
abbrev s_are_unlike_names : Stmt := top 12
abbrev s_check_names : Stmt := top 19
abbrev s_check_word : Stmt := top 20
abbrev s_check_number : Stmt := top 21
abbrev s_Saying_names : Stmt := inClass (top 22) 0
abbrev s_Saying_adds : Stmt := inClass (top 22) 1
abbrev s_Saying_keeps : Stmt := inClass (top 22) 2
abbrev s_At_init : Stmt := inClass (top 23) 0
abbrev s_At_names : Stmt := inClass (top 23) 1
abbrev s_At_adds : Stmt := inClass (top 23) 2
abbrev s_At_keeps : Stmt := inClass (top 23) 3
abbrev s_Beside_init : Stmt := inClass (top 24) 0
abbrev s_Beside_names : Stmt := inClass (top 24) 1
abbrev s_Beside_adds : Stmt := inClass (top 24) 2
abbrev s_Beside_keeps : Stmt := inClass (top 24) 3
abbrev s_Alike_init : Stmt := inClass (top 25) 0
abbrev s_Alike_names : Stmt := inClass (top 25) 1
abbrev s_Alike_adds : Stmt := inClass (top 25) 2
abbrev s_Alike_keeps : Stmt := inClass (top 25) 3
abbrev s_Amid_init : Stmt := inClass (top 26) 0
abbrev s_Amid_names : Stmt := inClass (top 26) 1
abbrev s_Amid_adds : Stmt := inClass (top 26) 2
abbrev s_Amid_keeps : Stmt := inClass (top 26) 3
abbrev s_check_boxes : Stmt := top 30
abbrev s_is_saying_of : Stmt := top 31
abbrev s_check_sayings : Stmt := top 32
abbrev s_check_sheet : Stmt := top 33
abbrev s_Sheet_init : Stmt := inClass (top 34) 0
abbrev s_Sheet_names : Stmt := inClass (top 34) 1
abbrev s_Sheet_sayings : Stmt := inClass (top 34) 2
abbrev s_row_of : Stmt := top 38
abbrev s_written : Stmt := top 39
abbrev s_number_of : Stmt := top 40
abbrev s_saying_of : Stmt := top 41
abbrev s_take_box : Stmt := top 42
abbrev s_take_saying : Stmt := top 43
abbrev s_read : Stmt := top 44
abbrev s_l_cell_at : Stmt := top 46
abbrev s_l_numbers : Stmt := top 47
abbrev s_l_names : Stmt := top 48
abbrev s_l_parts : Stmt := top 49
abbrev s_l_saying : Stmt := top 50
abbrev s_l_by : Stmt := top 51
abbrev s_l_terms : Stmt := top 52
abbrev s_l_left : Stmt := top 53
abbrev s_l_sheet : Stmt := top 54
abbrev s_l_made : Stmt := top 55
abbrev s_l_sheet_of : Stmt := top 56
abbrev s_l_words : Stmt := top 57
abbrev s_l_text : Stmt := top 58
abbrev s_l_number : Stmt := top 59
abbrev s_l_read_saying : Stmt := top 60
abbrev s_l_is_name : Stmt := top 61
abbrev s_l_row_taken : Stmt := top 62
abbrev s_l_read : Stmt := top 63
abbrev s_l_judged : Stmt := top 64
abbrev s_l_spoilt : Stmt := top 65
abbrev s_l_rows_changed : Stmt := top 66
abbrev s_l_paper : Stmt := top 67
abbrev s_law : Stmt := top 68
def ns0 : List Str := ["_wall", "SayError", "BadSaying", "BadSheet", "BadRows", "LETTERS", "LONGEST_NAME", "is_whole", "is_number", "is_name", "are_unlike_names", "PARTS", "SIDES", "WAYS", "FARTHEST", "MOST_TIMES", "check_names", "check_word", "check_number", "Saying"]
def ns1 : List Str := ["At", "Beside", "Alike", "Amid", "MOST_NAMES", "MOST_SAYINGS", "check_boxes", "is_saying_of", "check_sayings", "check_sheet", "Sheet", "DIGITS", "MOST_DIGITS", "row_of", "written", "number_of", "saying_of", "take_box", "take_saying", "read"]
def ns2 : List Str := ["_law_cell_at", "_law_numbers", "_law_names", "_law_parts", "_law_saying", "_law_by", "_law_terms", "_law_left", "_law_sheet", "_law_made", "_law_sheet_of", "_law_words", "_law_text", "_law_number", "_law_read_saying", "_law_is_name", "_law_row_taken", "_law_read", "_law_judged", "_law_spoilt"]
def ns3 : List Str := ["_law_rows_changed", "_law_paper"]
def nsL : List Str := ns0 ++ ns1 ++ ns2 ++ ns3
def D__wall : He.DefD := ⟨("_wall", none), "_wall", "_wall", defArgs s__wall, defBody s__wall, defScope s__wall, [], []⟩
def D_is_whole : He.DefD := ⟨("is_whole", none), "is_whole", "is_whole", defArgs s_is_whole, defBody s_is_whole, defScope s_is_whole, [], []⟩
def D_is_number : He.DefD := ⟨("is_number", none), "is_number", "is_number", defArgs s_is_number, defBody s_is_number, defScope s_is_number, [], []⟩
def D_is_name : He.DefD := ⟨("is_name", none), "is_name", "is_name", defArgs s_is_name, defBody s_is_name, defScope s_is_name, [], []⟩
def D_are_unlike_names : He.DefD := ⟨("are_unlike_names", none), "are_unlike_names", "are_unlike_names", defArgs s_are_unlike_names, defBody s_are_unlike_names, defScope s_are_unlike_names, [], []⟩
def D_check_names : He.DefD := ⟨("check_names", none), "check_names", "check_names", defArgs s_check_names, defBody s_check_names, defScope s_check_names, [], []⟩
def D_check_word : He.DefD := ⟨("check_word", none), "check_word", "check_word", defArgs s_check_word, defBody s_check_word, defScope s_check_word, [], []⟩
def D_check_number : He.DefD := ⟨("check_number", none), "check_number", "check_number", defArgs s_check_number, defBody s_check_number, defScope s_check_number, [], []⟩
def D_Saying_names : He.DefD := ⟨("Saying", some "names"), "names", "Saying.names", defArgs s_Saying_names, defBody s_Saying_names, defScope s_Saying_names, [], []⟩
def D_Saying_adds : He.DefD := ⟨("Saying", some "adds"), "adds", "Saying.adds", defArgs s_Saying_adds, defBody s_Saying_adds, defScope s_Saying_adds, [], []⟩
def D_Saying_keeps : He.DefD := ⟨("Saying", some "keeps"), "keeps", "Saying.keeps", defArgs s_Saying_keeps, defBody s_Saying_keeps, defScope s_Saying_keeps, [], []⟩
def D_At_init : He.DefD := ⟨("At", some "__init__"), "__init__", "At.__init__", defArgs s_At_init, defBody s_At_init, defScope s_At_init, [], []⟩
def D_At_names : He.DefD := ⟨("At", some "names"), "names", "At.names", defArgs s_At_names, defBody s_At_names, defScope s_At_names, [], []⟩
def D_At_adds : He.DefD := ⟨("At", some "adds"), "adds", "At.adds", defArgs s_At_adds, defBody s_At_adds, defScope s_At_adds, [], []⟩
def D_At_keeps : He.DefD := ⟨("At", some "keeps"), "keeps", "At.keeps", defArgs s_At_keeps, defBody s_At_keeps, defScope s_At_keeps, [], []⟩
def D_Beside_init : He.DefD := ⟨("Beside", some "__init__"), "__init__", "Beside.__init__", defArgs s_Beside_init, defBody s_Beside_init, defScope s_Beside_init, [.int 0], []⟩
def D_Beside_names : He.DefD := ⟨("Beside", some "names"), "names", "Beside.names", defArgs s_Beside_names, defBody s_Beside_names, defScope s_Beside_names, [], []⟩
def D_Beside_adds : He.DefD := ⟨("Beside", some "adds"), "adds", "Beside.adds", defArgs s_Beside_adds, defBody s_Beside_adds, defScope s_Beside_adds, [], []⟩
def D_Beside_keeps : He.DefD := ⟨("Beside", some "keeps"), "keeps", "Beside.keeps", defArgs s_Beside_keeps, defBody s_Beside_keeps, defScope s_Beside_keeps, [], []⟩
def D_Alike_init : He.DefD := ⟨("Alike", some "__init__"), "__init__", "Alike.__init__", defArgs s_Alike_init, defBody s_Alike_init, defScope s_Alike_init, [.int 1], []⟩
def D_Alike_names : He.DefD := ⟨("Alike", some "names"), "names", "Alike.names", defArgs s_Alike_names, defBody s_Alike_names, defScope s_Alike_names, [], []⟩
def D_Alike_adds : He.DefD := ⟨("Alike", some "adds"), "adds", "Alike.adds", defArgs s_Alike_adds, defBody s_Alike_adds, defScope s_Alike_adds, [], []⟩
def D_Alike_keeps : He.DefD := ⟨("Alike", some "keeps"), "keeps", "Alike.keeps", defArgs s_Alike_keeps, defBody s_Alike_keeps, defScope s_Alike_keeps, [], []⟩
def D_Amid_init : He.DefD := ⟨("Amid", some "__init__"), "__init__", "Amid.__init__", defArgs s_Amid_init, defBody s_Amid_init, defScope s_Amid_init, [], []⟩
def D_Amid_names : He.DefD := ⟨("Amid", some "names"), "names", "Amid.names", defArgs s_Amid_names, defBody s_Amid_names, defScope s_Amid_names, [], []⟩
def D_Amid_adds : He.DefD := ⟨("Amid", some "adds"), "adds", "Amid.adds", defArgs s_Amid_adds, defBody s_Amid_adds, defScope s_Amid_adds, [], []⟩
def D_Amid_keeps : He.DefD := ⟨("Amid", some "keeps"), "keeps", "Amid.keeps", defArgs s_Amid_keeps, defBody s_Amid_keeps, defScope s_Amid_keeps, [], []⟩
def D_check_boxes : He.DefD := ⟨("check_boxes", none), "check_boxes", "check_boxes", defArgs s_check_boxes, defBody s_check_boxes, defScope s_check_boxes, [], []⟩
def D_is_saying_of : He.DefD := ⟨("is_saying_of", none), "is_saying_of", "is_saying_of", defArgs s_is_saying_of, defBody s_is_saying_of, defScope s_is_saying_of, [], []⟩
def D_check_sayings : He.DefD := ⟨("check_sayings", none), "check_sayings", "check_sayings", defArgs s_check_sayings, defBody s_check_sayings, defScope s_check_sayings, [], []⟩
def D_check_sheet : He.DefD := ⟨("check_sheet", none), "check_sheet", "check_sheet", defArgs s_check_sheet, defBody s_check_sheet, defScope s_check_sheet, [], []⟩
def D_Sheet_init : He.DefD := ⟨("Sheet", some "__init__"), "__init__", "Sheet.__init__", defArgs s_Sheet_init, defBody s_Sheet_init, defScope s_Sheet_init, [], []⟩
def D_Sheet_names : He.DefD := ⟨("Sheet", some "names"), "names", "Sheet.names", defArgs s_Sheet_names, defBody s_Sheet_names, defScope s_Sheet_names, [], []⟩
def D_Sheet_sayings : He.DefD := ⟨("Sheet", some "sayings"), "sayings", "Sheet.sayings", defArgs s_Sheet_sayings, defBody s_Sheet_sayings, defScope s_Sheet_sayings, [], []⟩
def D_row_of : He.DefD := ⟨("row_of", none), "row_of", "row_of", defArgs s_row_of, defBody s_row_of, defScope s_row_of, [], []⟩
def D_written : He.DefD := ⟨("written", none), "written", "written", defArgs s_written, defBody s_written, defScope s_written, [], []⟩
def D_number_of : He.DefD := ⟨("number_of", none), "number_of", "number_of", defArgs s_number_of, defBody s_number_of, defScope s_number_of, [], []⟩
def D_saying_of : He.DefD := ⟨("saying_of", none), "saying_of", "saying_of", defArgs s_saying_of, defBody s_saying_of, defScope s_saying_of, [], []⟩
def D_take_box : He.DefD := ⟨("take_box", none), "take_box", "take_box", defArgs s_take_box, defBody s_take_box, defScope s_take_box, [], []⟩
def D_take_saying : He.DefD := ⟨("take_saying", none), "take_saying", "take_saying", defArgs s_take_saying, defBody s_take_saying, defScope s_take_saying, [], []⟩
def D_read : He.DefD := ⟨("read", none), "read", "read", defArgs s_read, defBody s_read, defScope s_read, [], []⟩
def D_l_cell_at : He.DefD := ⟨("_law_cell_at", none), "_law_cell_at", "_law_cell_at", defArgs s_l_cell_at, defBody s_l_cell_at, defScope s_l_cell_at, [], []⟩
def D_l_numbers : He.DefD := ⟨("_law_numbers", none), "_law_numbers", "_law_numbers", defArgs s_l_numbers, defBody s_l_numbers, defScope s_l_numbers, [], []⟩
def D_l_names : He.DefD := ⟨("_law_names", none), "_law_names", "_law_names", defArgs s_l_names, defBody s_l_names, defScope s_l_names, [], []⟩
def D_l_parts : He.DefD := ⟨("_law_parts", none), "_law_parts", "_law_parts", defArgs s_l_parts, defBody s_l_parts, defScope s_l_parts, [], []⟩
def D_l_saying : He.DefD := ⟨("_law_saying", none), "_law_saying", "_law_saying", defArgs s_l_saying, defBody s_l_saying, defScope s_l_saying, [], []⟩
def D_l_by : He.DefD := ⟨("_law_by", none), "_law_by", "_law_by", defArgs s_l_by, defBody s_l_by, defScope s_l_by, [], []⟩
def D_l_terms : He.DefD := ⟨("_law_terms", none), "_law_terms", "_law_terms", defArgs s_l_terms, defBody s_l_terms, defScope s_l_terms, [], []⟩
def D_l_left : He.DefD := ⟨("_law_left", none), "_law_left", "_law_left", defArgs s_l_left, defBody s_l_left, defScope s_l_left, [], []⟩
def D_l_sheet : He.DefD := ⟨("_law_sheet", none), "_law_sheet", "_law_sheet", defArgs s_l_sheet, defBody s_l_sheet, defScope s_l_sheet, [], []⟩
def D_l_made : He.DefD := ⟨("_law_made", none), "_law_made", "_law_made", defArgs s_l_made, defBody s_l_made, defScope s_l_made, [], []⟩
def D_l_sheet_of : He.DefD := ⟨("_law_sheet_of", none), "_law_sheet_of", "_law_sheet_of", defArgs s_l_sheet_of, defBody s_l_sheet_of, defScope s_l_sheet_of, [], []⟩
def D_l_words : He.DefD := ⟨("_law_words", none), "_law_words", "_law_words", defArgs s_l_words, defBody s_l_words, defScope s_l_words, [], []⟩
def D_l_text : He.DefD := ⟨("_law_text", none), "_law_text", "_law_text", defArgs s_l_text, defBody s_l_text, defScope s_l_text, [], []⟩
def D_l_number : He.DefD := ⟨("_law_number", none), "_law_number", "_law_number", defArgs s_l_number, defBody s_l_number, defScope s_l_number, [], []⟩
def D_l_read_saying : He.DefD := ⟨("_law_read_saying", none), "_law_read_saying", "_law_read_saying", defArgs s_l_read_saying, defBody s_l_read_saying, defScope s_l_read_saying, [], []⟩
def D_l_is_name : He.DefD := ⟨("_law_is_name", none), "_law_is_name", "_law_is_name", defArgs s_l_is_name, defBody s_l_is_name, defScope s_l_is_name, [], []⟩
def D_l_row_taken : He.DefD := ⟨("_law_row_taken", none), "_law_row_taken", "_law_row_taken", defArgs s_l_row_taken, defBody s_l_row_taken, defScope s_l_row_taken, [], []⟩
def D_l_read : He.DefD := ⟨("_law_read", none), "_law_read", "_law_read", defArgs s_l_read, defBody s_l_read, defScope s_l_read, [], []⟩
def D_l_judged : He.DefD := ⟨("_law_judged", none), "_law_judged", "_law_judged", defArgs s_l_judged, defBody s_l_judged, defScope s_l_judged, [], []⟩
def D_l_spoilt : He.DefD := ⟨("_law_spoilt", none), "_law_spoilt", "_law_spoilt", defArgs s_l_spoilt, defBody s_l_spoilt, defScope s_l_spoilt, [], []⟩
def D_l_rows_changed : He.DefD := ⟨("_law_rows_changed", none), "_law_rows_changed", "_law_rows_changed", defArgs s_l_rows_changed, defBody s_l_rows_changed, defScope s_l_rows_changed, [], []⟩
def D_l_paper : He.DefD := ⟨("_law_paper", none), "_law_paper", "_law_paper", defArgs s_l_paper, defBody s_l_paper, defScope s_l_paper, [], []⟩
def D_law : He.DefD := ⟨("law", none), "law", "law", defArgs s_law, defBody s_law, defScope s_law, [], []⟩
def fnL0 : List He.DefD := [D__wall, D_is_whole, D_is_number, D_is_name, D_are_unlike_names, D_check_names, D_check_word, D_check_number, D_Saying_names, D_Saying_adds, D_Saying_keeps, D_At_init, D_At_names, D_At_adds, D_At_keeps, D_Beside_init, D_Beside_names, D_Beside_adds, D_Beside_keeps, D_Alike_init]
def fnL1 : List He.DefD := [D_Alike_names, D_Alike_adds, D_Alike_keeps, D_Amid_init, D_Amid_names, D_Amid_adds, D_Amid_keeps, D_check_boxes, D_is_saying_of, D_check_sayings, D_check_sheet, D_Sheet_init, D_Sheet_names, D_Sheet_sayings, D_row_of, D_written, D_number_of, D_saying_of, D_take_box, D_take_saying]
def fnL2 : List He.DefD := [D_read, D_l_cell_at, D_l_numbers, D_l_names, D_l_parts, D_l_saying, D_l_by, D_l_terms, D_l_left, D_l_sheet, D_l_made, D_l_sheet_of, D_l_words, D_l_text, D_l_number, D_l_read_saying, D_l_is_name, D_l_row_taken, D_l_read, D_l_judged]
def fnL3 : List He.DefD := [D_l_spoilt, D_l_rows_changed, D_l_paper, D_law]
def fnL : List He.DefD := fnL0 ++ (fnL1 ++ (fnL2 ++ (fnL3)))
def faL0 : List He.Fa := [.glo "_wall", .glo "is_whole", .glo "is_number", .glo "is_name", .glo "are_unlike_names", .glo "check_names", .glo "check_word", .glo "check_number", .meth "Saying" "names", .meth "Saying" "adds", .meth "Saying" "keeps", .mkr "At", .meth "At" "names", .meth "At" "adds", .meth "At" "keeps", .mkr "Beside", .meth "Beside" "names", .meth "Beside" "adds", .meth "Beside" "keeps", .mkr "Alike"]
def faL1 : List He.Fa := [.meth "Alike" "names", .meth "Alike" "adds", .meth "Alike" "keeps", .mkr "Amid", .meth "Amid" "names", .meth "Amid" "adds", .meth "Amid" "keeps", .glo "check_boxes", .glo "is_saying_of", .glo "check_sayings", .glo "check_sheet", .mkr "Sheet", .meth "Sheet" "names", .meth "Sheet" "sayings", .glo "row_of", .glo "written", .glo "number_of", .glo "saying_of", .glo "take_box", .glo "take_saying"]
def faL2 : List He.Fa := [.glo "read", .glo "_law_cell_at", .glo "_law_numbers", .glo "_law_names", .glo "_law_parts", .glo "_law_saying", .glo "_law_by", .glo "_law_terms", .glo "_law_left", .glo "_law_sheet", .glo "_law_made", .glo "_law_sheet_of", .glo "_law_words", .glo "_law_text", .glo "_law_number", .glo "_law_read_saying", .glo "_law_is_name", .glo "_law_row_taken", .glo "_law_read", .glo "_law_judged"]
def faL3 : List He.Fa := [.glo "_law_spoilt", .glo "_law_rows_changed", .glo "_law_paper", .glo "law", .glo "SayError", .exc "SayError", .exm "SayError" "SayError" true, .glo "BadSaying", .exc "BadSaying", .exm "BadSaying" "BadSaying" true, .glo "BadSheet", .exc "BadSheet", .exm "BadSheet" "BadSheet" true, .glo "BadRows", .glo "Saying", .cls "Saying", .glo "At", .cls "At", .noat "At" "name", .noat "At" "part"]
def faL4 : List He.Fa := [.noat "At" "number", .glo "Beside", .cls "Beside", .noat "Beside" "name", .noat "Beside" "side", .noat "Beside" "other", .noat "Beside" "by", .glo "Alike", .cls "Alike", .noat "Alike" "name", .noat "Alike" "part", .noat "Alike" "other", .noat "Alike" "times", .glo "Amid", .cls "Amid", .noat "Amid" "name", .noat "Amid" "way", .noat "Amid" "one", .noat "Amid" "other", .glo "Sheet"]
def faL5 : List He.Fa := [.cls "Sheet", .noat "Sheet" "boxes", .noat "Sheet" "said", .str "LETTERS" "abcdefghijklmnopqrstuvwxyz", .int "LONGEST_NAME" 8, .glo "PARTS", .glo "SIDES", .glo "WAYS", .int "FARTHEST" 1000, .int "MOST_TIMES" 9, .int "MOST_NAMES" 6, .int "MOST_SAYINGS" 16, .str "DIGITS" "0123456789", .int "MOST_DIGITS" 4, .free "all", .free "bool", .free "enumerate", .free "int", .free "isinstance", .free "len"]
def faL6 : List He.Fa := [.free "list", .free "range", .free "set", .free "str", .free "sum", .free "super"]
def faL : List He.Fa := faL0 ++ (faL1 ++ (faL2 ++ (faL3 ++ (faL4 ++ (faL5 ++ (faL6))))))
def tsL : List He.Tab := [(fun K => He.ga K "SIDES", ["right", "left", "below", "above"]), (fun K => He.ga K "WAYS", ["across", "down"])]
/-! more facts -/
def ownB (n : Str) (K : PySem.W.Frag) : Bool := He.eqO (PySem.W.findIn K (.ref (He.ga K n)) "__class__") (some (some (.builtin "object.__class__"))) && (He.eqO (PySem.W.specialIn K (.builtin "object.__class__") "__get__") (some (some (.builtin "getset_descriptor.__get__"))) && (decide (PySem.W.takesIn K (.builtin "object.__class__") = some true) && decide (PySem.W.mroIn K (He.ga K n) (.type "object") = some true)))
def kitB (a b : Str) (v : Bool) (K : PySem.W.Frag) : Bool := decide (PySem.W.kitOne K (.ref (He.ga K a)) (.ref (He.ga K b)) = some v)
def tupN (K : PySem.W.Frag) (a : Addr) (l : List Str) : Bool := match K.lookup a with
  | some ⟨.type c, none, .seq its _, _⟩ => decide (c = "tuple") && (decide (its.size ≤ sizeLine) && He.relAll (l.map V.str) its.toList)
  | _ => false
def keysB (K : PySem.W.Frag) (a : Addr) (ks : List Str) : Bool := match K.lookup a with
  | some ⟨.type c, none, .dict es _, sl⟩ => decide (c = "dict") && (sl.isEmpty && (!(a == sysModules) && He.relAll (ks.map V.str) (es.toList.map (·.key))))
  | _ => false
def valsN (K : PySem.W.Frag) (a : Addr) (l : List (Str × List Str)) : Bool := l.all fun p => match PySem.W.nsIn K a p.1 with
  | some (some (.ref q)) => tupN K q p.2
  | _ => false
abbrev fileY : Str := PySem.Challenge.pw_wheresay_k09_whole_texts.main.file
/-! an exception with its own __init__ -/
abbrev FnS : Type := Option (Str × Str × Arguments × FuncBody × Scope × Addr × List Str × Addr)
def fnS (K : PySem.W.Frag) (f : Addr) : FnS := match K.lookup f with
  | some ⟨_, _, .func fd, _⟩ => some (fd.name, fd.qualname, fd.params, fd.body, fd.scope, fd.globals, fd.closure.map (·.1), fd.builtins)
  | _ => none
def fileB (K : PySem.W.Frag) (a : Addr) (file : Str) : Bool := match K.lookup a with
  | some ⟨_, _, .fields vs, _⟩ => (match (vs[2]? : Option Value) with
    | some (Value.str f _) => decide (f = file)
    | _ => false)
  | _ => false
def cellB (K : PySem.W.Frag) (a C : Addr) : Bool := match K.lookup a with
  | some ⟨_, _, .cell (some (.ref D)), _⟩ => decide (D = C)
  | _ => false
def supB (c qual file : Str) (K : PySem.W.Frag) : Bool := match K.lookup (He.ma K (He.ga K c) "__init__") with
  | some ⟨_, _, .func fd, _⟩ => (match fd.code, fd.closure, fd.defaults with
    | .ref cda, [(_, cc)], .none => PySem.W.codeIn K (.ref cda) qual && (fileB K cda file && cellB K cc (He.ga K c))
    | _, _, _ => false)
  | _ => false
def oexB (K : PySem.W.Frag) (C : Addr) : Bool := match K.lookup C with
  | some ⟨.type t, _, .cls cd, sl⟩ => decide (t = "type") && (match cd.mro, sl.toList with
    | .ref D :: bm, [_, _, _, _, some (.builtin n), _] => decide (D = C) && (decide (n = "ValueError.__new__") && (!cd.hasDel && (cd.hasDict && PySem.HandSPX.refsVE bm)))
    | _, _ => false)
  | _ => false
def excB (c fld : Str) (K : PySem.W.Frag) : Bool := oexB K (He.ga K c) && (He.eqO (PySem.W.findIn K (.ref (He.ga K c)) "__setattr__") (some (some (.builtin "object.__setattr__"))) && (decide (PySem.W.subIn K (.ref (He.ga K c)) (.type "BaseException") = some true) && (decide (PySem.W.typeIn K (.ref (He.ga K c)) = some (.type "type")) && (PySem.W.keepIn K (.ref (He.ga K c)) &&
  (decide (PySem.W.mroIn K (He.ga K c) (.ref (He.ga K c)) = some true) && (He.eqO (PySem.W.ks_superIn K (He.ga K c) (He.ga K c) "__init__") (some (some (.builtin "ValueError.__init__"))) && (decide (PySem.W.subIn K (.ref (He.ga K c)) (.type "ValueError") = some true) && (He.eqO (PySem.W.nsIn K cStatics "thirdparty.any") (some none) &&
  (He.eqO (PySem.W.findIn K (.ref (He.ga K c)) "__init__") (some (some (.ref (He.ma K (He.ga K c) "__init__")))) && (decide (PySem.W.typeIn K (.ref (He.ma K (He.ga K c) "__init__")) = some (.type "function")) && (He.eqO (PySem.W.findIn K (.ref (He.ga K c)) fld) (some none) && (xfB K (He.ga K c) && decide (PySem.W.exmOne K (.ref (He.ga K c)) (.ref (He.ga K c)) = some true)))))))))))))
def exL0 : List (PySem.W.Frag → Bool) := [supB "BadRows" "BadRows.__init__" fileY, excB "BadRows" "row", ownB "Saying", ownB "At", ownB "Beside", ownB "Alike", ownB "Amid", ownB "Sheet", kitB "Saying" "Saying" true, kitB "Saying" "At" false, kitB "Saying" "Beside" false, kitB "Saying" "Alike" false, kitB "Saying" "Amid" false, kitB "Saying" "Sheet" false, kitB "At" "Saying" true, kitB "At" "At" true, kitB "At" "Beside" false, kitB "At" "Alike" false, kitB "At" "Amid" false, kitB "At" "Sheet" false]
def exL1 : List (PySem.W.Frag → Bool) := [kitB "Beside" "Saying" true, kitB "Beside" "At" false, kitB "Beside" "Beside" true, kitB "Beside" "Alike" false, kitB "Beside" "Amid" false, kitB "Beside" "Sheet" false, kitB "Alike" "Saying" true, kitB "Alike" "At" false, kitB "Alike" "Beside" false, kitB "Alike" "Alike" true, kitB "Alike" "Amid" false, kitB "Alike" "Sheet" false, kitB "Amid" "Saying" true, kitB "Amid" "At" false, kitB "Amid" "Beside" false, kitB "Amid" "Alike" false, kitB "Amid" "Amid" true, kitB "Amid" "Sheet" false, kitB "Sheet" "Saying" false, kitB "Sheet" "At" false]
def exL2 : List (PySem.W.Frag → Bool) := [kitB "Sheet" "Beside" false, kitB "Sheet" "Alike" false, kitB "Sheet" "Amid" false, kitB "Sheet" "Sheet" true, (fun K => tupN K (He.ga K "PARTS") ["left", "top", "wide", "high"]), (fun K => keysB K (He.ga K "SIDES") ["right", "left", "below", "above"]), (fun K => valsN K (He.ga K "SIDES") [("right", ["left", "wide"]), ("left", ["left", "wide"]), ("below", ["top", "high"]), ("above", ["top", "high"])]), (fun K => keysB K (He.ga K "WAYS") ["across", "down"]), (fun K => valsN K (He.ga K "WAYS") [("across", ["left", "wide"]), ("down", ["top", "high"])])]
def exL : List (PySem.W.Frag → Bool) := exL0 ++ (exL1 ++ (exL2))
def exK (K : PySem.W.Frag) : Bool := exL.all fun f => f K
theorem exA {K : PySem.W.Frag} (h : exK K = true) (i : Nat) {f : PySem.W.Frag → Bool} (e : exL[i]? = some f := by rfl) : f K = true := List.all_eq_true.mp h f (List.mem_of_getElem? e)
abbrev AlY : Type := He.AlT × Bool × FnS
def frY (n : Nat) (g : Addr → Option Obj) : PySem.W.Frag := He.frG g (cStatics :: He.asD g n)
def fnV : FnS := some ("__init__", "BadRows.__init__", defArgs s_BadRows_init, .stmts (defBody s_BadRows_init), defScope s_BadRows_init, mainGlobals, ["__class__"], builtinsNs)
def obsK (K : PySem.W.Frag) : AlY := (He.obsT faL fnL tsL K, exK K, fnS K (He.ma K (He.ga K "BadRows") "__init__"))
def obsY (n : Nat) (g : Addr → Option Obj) : AlY := obsK (frY n g)
def hookY (n : Nat) : PySem.W.Hook where
  α := AlY
  obs := fun s => obsY n s.heap.get?
  val := fun w => (He.valT fnL tsL w, true, fnV)
  says := fun w h => ∃ K : PySem.W.Frag, K.In h ∧ He.SaysT faL fnL tsL w K ∧ exK K = true ∧ fnS K (He.ma K (He.ga K "BadRows") "__init__") = fnV
  of := fun _ _ e => ⟨_, He.frG_in, congrArg (fun z : AlY => z.1) e, congrArg (fun z : AlY => z.2.1) e, congrArg (fun z : AlY => z.2.2) e⟩
  keeps := fun _ _ _ ⟨K, hK, c⟩ k => ⟨K, PySem.W.Frag.In.keeps hK k, c⟩
abbrev R : PySem.W.OpenRow := PySem.W.OpenLaw.row PySem.Challenge.rw_wheresay_k09_whole_texts
def obY (s : PySem.W.SharedT) : AlY := obsY 5 (HandSHeadRun.getT s)
theorem obY_eq (s : PySem.W.SharedT) : obY s = (hookY 5).obs s.abs := by
  have e : HandSHeadRun.getT s = s.abs.heap.get? := funext (HandSHeadRun.getT_eq s)
  show obsY 5 (HandSHeadRun.getT s) = obsY 5 s.abs.heap.get?
  rw [e]
theorem runYf (w : World) : HandSHeadRun.RunEq R (PySem.W.view R.prog [68]) (hookY 5) obY 8000 nsL (w.withFollow "special-get-raises" false) := by
  intro os
  kernel_rfl
theorem runYt (w : World) : HandSHeadRun.RunEq R (PySem.W.view R.prog [68]) (hookY 5) obY 8000 nsL (w.withFollow "special-get-raises" true) := by
  intro os
  kernel_rfl
theorem runY (w : World) : HandSHeadRun.RunEq R (PySem.W.view R.prog [68]) (hookY 5) obY 8000 nsL w :=
  PySem.W.byRow2 "special-get-raises" (P := fun w => HandSHeadRun.RunEq R (PySem.W.view R.prog [68]) (hookY 5) obY 8000 nsL w) runYf runYt w
end K9
set_option Elab.async false
set_option linter.all false
set_option maxRecDepth 100000
set_option maxHeartbeats 1000000
/-! Data over the layer: what a value is, deep; regions of the heap that stay; names owned by a def. -/
namespace Wd
open PySem PySem.Spec L2
open PyProof.Rows hiding St

/-- data, deep -/
inductive D where
  | non | bl (b : Bool) | int (i : Int) | str (x : Str)
  | lst (ds : List D) | tup (ds : List D) | ro (ds : List D) | rot (ds : List D)
  | dk (kvs : List (Key × D)) | dt (kvs : List (List Key × D))
  | obj (c : Str) (fs : List (Str × D))
  | cls (c : Str) | ty (n : String)

mutual
inductive Dat (K : PySem.W.Frag) (S : Hp) : V → D → Prop
  | non : Dat K S .non .non
  | bl {b} : Dat K S (.bl b) (.bl b)
  | int {i} : Dat K S (.int i) (.int i)
  | str {x} : Dat K S (.str x) (.str x)
  | lst {a xs ds} : S a = some (.lst xs) → Dats K S xs ds → Dat K S (.ref a) (.lst ds)
  | tup {a xs ds} : S a = some (.tup xs) → Dats K S xs ds → Dat K S (.ref a) (.tup ds)
  | ro {a xs ds} : SqL K S a xs → Dats K S xs ds → Dat K S (.ref a) (.ro ds)
  | rot {a xs ds} : SqT K S a xs → Dats K S xs ds → Dat K S (.ref a) (.rot ds)
  | dk {a kvs} {ds : List (Key × D)} : S a = some (.dK kvs) → kvs.map (·.1) = ds.map (·.1) → Dats K S (kvs.map (·.2)) (ds.map (·.2)) → Dat K S (.ref a) (.dk ds)
  | dt {a kvs} {ds : List (List Key × D)} : S a = some (.dT kvs) → kvs.map (·.1) = ds.map (·.1) → Dats K S (kvs.map (·.2)) (ds.map (·.2)) → Dat K S (.ref a) (.dt ds)
  | obj {a dx fs} {c : Str} {ds : List (Str × D)} : S a = some (.ins (He.ga K c) dx fs) → fs.map (·.1) = ds.map (·.1) → Dats K S (fs.map (·.2)) (ds.map (·.2)) → Dat K S (.ref a) (.obj c ds)
  | cls {c : Str} : Dat K S (.ref (He.ga K c)) (.cls c)
  | ty {n : String} : Dat K S (.ty n) (.ty n)
inductive Dats (K : PySem.W.Frag) (S : Hp) : List V → List D → Prop
  | nil : Dats K S [] []
  | cons {x d xs ds} : Dat K S x d → Dats K S xs ds → Dats K S (x :: xs) (d :: ds)
end

/-! ### the parts of the heap -/
abbrev Ex (H H' : Hp) : Prop := Same H H'
/-- S is to be read in H: as it is, or locked -/
def IsDc : HO → Prop
  | .dK _ => True
  | .dT _ => True
  | _ => False
def Sub (S H : Hp) : Prop := ∀ a o, S a = some o → H a = some o ∨ ∃ ob, H a = some (.frz ob o) ∧ IsDc o
theorem Sub.refl (H : Hp) : Sub H H := fun _ _ h => .inl h
theorem Sub.of {S H : Hp} (e : Ex S H) : Sub S H := fun a o h => .inl (e a o h)
theorem Sub.ex {S H H' : Hp} (s : Sub S H) (e : Ex H H') : Sub S H' := fun a o h => by
  rcases s a o h with h | ⟨ob, h, m⟩
  · exact .inl (e a _ h)
  · exact .inr ⟨ob, e a _ h, m⟩
theorem Ex.sub {S S' H : Hp} (e : Ex S S') (s : Sub S' H) : Sub S H := fun a o h => s a o (e a o h)
theorem Sub.rd {S H : Hp} (s : Sub S H) {a : Addr} {u : HO} (r : Rd S a u) : Rd H a u := by
  rcases r with h | ⟨o, h⟩
  · rcases s a _ h with h | ⟨ob, h, _⟩
    · exact .inl h
    · exact .inr ⟨ob, h⟩
  · rcases s a _ h with h | ⟨ob, h, m⟩
    · exact .inr ⟨o, h⟩
    · exact (show False from m).elim
theorem Sub.tup {S H : Hp} (s : Sub S H) {a : Addr} {xs : List V} (h : S a = some (.tup xs)) : H a = some (.tup xs) := by
  rcases s a _ h with h | ⟨ob, h, m⟩
  · exact h
  · exact (show False from m).elim
theorem Sub.lst {S H : Hp} (s : Sub S H) {a : Addr} {xs : List V} (h : S a = some (.lst xs)) : H a = some (.lst xs) := by
  rcases s a _ h with h | ⟨ob, h, m⟩
  · exact h
  · exact (show False from m).elim
theorem Sub.ins {S H : Hp} (s : Sub S H) {a C dx : Addr} {fs : List (Str × V)} (h : S a = some (.ins C dx fs)) : H a = some (.ins C dx fs) := by
  rcases s a _ h with h | ⟨ob, h, m⟩
  · exact h
  · exact (show False from m).elim
theorem Sub.seqL {K : PySem.W.Frag} {S H : Hp} (s : Sub S H) {a : Addr} {xs : List V} (h : SqL K S a xs) : SqL K H a xs := h.elim (fun h => .inl (s.rd h)) .inr
theorem Sub.seqT {K : PySem.W.Frag} {S H : Hp} (s : Sub S H) {a : Addr} {xs : List V} (h : SqT K S a xs) : SqT K H a xs := h.elim (fun h => .inl (s.rd h)) .inr
theorem Ex.seqL {K : PySem.W.Frag} {S H : Hp} (s : Ex S H) {a : Addr} {xs : List V} (h : SqL K S a xs) : SqL K H a xs := Same.seq s h
theorem Ex.rd {S H : Hp} (s : Ex S H) {a : Addr} {u : HO} (r : Rd S a u) : Rd H a u := r.elim (fun h => .inl (s _ _ h)) fun ⟨o, h⟩ => .inr ⟨o, s _ _ h⟩
theorem Ex.seqT {K : PySem.W.Frag} {S H : Hp} (s : Ex S H) {a : Addr} {xs : List V} (h : SqT K S a xs) : SqT K H a xs := h.elim (fun h => .inl (Ex.rd s h)) .inr
theorem Ex.back {H H' : Hp} (e : Ex H H') {l : Addr} (h : H' l = none) : H l = none := Same.free e h
theorem Ex.new {H : Hp} {p : Addr} {o : HO} (h : H p = none) : Ex H (upd H p o) := fun b u e => by rw [upd_ne (ne_of_none e h)]; exact e
theorem Ex.mut {H0 H : Hp} {p : Addr} {o : HO} (e : Ex H0 H) (h : H0 p = none) : Ex H0 (upd H p o) := fun b u z => by rw [upd_ne (ne_of_none z h)]; exact e b u z
theorem Sub.mut {S H : Hp} {p : Addr} {o : HO} (s : Sub S H) (h : S p = none) : Sub S (upd H p o) := fun b u z => by rw [upd_ne (ne_of_none z h)]; exact s b u z
theorem Sub.add {S H : Hp} {p : Addr} {o : HO} (s : Sub S H) (h : H p = some o) : Sub (upd S p o) H := fun b u z => by
  by_cases e : b = p
  · subst e; rw [upd_same] at z; cases z; exact .inl h
  · rw [upd_ne e] at z; exact s b u z
theorem Sub.upd {S H : Hp} {p : Addr} {o : HO} (s : Sub S H) : Sub (L2.upd S p o) (L2.upd H p o) := fun b u z => by
  by_cases e : b = p
  · subst e; rw [upd_same] at z ⊢; exact .inl z
  · rw [upd_ne e] at z ⊢; exact s b u z

mutual
theorem Dat.ex {K : PySem.W.Frag} {S S' : Hp} {v : V} {d : D} (e : Ex S S') : Dat K S v d → Dat K S' v d
  | .non => .non
  | .bl => .bl
  | .int => .int
  | .str => .str
  | .lst h t => .lst (e _ _ h) (Dats.ex e t)
  | .tup h t => .tup (e _ _ h) (Dats.ex e t)
  | .ro h t => .ro (Ex.seqL e h) (Dats.ex e t)
  | .rot h t => .rot (Ex.seqT e h) (Dats.ex e t)
  | .dk h k t => .dk (e _ _ h) k (Dats.ex e t)
  | .dt h k t => .dt (e _ _ h) k (Dats.ex e t)
  | .obj h k t => .obj (e _ _ h) k (Dats.ex e t)
  | .cls => .cls
  | .ty => .ty
theorem Dats.ex {K : PySem.W.Frag} {S S' : Hp} {vs : List V} {ds : List D} (e : Ex S S') : Dats K S vs ds → Dats K S' vs ds
  | .nil => .nil
  | .cons h t => .cons (Dat.ex e h) (Dats.ex e t)
end
section
variable {K : PySem.W.Frag} {S : Hp}
theorem Dats.length : ∀ {vs : List V} {ds : List D}, Dats K S vs ds → vs.length = ds.length
  | _, _, .nil => rfl
  | _, _, .cons _ t => by rw [List.length_cons, List.length_cons, Dats.length t]
theorem Dats.get : ∀ {vs : List V} {ds : List D} {i : Nat} {d : D}, Dats K S vs ds → ds[i]? = some d → ∃ v, vs[i]? = some v ∧ Dat K S v d
  | _, _, _, _, .nil, e => by simp at e
  | _, _, 0, _, .cons h _, e => by simp at e; subst e; exact ⟨_, rfl, h⟩
  | _, _, i + 1, d, .cons _ t, e => by
    obtain ⟨v, h1, h2⟩ := Dats.get (i := i) (d := d) t (by simpa using e)
    exact ⟨v, by simpa using h1, h2⟩
theorem Dats.getV : ∀ {vs : List V} {ds : List D} {i : Nat} {v : V}, Dats K S vs ds → vs[i]? = some v → ∃ d, ds[i]? = some d ∧ Dat K S v d
  | _, _, _, _, .nil, e => by simp at e
  | _, _, 0, _, .cons h _, e => by simp at e; subst e; exact ⟨_, rfl, h⟩
  | _, _, i + 1, d, .cons _ t, e => by
    obtain ⟨v, h1, h2⟩ := Dats.getV (i := i) (v := d) t (by simpa using e)
    exact ⟨v, by simpa using h1, h2⟩
theorem Dats.append : ∀ {vs ws : List V} {ds es : List D}, Dats K S vs ds → Dats K S ws es → Dats K S (vs ++ ws) (ds ++ es)
  | _, _, _, _, .nil, s => s
  | _, _, _, _, .cons h t, s => .cons h (Dats.append t s)
theorem Dats.one {v : V} {d : D} (h : Dat K S v d) : Dats K S [v] [d] := .cons h .nil
theorem Dats.snoc {vs : List V} {ds : List D} {v : V} {d : D} (h : Dats K S vs ds) (h1 : Dat K S v d) : Dats K S (vs ++ [v]) (ds ++ [d]) := h.append (.one h1)
theorem Dats.take : ∀ {vs : List V} {ds : List D} (n : Nat), Dats K S vs ds → Dats K S (vs.take n) (ds.take n)
  | _, _, 0, _ => .nil
  | _, _, _ + 1, .nil => .nil
  | _, _, n + 1, .cons h t => .cons h (Dats.take n t)
theorem Dats.drop : ∀ {vs : List V} {ds : List D} (n : Nat), Dats K S vs ds → Dats K S (vs.drop n) (ds.drop n)
  | _, _, 0, h => h
  | _, _, _ + 1, .nil => .nil
  | _, _, n + 1, .cons _ t => Dats.drop n t
theorem Dats.set {v : V} {d : D} (h : Dat K S v d) : ∀ {vs : List V} {ds : List D} (n : Nat), Dats K S vs ds → Dats K S (vs.set n v) (ds.set n d)
  | _, _, _, .nil => .nil
  | _, _, 0, .cons _ t => .cons h t
  | _, _, n + 1, .cons q t => .cons q (Dats.set h n t)
theorem Dats.ints : ∀ {vs : List V} {ns : List Int}, Dats K S vs (ns.map D.int) → vs = ns.map V.int
  | [], [], _ => rfl
  | [], _ :: _, h => nomatch h
  | _ :: _, [], h => nomatch h
  | v :: vs, n :: ns, .cons h t => by
    cases h
    rw [List.map_cons, Dats.ints t]
theorem Dats.bls : ∀ {vs : List V} {ns : List Bool}, Dats K S vs (ns.map D.bl) → vs = ns.map V.bl
  | [], [], _ => rfl
  | [], _ :: _, h => nomatch h
  | _ :: _, [], h => nomatch h
  | v :: vs, n :: ns, .cons h t => by
    cases h
    rw [List.map_cons, Dats.bls t]
theorem Dats.strs : ∀ {vs : List V} {ns : List Str}, Dats K S vs (ns.map D.str) → vs = ns.map V.str
  | [], [], _ => rfl
  | [], _ :: _, h => nomatch h
  | _ :: _, [], h => nomatch h
  | v :: vs, n :: ns, .cons h t => by
    cases h
    rw [List.map_cons, Dats.strs t]
theorem Dats.ofInts : ∀ (ns : List Int), Dats K S (ns.map V.int) (ns.map D.int)
  | [] => .nil
  | _ :: r => .cons .int (Dats.ofInts r)
end

/-! ### slots -/
/-- what is known of a name: nothing; data that stays; an object that the def alone holds and may change -/
inductive Slot where
  | un | sh (d : D) | ow (d : D) | tw (ks : List (List Key × D)) (d : D)
abbrev Gm := List Slot

/-- the object at l, its parts in S -/
def OwnAt (K : PySem.W.Frag) (S H : Hp) (l : Addr) : D → Prop
  | .lst ds => ∃ xs, H l = some (.lst xs) ∧ Dats K S xs ds
  | .dk ds => ∃ kvs, H l = some (.dK kvs) ∧ kvs.map (·.1) = ds.map (·.1) ∧ Dats K S (kvs.map (·.2)) (ds.map (·.2))
  | .dt ds => ∃ kvs, H l = some (.dT kvs) ∧ kvs.map (·.1) = ds.map (·.1) ∧ Dats K S (kvs.map (·.2)) (ds.map (·.2))
  | .obj c ds => ∃ dx fs, H l = some (.ins (He.ga K c) dx fs) ∧ fs.map (·.1) = ds.map (·.1) ∧ Dats K S (fs.map (·.2)) (ds.map (·.2))
  | _ => False
theorem OwnAt.there {K : PySem.W.Frag} {S H : Hp} {l : Addr} {d : D} (h : OwnAt K S H l d) : ∃ o, H l = some o := by
  cases d with
  | lst ds => obtain ⟨xs, h, _⟩ := h; exact ⟨_, h⟩
  | dk ds => obtain ⟨xs, h, _⟩ := h; exact ⟨_, h⟩
  | dt ds => obtain ⟨xs, h, _⟩ := h; exact ⟨_, h⟩
  | obj c ds => obtain ⟨dx, xs, h, _⟩ := h; exact ⟨_, h⟩
  | _ => exact (show False from h).elim
theorem OwnAt.mono {K : PySem.W.Frag} {S S' H H' : Hp} {l : Addr} {d : D} (h : OwnAt K S H l d) (e : Ex S S') (k : ∀ o, H l = some o → H' l = some o) : OwnAt K S' H' l d := by
  cases d with
  | lst ds => obtain ⟨xs, h, t⟩ := h; exact ⟨xs, k _ h, t.ex e⟩
  | dk ds => obtain ⟨xs, h, z, t⟩ := h; exact ⟨xs, k _ h, z, t.ex e⟩
  | dt ds => obtain ⟨xs, h, z, t⟩ := h; exact ⟨xs, k _ h, z, t.ex e⟩
  | obj c ds => obtain ⟨dx, xs, h, z, t⟩ := h; exact ⟨dx, xs, k _ h, z, t.ex e⟩
  | _ => exact (show False from h).elim
/-- the region with the object taken in -/
theorem OwnAt.froze {K : PySem.W.Frag} {S H : Hp} {l : Addr} {d : D} (h : OwnAt K S H l d) (hs : Sub S H) (hl : S l = none) :
    ∃ o, H l = some o ∧ Sub (upd S l o) H ∧ Ex S (upd S l o) ∧ Dat K (upd S l o) (.ref l) d := by
  obtain ⟨o, ho⟩ := h.there
  have e : Ex S (upd S l o) := Ex.new hl
  refine ⟨o, ho, hs.add ho, e, ?_⟩
  cases d with
  | lst ds => obtain ⟨xs, h, t⟩ := h; rw [h] at ho; cases ho; exact .lst upd_same (t.ex e)
  | dk ds => obtain ⟨xs, h, z, t⟩ := h; rw [h] at ho; cases ho; exact .dk upd_same z (t.ex e)
  | dt ds => obtain ⟨xs, h, z, t⟩ := h; rw [h] at ho; cases ho; exact .dt upd_same z (t.ex e)
  | obj c ds => obtain ⟨dx, xs, h, z, t⟩ := h; rw [h] at ho; cases ho; exact .obj upd_same z (t.ex e)
  | _ => exact (show False from h).elim

/-- the region grows, by new objects alone -/
structure Gr (S H S' H' : Hp) : Prop where
  ss : Ex S S'
  hh : Ex H H'
  nw : ∀ b o, S' b = some o → S b = none → H b = none
theorem Gr.refl (S H : Hp) : Gr S H S H := ⟨Same.refl _, Same.refl _, fun b o h n => by rw [n] at h; cases h⟩
theorem Gr.trans {S H S1 H1 S2 H2 : Hp} (a : Gr S H S1 H1) (b : Gr S1 H1 S2 H2) : Gr S H S2 H2 :=
  ⟨Same.trans a.ss b.ss, Same.trans a.hh b.hh, fun c o h n => by
    cases q : S1 c with
    | some u => exact a.nw c u q n
    | none => exact Ex.back a.hh (b.nw c o h q)⟩
theorem Gr.out {S H S' H' : Hp} (g : Gr S H S' H') {l : Addr} {o : HO} (h : S l = none) (ho : H l = some o) : S' l = none := by
  cases q : S' l with
  | none => rfl
  | some u =>
    have := g.nw l u q h
    rw [ho] at this; cases this

def SlotOk (K : PySem.W.Frag) (H0 S H : Hp) (σ : St) (i : Nat) : Slot → Prop
  | .un => True
  | .sh d => ∃ v, σ[i]? = some (some v) ∧ Dat K S v d
  | .ow d => ∃ l, σ[i]? = some (some (.ref l)) ∧ S l = none ∧ H0 l = none ∧ OwnAt K S H l d
  | .tw _ _ => True
/-- a new tuple of a new dict with tuple keys and a datum -/
def TwAt (K : PySem.W.Frag) (S H' : Hp) (v : V) (ks : List (List Key × D)) (d : D) (nw : Addr → Prop) : Prop := ∃ l p kvs y, v = .ref l ∧ l ≠ p ∧ nw l ∧ nw p ∧ H' l = some (.tup [.ref p, y]) ∧ H' p = some (.dT kvs) ∧ kvs.map (·.1) = ks.map (·.1) ∧ Dats K S (kvs.map (·.2)) (ks.map (·.2)) ∧ Dat K S y d
theorem TwAt.mono {K : PySem.W.Frag} {S H' : Hp} {v : V} {ks : List (List Key × D)} {d : D} {nw nw' : Addr → Prop} (h : TwAt K S H' v ks d nw) (k : ∀ a, nw a → nw' a) : TwAt K S H' v ks d nw' := by
  obtain ⟨l, p, kvs, y, h1, h2, h3, h4, r⟩ := h
  exact ⟨l, p, kvs, y, h1, h2, k _ h3, k _ h4, r⟩
def isOw : Slot → Bool
  | .ow _ => true
  | _ => false
/-- where a def stands: H0, S0 its entry (the heap; what of it is known), S, H now -/
structure Ok (K : PySem.W.Frag) (H0 S0 S H : Hp) (σ : St) (γ : Gm) : Prop where
  h0 : Ex H0 H
  s0 : Ex S0 S
  sh : Sub S H
  nw : ∀ b o, S b = some o → S0 b = none → H0 b = none
  len : σ.length = γ.length
  en : ∀ (i : Nat) (s : Slot), γ[i]? = some s → SlotOk K H0 S H σ i s
  ds : ∀ (i j : Nat) (d e : D) (l : Addr), γ[i]? = some (.ow d) → γ[j]? = some (.ow e) → σ[i]? = some (some (.ref l)) → σ[j]? = some (some (.ref l)) → i = j
theorem SlotOk.grow {K : PySem.W.Frag} {H0 S H S' H' : Hp} {σ : St} {i : Nat} {s : Slot} (h : SlotOk K H0 S H σ i s) (g : Gr S H S' H') : SlotOk K H0 S' H' σ i s := by
  cases s with
  | un => trivial
  | tw ks d => trivial
  | sh d => obtain ⟨v, e, h⟩ := h; exact ⟨v, e, h.ex g.ss⟩
  | ow d =>
    obtain ⟨l, e, h1, h2, h⟩ := h
    obtain ⟨o, ho⟩ := h.there
    exact ⟨l, e, g.out h1 ho, h2, h.mono g.ss fun o q => g.hh l o q⟩
theorem Ok.grow {K : PySem.W.Frag} {H0 S0 S H S' H' : Hp} {σ : St} {γ : Gm} (k : Ok K H0 S0 S H σ γ) (g : Gr S H S' H') (s : Sub S' H') : Ok K H0 S0 S' H' σ γ where
  h0 := Same.trans k.h0 g.hh
  s0 := Same.trans k.s0 g.ss
  sh := s
  nw := fun b o h n => by
    cases q : S b with
    | some u => exact k.nw b u q n
    | none => exact Ex.back k.h0 (g.nw b o h q)
  len := k.len
  en := fun i s h => (k.en i s h).grow g
  ds := k.ds

/-! ### results -/
def ResOk (K : PySem.W.Frag) (S' H H' : Hp) (v : V) : Slot → Prop
  | .un => True
  | .sh d => Dat K S' v d
  | .ow d => ∃ l, v = .ref l ∧ S' l = none ∧ H l = none ∧ OwnAt K S' H' l d
  | .tw ks d => TwAt K S' H' v ks d fun a => S' a = none ∧ H a = none
/-- what an expression comes to -/
def EvD (K : PySem.W.Frag) (te : TE) (γ : Gm) (r : Slot) : Prop := ∀ (H0 S0 S H : Hp) (σ : St), Ok K H0 S0 S H σ γ → ∀ Q : VK,
  (∀ v S' H', Gr S H S' H' → Sub S' H' → ResOk K S' H H' v r → Q v H') → te σ H Q
def EvT (K : PySem.W.Frag) (tt : TT) (γ : Gm) (b : Bool) : Prop := ∀ (H0 S0 S H : Hp) (σ : St), Ok K H0 S0 S H σ γ → ∀ Q : Bool → Hp → Prop,
  (∀ S' H', Gr S H S' H' → Sub S' H' → Q b H') → tt σ H Q
def EvA (K : PySem.W.Frag) (ta : TA) (γ : Gm) (ds : List D) : Prop := ∀ (H0 S0 S H : Hp) (σ : St), Ok K H0 S0 S H σ γ → ∀ Q : List V → Hp → Prop,
  (∀ vs S' H', Gr S H S' H' → Sub S' H' → Dats K S' vs ds → Q vs H') → ta σ H Q
section
variable {K : PySem.W.Frag} {te : TE} {γ : Gm} {r : Slot} {d : D}
/-- a new object may be shared -/
theorem ResOk.share {S' H H' : Hp} {v : V} (h : ResOk K S' H H' v (.ow d)) (s : Sub S' H') {S : Hp} (g : Gr S H S' H') : ∃ S2, Gr S H S2 H' ∧ Sub S2 H' ∧ Dat K S2 v d := by
  obtain ⟨l, rfl, h1, h2, h⟩ := h
  obtain ⟨o, ho, a, b, c⟩ := h.froze s h1
  refine ⟨upd S' l o, ⟨Same.trans g.ss b, g.hh, fun b u q n => ?_⟩, a, c⟩
  by_cases e : b = l
  · subst e; exact h2
  · rw [upd_ne e] at q; exact g.nw b u q n
theorem EvD.share (h : EvD K te γ (.ow d)) : EvD K te γ (.sh d) := fun H0 S0 S H σ k Q q => h H0 S0 S H σ k Q fun v S' H' g s r => by
  obtain ⟨S2, g2, s2, x⟩ := r.share s g
  exact q v S2 H' g2 s2 x
theorem EvD.drop (h : EvD K te γ r) : EvD K te γ .un := fun H0 S0 S H σ k Q q => h H0 S0 S H σ k Q fun v S' H' g s _ => q v S' H' g s trivial
end
end Wd
set_option Elab.async false
set_option linter.all false
set_option maxRecDepth 100000
set_option maxHeartbeats 1000000
/-! Rules over data: judgements of a family of contexts (a def's body; a comprehension's blocks). -/
namespace Wd
open PySem PySem.Spec L2
open PyProof.Rows hiding St

structure Fx {ι : Type} (Xs : ι → Cx) (P : Program) (w : World) (K : PySem.W.Frag) (mg : Str → Option Value) (base : Heap) (N : List Str) (k : Nat) : Prop where
  hP : ∀ i, (Xs i).prog = P
  hw : ∀ i, (Xs i).w = w
  hK : ∀ i, (Xs i).K = K
  hmg : ∀ i, (Xs i).mg = mg
  hb : ∀ i, (Xs i).base = base
  hN : ∀ i, (Xs i).N = N
  nd : N.Nodup
  calm : ∀ i, (Xs i).calm = true
  room : ∀ i, Room k (Xs i).A

section
variable {ι : Type} (Xs : ι → Cx)
def anyE (e : Expr) : TE := fun σ H Q => ∃ t, (∀ i, PE (Xs i) e t) ∧ t σ H Q
def anyT (e : Expr) : TT := fun σ H Q => ∃ t, (∀ i, PT (Xs i) e t) ∧ t σ H Q
def anyA (es : List Expr) : TA := fun σ H Q => ∃ t, (∀ i, PA (Xs i) es t) ∧ t σ H Q
def anyG (e : Expr) : TG := fun v σ H Q => ∃ t, (∀ i, PG (Xs i) e t) ∧ t v σ H Q
def anyS (s : Stmt) : TS := fun D σ H => ∃ t, (∀ i, PS (Xs i) s t) ∧ t D σ H
def anySs (s : List Stmt) : TS := fun D σ H => ∃ t, (∀ i, PSs (Xs i) s t) ∧ t D σ H
end
section
variable {ι : Type} {Xs : ι → Cx}
theorem pe_any (e : Expr) (i : ι) : PE (Xs i) e (anyE Xs e) := ⟨fun pins s σ H Q I ⟨t, h, q⟩ => (h i).run pins s σ H Q I q⟩
theorem pt_any (e : Expr) (i : ι) : PT (Xs i) e (anyT Xs e) := ⟨fun pins s σ H Q I ⟨t, h, q⟩ => (h i).run pins s σ H Q I q⟩
theorem pa_any (e : List Expr) (i : ι) : PA (Xs i) e (anyA Xs e) := ⟨fun pos pins s σ H Q I ⟨t, h, q⟩ => (h i).run pos pins s σ H Q I q⟩
theorem pg_any (e : Expr) (i : ι) : PG (Xs i) e (anyG Xs e) := ⟨fun pins s σ H v u Q I r ⟨t, h, q⟩ => (h i).run pins s σ H v u Q I r q⟩
theorem ps_any (e : Stmt) (i : ι) : PS (Xs i) e (anyS Xs e) := ⟨fun pins s σ H D I ⟨t, h, q⟩ => (h i).run pins s σ H D I q⟩
theorem pss_any (e : List Stmt) (i : ι) : PSs (Xs i) e (anySs Xs e) := ⟨fun pins s σ H D I ⟨t, h, q⟩ => (h i).run pins s σ H D I q⟩
end

def PED (K : PySem.W.Frag) {ι : Type} (Xs : ι → Cx) (e : Expr) (γ : Gm) (r : Slot) : Prop := EvD K (anyE Xs e) γ r
def PTD (K : PySem.W.Frag) {ι : Type} (Xs : ι → Cx) (e : Expr) (γ : Gm) (b : Bool) : Prop := EvT K (anyT Xs e) γ b
def PAD (K : PySem.W.Frag) {ι : Type} (Xs : ι → Cx) (es : List Expr) (γ : Gm) (ds : List D) : Prop := EvA K (anyA Xs es) γ ds
/-- two values of such data come to such a result -/
def RD (K : PySem.W.Frag) (r : R2) (d1 d2 : D) (rs : Slot) : Prop := ∀ (S H : Hp) (x y : V), Sub S H → Dat K S x d1 → Dat K S y d2 → ∀ Q : VK,
  (∀ v S' H', Gr S H S' H' → Sub S' H' → ResOk K S' H H' v rs → Q v H') → r x y H Q
def RU (K : PySem.W.Frag) (r : V → Hp → VK → Prop) (d1 : D) (rs : Slot) : Prop := ∀ (S H : Hp) (x : V), Sub S H → Dat K S x d1 → ∀ Q : VK,
  (∀ v S' H', Gr S H S' H' → Sub S' H' → ResOk K S' H H' v rs → Q v H') → r x H Q
def RC (K : PySem.W.Frag) (r : List V → Hp → VK → Prop) (ds : List D) (rs : Slot) : Prop := ∀ (S H : Hp) (xs : List V), Sub S H → Dats K S xs ds → ∀ Q : VK,
  (∀ v S' H', Gr S H S' H' → Sub S' H' → ResOk K S' H H' v rs → Q v H') → r xs H Q

section
variable {K : PySem.W.Frag} {S S' H H1 H' : Hp} {v : V} {d d1 d2 : D} {rs : Slot} {γ : Gm} {p : Addr} {o : HO}
theorem ResOk.back (h : ResOk K S' H1 H' v rs) (e : Ex H H1) : ResOk K S' H H' v rs := by
  cases rs with
  | un => trivial
  | sh d => exact h
  | ow d => obtain ⟨l, a, b, c, z⟩ := h; exact ⟨l, a, b, Ex.back e c, z⟩
  | tw ks d => exact TwAt.mono h fun a z => ⟨z.1, Ex.back e z.2⟩
theorem Sub.out (s : Sub S H) (h : H p = none) : S p = none := by
  cases q : S p with
  | none => rfl
  | some o =>
    rcases s p o q with z | ⟨ob, z, _⟩ <;> (rw [h] at z; cases z)
/-- a new object that the def alone holds -/
theorem new_ow (s : Sub S H) (hp : H p = none) (ho : OwnAt K S (upd H p o) p d) {Q : VK} (q : ∀ v S' H', Gr S H S' H' → Sub S' H' → ResOk K S' H H' v (.ow d) → Q v H') : Q (.ref p) (upd H p o) :=
  q _ S _ ⟨Same.refl _, Ex.new hp, fun b u h n => by rw [n] at h; cases h⟩ (s.ex (Ex.new hp)) ⟨p, rfl, s.out hp, hp, ho⟩
/-- a new object that stays -/
theorem new_sh (s : Sub S H) (hp : H p = none) (ho : Dat K (upd S p o) (.ref p) d) {Q : VK} (q : ∀ v S' H', Gr S H S' H' → Sub S' H' → ResOk K S' H H' v (.sh d) → Q v H') : Q (.ref p) (upd H p o) :=
  q _ (upd S p o) _ ⟨Ex.new (s.out hp), Ex.new hp, fun b u h n => by
    by_cases e : b = p
    · subst e; exact hp
    · rw [upd_ne e, n] at h; cases h⟩ s.upd ho
theorem new_tup (s : Sub S H) {xs : List V} {ds : List D} (hp : H p = none) (hd : Dats K S xs ds) {Q : VK} (q : ∀ v S' H', Gr S H S' H' → Sub S' H' → ResOk K S' H H' v (.sh (.tup ds)) → Q v H') : Q (.ref p) (upd H p (.tup xs)) :=
  new_sh s hp (.tup upd_same (hd.ex (Ex.new (s.out hp)))) q
theorem new_lst (s : Sub S H) {xs : List V} {ds : List D} (hp : H p = none) (hd : Dats K S xs ds) {Q : VK} (q : ∀ v S' H', Gr S H S' H' → Sub S' H' → ResOk K S' H H' v (.ow (.lst ds)) → Q v H') : Q (.ref p) (upd H p (.lst xs)) :=
  new_ow (d := .lst ds) s hp (show OwnAt K S (upd H p (.lst xs)) p (.lst ds) from ⟨xs, upd_same, hd⟩) q
/-- nothing is made -/
theorem here (s : Sub S H) (h : Dat K S v d) {Q : VK} (q : ∀ v S' H', Gr S H S' H' → Sub S' H' → ResOk K S' H H' v (.sh d) → Q v H') : Q v H := q v S H (Gr.refl _ _) s h
end

/-! ### combination -/
section
variable {K : PySem.W.Frag} {ta tb te : TE} {tl : TA} {tt tu : TT} {γ : Gm} {d d1 d2 : D} {ds : List D} {rs : Slot} {r : R2} {b c : Bool}
theorem evd_op (ha : EvD K ta γ (.sh d1)) (hb : EvD K tb γ (.sh d2)) (hr : RD K r d1 d2 rs) : EvD K (tOp r ta tb) γ rs := fun H0 S0 S H σ k Q q =>
  ha _ _ _ _ σ k _ fun x S1 H1 g1 s1 r1 => hb _ _ _ _ σ (k.grow g1 s1) _ fun y S2 H2 g2 s2 r2 =>
    hr S2 H2 x y s2 (Dat.ex g2.ss r1) r2 Q fun v S3 H3 g3 s3 r3 => q v S3 H3 ((g1.trans g2).trans g3) s3 (r3.back (g1.trans g2).hh)
theorem evd_un {r : V → Hp → VK → Prop} (ha : EvD K ta γ (.sh d1)) (hr : RU K r d1 rs) : EvD K (tUn r ta) γ rs := fun H0 S0 S H σ k Q q =>
  ha _ _ _ _ σ k _ fun x S1 H1 g1 s1 r1 => hr S1 H1 x s1 r1 Q fun v S3 H3 g3 s3 r3 => q v S3 H3 (g1.trans g3) s3 (r3.back g1.hh)
theorem evd_cb {r : List V → Hp → VK → Prop} (ha : EvA K tl γ ds) (hr : RC K r ds rs) : EvD K (tCB r tl) γ rs := fun H0 S0 S H σ k Q q =>
  ha _ _ _ _ σ k _ fun x S1 H1 g1 s1 r1 => hr S1 H1 x s1 r1 Q fun v S3 H3 g3 s3 r3 => q v S3 H3 (g1.trans g3) s3 (r3.back g1.hh)
theorem evd_c {v : V} (h : ∀ S, Dat K S v d) : EvD K (tC v) γ (.sh d) := fun H0 S0 S H σ k Q q => q v S H (Gr.refl _ _) k.sh (h S)
theorem eva_nil : EvA K tNil γ [] := fun H0 S0 S H σ k Q q => q [] S H (Gr.refl _ _) k.sh .nil
theorem eva_cons (ha : EvD K ta γ (.sh d)) (hb : EvA K tl γ ds) : EvA K (tCons ta tl) γ (d :: ds) := fun H0 S0 S H σ k Q q =>
  ha _ _ _ _ σ k _ fun x S1 H1 g1 s1 r1 => hb _ _ _ _ σ (k.grow g1 s1) _ fun xs S2 H2 g2 s2 r2 => q (x :: xs) S2 H2 (g1.trans g2) s2 (.cons (Dat.ex g2.ss r1) r2)
theorem evt_test (ha : EvD K ta γ (.sh (.bl b))) : EvT K (tTest ta) γ b := fun H0 S0 S H σ k Q q => ha _ _ _ _ σ k _ fun x S1 H1 g1 s1 r1 => by
  cases r1; exact ⟨b, rfl, q S1 H1 g1 s1⟩
theorem evt_B (ha : EvD K ta γ (.sh (.bl b))) : EvT K (tB ta) γ b := fun H0 S0 S H σ k Q q => ha _ _ _ _ σ k _ fun x S1 H1 g1 s1 r1 => by
  cases r1; exact ⟨b, rfl, q S1 H1 g1 s1⟩
theorem evt_not (ha : EvT K tt γ b) : EvT K (tNot tt) γ (!b) := fun H0 S0 S H σ k Q q => ha _ _ _ _ σ k _ fun S1 H1 g1 s1 => q S1 H1 g1 s1
theorem evt_and (ha : EvT K tt γ b) (hb : b = true → EvT K tu γ c) : EvT K (tAnd tt tu) γ (b && c) := fun H0 S0 S H σ k Q q => ha _ _ _ _ σ k _ fun S1 H1 g1 s1 => by
  cases b with
  | true => exact iteT (hb rfl _ _ _ _ σ (k.grow g1 s1) _ fun S2 H2 g2 s2 => q S2 H2 (g1.trans g2) s2)
  | false => exact iteF (q S1 H1 g1 s1)
theorem evt_or (ha : EvT K tt γ b) (hb : b = false → EvT K tu γ c) : EvT K (tOr tt tu) γ (b || c) := fun H0 S0 S H σ k Q q => ha _ _ _ _ σ k _ fun S1 H1 g1 s1 => by
  cases b with
  | true => exact iteT (q S1 H1 g1 s1)
  | false => exact iteF (hb rfl _ _ _ _ σ (k.grow g1 s1) _ fun S2 H2 g2 s2 => q S2 H2 (g1.trans g2) s2)
theorem evd_if (ha : EvT K tt γ b) (h1 : b = true → EvD K ta γ rs) (h2 : b = false → EvD K tb γ rs) : EvD K (tIf tt ta tb) γ rs := fun H0 S0 S H σ k Q q => ha _ _ _ _ σ k _ fun S1 H1 g1 s1 => by
  cases b with
  | true => exact iteT (h1 rfl _ _ _ _ σ (k.grow g1 s1) _ fun v S2 H2 g2 s2 r => q v S2 H2 (g1.trans g2) s2 (r.back g1.hh))
  | false => exact iteF (h2 rfl _ _ _ _ σ (k.grow g1 s1) _ fun v S2 H2 g2 s2 r => q v S2 H2 (g1.trans g2) s2 (r.back g1.hh))
theorem evd_andV (ha : EvD K ta γ (.sh (.bl b))) (hb : b = true → EvD K tb γ (.sh (.bl c))) : EvD K (tAndV ta tb) γ (.sh (.bl (b && c))) := fun H0 S0 S H σ k Q q => ha _ _ _ _ σ k _ fun x S1 H1 g1 s1 r1 => by
  cases r1
  refine ⟨b, rfl, ?_⟩
  cases b with
  | true => exact iteT (hb rfl _ _ _ _ σ (k.grow g1 s1) _ fun v S2 H2 g2 s2 r => q v S2 H2 (g1.trans g2) s2 r)
  | false => exact iteF (q _ S1 H1 g1 s1 .bl)
theorem evd_orV (ha : EvD K ta γ (.sh (.bl b))) (hb : b = false → EvD K tb γ (.sh (.bl c))) : EvD K (tOrV ta tb) γ (.sh (.bl (b || c))) := fun H0 S0 S H σ k Q q => ha _ _ _ _ σ k _ fun x S1 H1 g1 s1 r1 => by
  cases r1
  refine ⟨b, rfl, ?_⟩
  cases b with
  | true => exact iteT (q _ S1 H1 g1 s1 .bl)
  | false => exact iteF (hb rfl _ _ _ _ σ (k.grow g1 s1) _ fun v S2 H2 g2 s2 r => q v S2 H2 (g1.trans g2) s2 r)
theorem evd_tup (ha : EvA K tl γ ds) (hl : ds.length ≤ sizeLine) : EvD K (tTup tl) γ (.sh (.tup ds)) := fun H0 S0 S H σ k Q q => ha _ _ _ _ σ k _ fun xs S1 H1 g1 s1 r1 =>
  ⟨by rw [r1.length]; exact hl, fun p hp => new_tup s1 hp r1 (Q := Q) fun v S' H' g s r => q v S' H' (g1.trans g) s (r.back g1.hh)⟩
theorem evd_lst (ha : EvA K tl γ ds) (hl : ds.length ≤ sizeLine) : EvD K (tLst tl) γ (.ow (.lst ds)) := fun H0 S0 S H σ k Q q => ha _ _ _ _ σ k _ fun xs S1 H1 g1 s1 r1 =>
  ⟨by rw [r1.length]; exact hl, fun p hp => new_lst s1 hp r1 (Q := Q) fun v S' H' g s r => q v S' H' (g1.trans g) s (r.back g1.hh)⟩
end

/-! ### expressions -/
section
variable {ι : Type} {Xs : ι → Cx} {P : Program} {w : World} {K : PySem.W.Frag} {mg : Str → Option Value} {base : Heap} {N : List Str} {k : Nat} {γ : Gm} {d d1 d2 : D} {ds : List D} {rs : Slot} {e a b c : Expr} {es : List Expr} {pos : Pos} {x : Str} {tv tw : Bool}
theorem PED.of {t : TE} (h : ∀ i, PE (Xs i) e t) (ev : EvD K t γ rs) : PED K Xs e γ rs := fun H0 S0 S H σ k Q q => ⟨t, h, ev H0 S0 S H σ k Q q⟩
theorem PTD.of {t : TT} (h : ∀ i, PT (Xs i) e t) (ev : EvT K t γ tv) : PTD K Xs e γ tv := fun H0 S0 S H σ k Q q => ⟨t, h, ev H0 S0 S H σ k Q q⟩
theorem PAD.of {t : TA} (h : ∀ i, PA (Xs i) es t) (ev : EvA K t γ ds) : PAD K Xs es γ ds := fun H0 S0 S H σ k Q q => ⟨t, h, ev H0 S0 S H σ k Q q⟩
theorem PED.share (h : PED K Xs e γ (.ow d)) : PED K Xs e γ (.sh d) := EvD.share h
theorem pd_var (fx : Fx Xs P w K mg base N k) (i : Nat) (hN : N[i]? = some x := by rfl) (hg : γ[i]? = some (.sh d) := by rfl) (hv : ∀ j, Vis (Xs j).env.scope x := by first | exact fun _ => Or.inl rfl | exact fun _ => Or.inr (Or.inl rfl) | exact fun _ => Or.inr (Or.inr rfl))
    (hd : (x == ("__debug__" : Str)) = false := by decide) (hcd : (x == ("__classdict__" : Str)) = false := by decide) : PED K Xs (.Name x pos) γ (.sh d) :=
  .of (fun j => pe_var (by rw [fx.hN]; exact hN) (hv j) hd hcd) fun H0 S0 S H σ k Q q => by
    obtain ⟨v, e, h⟩ := k.en i _ hg
    exact ⟨v, e, q v S H (Gr.refl _ _) k.sh h⟩
theorem pd_int {i : Int} {j} : PED K Xs (.Constant (.int i) j pos) γ (.sh (.int i)) := .of (fun _ => pe_int) (evd_c fun _ => .int)
theorem pd_str {z : Str} {j} : PED K Xs (.Constant (.str z) j pos) γ (.sh (.str z)) := .of (fun _ => pe_str) (evd_c fun _ => .str)
theorem pd_bl {z : Bool} {j} : PED K Xs (.Constant (.bool z) j pos) γ (.sh (.bl z)) := .of (fun _ => pe_bl) (evd_c fun _ => .bl)
theorem pd_non {j} : PED K Xs (.Constant .none j pos) γ (.sh .non) := .of (fun _ => pe_non) (evd_c fun _ => .non)
theorem pd_op {op : Operator} {r : R2} (ho : ∀ i, OpR (Xs i) (binaryOp op) r) (ha : PED K Xs a γ (.sh d1)) (hb : PED K Xs b γ (.sh d2)) (hr : RD K r d1 d2 rs) : PED K Xs (.BinOp a op b pos) γ rs :=
  .of (fun i => pe_op (ho i) (pe_any a i) (pe_any b i)) (evd_op ha hb hr)
theorem pd_un {op : UnaryOp} {r : V → Hp → VK → Prop} (ho : ∀ i, UnR (Xs i) (unaryOp op) r) (ha : PED K Xs a γ (.sh d1)) (hr : RU K r d1 rs) : PED K Xs (.UnaryOp op a pos) γ rs :=
  .of (fun i => pe_un (ho i) (pe_any a i)) (evd_un ha hr)
theorem pd_cmp {op : CmpOp} {r : R2} (ho : ∀ i, OpR (Xs i) (compareOp op) r) (hm : behindInMarks op b = false) (ha : PED K Xs a γ (.sh d1)) (hb : PED K Xs b γ (.sh d2)) (hr : RD K r d1 d2 rs) : PED K Xs (.Compare a [op] [b] pos) γ rs :=
  .of (fun i => pe_cmpR (ho i) (pe_any a i) (pe_any b i) hm) (evd_op ha hb hr)
theorem ptd_cmp {op : CmpOp} {r : R2} (ho : ∀ i, OpR (Xs i) (compareOp op) r) (hm : behindInMarks op b = false) (ha : PED K Xs a γ (.sh d1)) (hb : PED K Xs b γ (.sh d2)) (hr : RD K r d1 d2 (.sh (.bl tv))) : PTD K Xs (.Compare a [op] [b] pos) γ tv :=
  .of (fun i => pt_cmpR (ho i) (pe_any a i) (pe_any b i) hm) (evt_test (evd_op ha hb hr))
theorem pad_nil : PAD K Xs [] γ [] := .of (fun _ => pa_nil) eva_nil
theorem pad_cons (ha : PED K Xs e γ (.sh d)) (hr : PAD K Xs es γ ds) (hs : ∀ i, starEach (e :: es) (Xs i).env = (false, eval e (Xs i).env) :: starEach es (Xs i).env := by exact fun _ => rfl) : PAD K Xs (e :: es) γ (d :: ds) :=
  .of (fun i => pa_cons (pe_any e i) (pa_any es i) (hs i)) (eva_cons ha hr)
end
end Wd
set_option Elab.async false
set_option linter.all false
set_option maxRecDepth 100000
set_option maxHeartbeats 1000000
/-! Operators, comparisons, subscripts, displays, fields over data. -/
namespace Wd
open PySem PySem.Spec L2
open PyProof.Rows hiding St

theorem OpR.or {X : Cx} {f : Value → Value → Sem Value} {r r' : R2} (h : OpR X f r) (h' : OpR X f r') : OpR X f (fun x y H Q => r x y H Q ∨ r' x y H Q) := fun pins s σ H x y v u Q I rx ry q =>
  q.elim (fun q => h pins s σ H x y v u Q I rx ry q) fun q => h' pins s σ H x y v u Q I rx ry q
theorem pe_or2 {X : Cx} {e : Expr} {t u : TE} (h : PE X e t) (h' : PE X e u) : PE X e (fun σ H Q => t σ H Q ∨ u σ H Q) := ⟨fun pins s σ H Q I q => q.elim (fun q => h.run pins s σ H Q I q) fun q => h'.run pins s σ H Q I q⟩

/-! ### data: keys, look-ups -/
def keyD : Key → D
  | .inl i => .int i
  | .inr x => .str x
def getK {κ α : Type} [DecidableEq κ] : List (κ × α) → κ → Option α
  | [], _ => none
  | p :: r, k => if p.1 = k then some p.2 else getK r k
def putG {κ α : Type} [DecidableEq κ] : List (κ × α) → κ → α → List (κ × α)
  | [], k, v => [(k, v)]
  | p :: r, k, v => if p.1 = k then (k, v) :: r else p :: putG r k v
section
variable {κ α : Type} [DecidableEq κ]
theorem getK_put (l : List (κ × α)) (k j : κ) (v : α) : getK (putG l k v) j = if k = j then some v else getK l j := by
  induction l with
  | nil => simp [putG, getK]
  | cons p r ih =>
    unfold putG
    by_cases e : p.1 = k
    · rw [if_pos e]
      unfold getK
      by_cases h : k = j
      · simp [h]
      · simp [h, e]
    · rw [if_neg e]
      unfold getK
      by_cases h : p.1 = j
      · rw [if_pos h, if_pos h, if_neg (fun z => e (h.trans z.symm))]
      · rw [if_neg h, if_neg h, ih]
theorem keys_put (l : List (κ × α)) (k : κ) (v : α) : (putG l k v).map (·.1) = if k ∈ l.map (·.1) then l.map (·.1) else l.map (·.1) ++ [k] := by
  induction l with
  | nil => simp [putG]
  | cons p r ih =>
    unfold putG
    by_cases e : p.1 = k
    · rw [if_pos e]; simp [e]
    · rw [if_neg e, List.map_cons, ih]
      by_cases h : k ∈ r.map (·.1)
      · rw [if_pos h, if_pos (by rw [List.map_cons]; exact List.mem_cons_of_mem _ h)]; rfl
      · rw [if_neg h, if_neg (by rw [List.map_cons, List.mem_cons]; exact fun z => z.elim (fun z => e z.symm) h)]; rfl
end
section
variable {K : PySem.W.Frag} {S H : Hp} {κ : Type} [DecidableEq κ]
theorem getV_of : ∀ {kvs : List (κ × V)} {ds : List (κ × D)} {k : κ} {d : D}, kvs.map (·.1) = ds.map (·.1) → Dats K S (kvs.map (·.2)) (ds.map (·.2)) → getK ds k = some d → ∃ v, valV kvs k = some v ∧ Dat K S v d
  | [], [], _, _, _, _, h => nomatch h
  | [], _ :: _, _, _, h, _, _ => nomatch h
  | _ :: _, [], _, _, h, _, _ => nomatch h
  | (a, v) :: kvs, (b, e) :: ds, k, d, h, t, g => by
    have h1 : a = b := (List.cons.inj h).1
    have h2 := (List.cons.inj h).2
    cases t with
    | cons t1 t2 =>
      unfold getK at g
      by_cases c : b = k
      · rw [if_pos c] at g; cases g
        exact ⟨v, valV_pos (p := (a, v)) (h1.trans c), t1⟩
      · rw [if_neg c] at g
        obtain ⟨x, hx, hd⟩ := getV_of h2 t2 g
        exact ⟨x, (valV_neg (p := (a, v)) (fun z => c (h1.symm.trans z))).trans hx, hd⟩
theorem getV_none : ∀ {kvs : List (κ × V)} {ds : List (κ × D)} {k : κ}, kvs.map (·.1) = ds.map (·.1) → getK ds k = none → valV kvs k = none
  | [], [], _, _, _ => rfl
  | [], _ :: _, _, h, _ => nomatch h
  | _ :: _, [], _, h, _ => nomatch h
  | (a, v) :: kvs, (b, e) :: ds, k, h, g => by
    have h1 : a = b := (List.cons.inj h).1
    have h2 := (List.cons.inj h).2
    unfold getK at g
    by_cases c : b = k
    · rw [if_pos c] at g; cases g
    · rw [if_neg c] at g
      exact (valV_neg (p := (a, v)) (fun z => c (h1.symm.trans z))).trans (getV_none h2 g)
theorem getV_isSome {kvs : List (κ × V)} {ds : List (κ × D)} {k : κ} (h : kvs.map (·.1) = ds.map (·.1)) (t : Dats K S (kvs.map (·.2)) (ds.map (·.2))) : (valV kvs k).isSome = (getK ds k).isSome := by
  cases e : getK ds k with
  | none => rw [getV_none h e]; rfl
  | some d => obtain ⟨v, hv, _⟩ := getV_of h t e; rw [hv]; rfl
/-- putK and putG: the same where no key stands twice -/
theorem putV_of : ∀ {kvs : List (κ × V)} {ds : List (κ × D)} {k : κ} {v : V} {d : D}, kvs.map (·.1) = ds.map (·.1) → (ds.map (·.1)).Nodup → Dats K S (kvs.map (·.2)) (ds.map (·.2)) → Dat K S v d →
    (putK kvs k v).map (·.1) = (putG ds k d).map (·.1) ∧ Dats K S ((putK kvs k v).map (·.2)) ((putG ds k d).map (·.2)) := by
  intro kvs ds k v d h nd t hv
  by_cases hk : k ∈ ds.map (·.1)
  · have e : putK kvs k v = kvs.map (fun kv => if kv.1 = k then (kv.1, v) else kv) := by
      unfold putK
      rw [if_pos]
      rw [List.any_eq_true]
      rw [← h] at hk
      obtain ⟨p, hp, e⟩ := List.mem_map.mp hk
      exact ⟨p, hp, decide_eq_true e⟩
    rw [e]
    clear e
    induction kvs generalizing ds with
    | nil =>
      cases ds with
      | nil => cases hk
      | cons p r => cases h
    | cons p kvs ih =>
      cases ds with
      | nil => cases h
      | cons q ds =>
        obtain ⟨a, x⟩ := p
        obtain ⟨b, y⟩ := q
        have h1 : a = b := (List.cons.inj h).1
        have h2 := (List.cons.inj h).2
        have nd2 : b ∉ ds.map (·.1) ∧ (ds.map (·.1)).Nodup := List.nodup_cons.mp nd
        cases t with
        | cons t1 t2 =>
          subst h1
          unfold putG
          rw [List.map_cons]
          by_cases c : a = k
          · subst c
            simp only [if_true]
            have e2 : kvs.map (fun kv => if kv.1 = a then (kv.1, v) else kv) = kvs := by
              have : ∀ p ∈ kvs, (if p.1 = a then (p.1, v) else p) = p := fun p hp => if_neg fun z => nd2.1 (by rw [← h2, ← z]; exact List.mem_map_of_mem hp)
              rw [List.map_congr_left this]; simp
            rw [e2]
            exact ⟨by simp only [List.map_cons]; rw [h2], .cons hv t2⟩
          · simp only [if_neg c]
            have hk2 : k ∈ ds.map (·.1) := by
              rcases List.mem_cons.mp hk with z | z
              · exact absurd z.symm c
              · exact z
            obtain ⟨i1, i2⟩ := ih h2 nd2.2 t2 hk2
            exact ⟨by simp only [List.map_cons]; rw [i1], .cons t1 i2⟩
  · have e : putK kvs k v = kvs ++ [(k, v)] := by
      unfold putK
      rw [if_neg]
      rw [List.any_eq_true]
      rintro ⟨p, hp, e⟩
      exact hk (by rw [← h, ← of_decide_eq_true e]; exact List.mem_map_of_mem hp)
    have e2 : ∀ ds : List (κ × D), k ∉ ds.map (·.1) → putG ds k d = ds ++ [(k, d)] := by
      intro ds
      induction ds with
      | nil => intro _; rfl
      | cons p r ih =>
        intro hn
        unfold putG
        rw [if_neg (fun z => hn (by rw [List.map_cons, z]; exact List.mem_cons_self)), ih (fun z => hn (by rw [List.map_cons]; exact List.mem_cons_of_mem _ z))]
        rfl
    rw [e, e2 ds hk]
    exact ⟨by rw [List.map_append, List.map_append, h]; rfl, by rw [List.map_append, List.map_append]; exact t.snoc hv⟩
end

/-! ### + -/
inductive AddD : D → D → Slot → Prop
  | int {i j} : AddD (.int i) (.int j) (.sh (.int (i + j)))
  | str {x y} : x.length + y.length ≤ sizeLine → AddD (.str x) (.str y) (.sh (.str (x ++ y)))
  | lst {x y} : x.length + y.length ≤ sizeLine → AddD (.lst x) (.lst y) (.ow (.lst (x ++ y)))
  | tup {x y} : x.length + y.length ≤ sizeLine → AddD (.tup x) (.tup y) (.sh (.tup (x ++ y)))
def rAddU (K : PySem.W.Frag) : R2 := fun x y H Q => rI0 (fun i j => .int (i + j)) x y H Q ∨ (fun x y H Q => (fun x y H Q => ∃ i j, x = .str i ∧ y = .str j ∧ i.length + j.length ≤ sizeLine ∧ Q (.str (i ++ j)) H : R2) x y H Q ∨ (fun x y H Q => rCat x y H Q ∨ rCatA K x y H Q : R2) x y H Q : R2) x y H Q
theorem op_addU {X : Cx} : OpR X (binaryOp .Add) (rAddU X.K) := OpR.or op_add (OpR.or op_add_str (OpR.or op_cat op_catA))
theorem rd_add {K : PySem.W.Frag} {d1 d2 : D} {rs : Slot} (h : AddD d1 d2 rs) : RD K (rAddU K) d1 d2 rs := by
  intro S H x y s h1 h2 Q q
  cases h with
  | int => cases h1; cases h2; exact .inl ⟨_, _, rfl, rfl, here s .int q⟩
  | str hl => cases h1; cases h2; exact .inr (.inl ⟨_, _, rfl, rfl, hl, here s .str q⟩)
  | lst hl =>
    cases h1 with
    | lst a1 t1 =>
      cases h2 with
      | lst a2 t2 => exact .inr (.inr (.inl ⟨_, _, _, _, rfl, rfl, s.lst a1, s.lst a2, by rw [t1.length, t2.length]; exact hl, fun p hp => new_lst s hp (t1.append t2) q⟩))
  | tup hl =>
    cases h1 with
    | tup a1 t1 =>
      cases h2 with
      | tup a2 t2 =>
        refine .inr (.inr (.inr ⟨_, _, _, _, rfl, rfl, .of (s.tup a1), .of (s.tup a2), by rw [t1.length, t2.length]; exact hl, fun e => ?_, fun _ e => ?_, fun _ _ p hp => new_tup s hp (t1.append t2) q⟩))
        · subst e; cases t1; exact here s (.tup a2 t2) q
        · subst e; cases t2; rw [List.append_nil] at q; exact here s (.tup a1 t1) q
theorem rd_sub {K : PySem.W.Frag} {i j : Int} : RD K (rI0 fun i j => .int (i - j)) (.int i) (.int j) (.sh (.int (i - j))) := fun S H x y s h1 h2 Q q => by cases h1; cases h2; exact ⟨_, _, rfl, rfl, here s .int q⟩
theorem rd_mul {K : PySem.W.Frag} {i j : Int} (h : CMul i j) : RD K (rI CMul fun i j => .int (i * j)) (.int i) (.int j) (.sh (.int (i * j))) := fun S H x y s h1 h2 Q q => by cases h1; cases h2; exact ⟨_, _, rfl, rfl, h, here s .int q⟩
theorem rd_fdiv {K : PySem.W.Frag} {i j : Int} (h : CDiv i j) : RD K (rI CDiv fun i j => .int (i / j)) (.int i) (.int j) (.sh (.int (i / j))) := fun S H x y s h1 h2 Q q => by cases h1; cases h2; exact ⟨_, _, rfl, rfl, h, here s .int q⟩
theorem rd_fdivN {K : PySem.W.Frag} {i j : Int} (h : CDivN i j) : RD K (rI CDivN fun i j => .int (i.fdiv j)) (.int i) (.int j) (.sh (.int (i.fdiv j))) := fun S H x y s h1 h2 Q q => by cases h1; cases h2; exact ⟨_, _, rfl, rfl, h, here s .int q⟩
theorem rd_mod {K : PySem.W.Frag} {i j : Int} (h : 0 < j) : RD K (rI (fun _ j => 0 < j) fun i j => .int (i % j)) (.int i) (.int j) (.sh (.int (i % j))) := fun S H x y s h1 h2 Q q => by cases h1; cases h2; exact ⟨_, _, rfl, rfl, h, here s .int q⟩
theorem rd_pow {K : PySem.W.Frag} {i j : Int} (h : CPow i j) : RD K (rI CPow fun i j => .int (i ^ j.toNat)) (.int i) (.int j) (.sh (.int (i ^ j.toNat))) := fun S H x y s h1 h2 Q q => by cases h1; cases h2; exact ⟨_, _, rfl, rfl, h, here s .int q⟩

/-! ### comparisons -/
inductive CmpI : CmpOp → Int → Int → Bool → Prop
  | lt {i j} : CmpI .Lt i j (decide (i < j))
  | le {i j} : CmpI .LtE i j (decide (i ≤ j))
  | gt {i j} : CmpI .Gt i j (decide (j < i))
  | ge {i j} : CmpI .GtE i j (decide (j ≤ i))
/-- flat data as values -/
def dV : D → Option V
  | .non => some .non
  | .bl b => some (.bl b)
  | .int i => some (.int i)
  | .str x => some (.str x)
  | _ => none
theorem dV_of {K : PySem.W.Frag} {S : Hp} {v x : V} {d : D} (h : Dat K S v d) (e : dV d = some x) : v = x ∧ flatV x = true := by
  cases h <;> (first | (cases e; exact ⟨rfl, rfl⟩) | cases e)
theorem dVs_of {K : PySem.W.Frag} {S : Hp} : ∀ {vs xs : List V} {ds : List D}, Dats K S vs ds → ds.map dV = xs.map some → vs = xs ∧ xs.all flatV = true
  | _, [], _, .nil, _ => ⟨rfl, rfl⟩
  | _, _ :: _, _, .nil, e => nomatch e
  | _, [], _, .cons _ _, e => nomatch e
  | _, x :: xs, _, .cons h t, e => by
    rw [List.map_cons, List.map_cons] at e
    obtain ⟨e1, e2⟩ := List.cons.inj e
    obtain ⟨rfl, f⟩ := dV_of h e1
    obtain ⟨rfl, g⟩ := dVs_of t e2
    exact ⟨rfl, by rw [List.all_cons, f, g] <;> rfl⟩
/-- lists to be read -/
inductive IsL : D → List D → Prop
  | lst {ds} : IsL (.lst ds) ds
  | ro {ds} : IsL (.ro ds) ds
inductive IsT : D → List D → Prop
  | tup {ds} : IsT (.tup ds) ds
  | rot {ds} : IsT (.rot ds) ds
theorem isL_of {K : PySem.W.Frag} {S H : Hp} {v : V} {d : D} {ds : List D} (h : IsL d ds) (x : Dat K S v d) (s : Sub S H) : ∃ a xs, v = .ref a ∧ SqL K H a xs ∧ Dats K S xs ds := by
  cases h with
  | lst => cases x with | lst a t => exact ⟨_, _, rfl, SqL.of (s.lst a), t⟩
  | ro => cases x with | ro a t => exact ⟨_, _, rfl, s.seqL a, t⟩
theorem isT_of {K : PySem.W.Frag} {S H : Hp} {v : V} {d : D} {ds : List D} (h : IsT d ds) (x : Dat K S v d) (s : Sub S H) : ∃ a xs, v = .ref a ∧ SqT K H a xs ∧ Dats K S xs ds := by
  cases h with
  | tup => cases x with | tup a t => exact ⟨_, _, rfl, SqT.of (s.tup a), t⟩
  | rot => cases x with | rot a t => exact ⟨_, _, rfl, s.seqT a, t⟩

/-! ### a[b] -/
theorem atI_map {α β : Type} {xs : List α} {ys : List β} {i : Int} {y : β} (hl : xs.length = ys.length) (h : atI ys i = some y) : ∃ j : Nat, ys[j]? = some y ∧ ∀ x, xs[j]? = some x → atI xs i = some x := by
  unfold atI at h
  cases e : ixN ys.length i with
  | none => rw [e] at h; cases h
  | some j =>
    rw [e] at h
    exact ⟨j, h, fun x hx => by unfold atI; rw [hl, e]; exact hx⟩
inductive IxD : D → D → D → Prop
  | lst {c ds i d} : IsL c ds → atI ds i = some d → IxD c (.int i) d
  | tup {c ds i d} : IsT c ds → atI ds i = some d → IxD c (.int i) d
  | str {z : Str} {i c} : z.length ≤ sizeLine → atI z.cps.toList i = some c → IxD (.str z) (.int i) (.str ⟨#[c]⟩)
  | dki {ds i d} : getK ds (Sum.inl i : Key) = some d → IxD (.dk ds) (.int i) d
  | dks {ds x d} : getK ds (Sum.inr x : Key) = some d → IxD (.dk ds) (.str x) d
  | dt {ds ks d} {k : List Key} : ks = k.map keyD → getK ds k = some d → IxD (.dt ds) (.tup ks) d
theorem keys_of {K : PySem.W.Frag} {S : Hp} : ∀ {xs : List V} {k : List Key}, Dats K S xs (k.map keyD) → xs = k.map kV
  | [], [], _ => rfl
  | [], _ :: _, h => nomatch h
  | _ :: _, [], h => nomatch h
  | _ :: _, .inl i :: k, .cons h t => by cases h; rw [List.map_cons, keys_of t]; rfl
  | _ :: _, .inr i :: k, .cons h t => by cases h; rw [List.map_cons, keys_of t]; rfl
theorem kV_of {K : PySem.W.Frag} {S : Hp} {v : V} {k : Key} (h : Dat K S v (keyD k)) : v = kV k := by
  cases k <;> (cases h; rfl)
section
variable {ι : Type} {Xs : ι → Cx} {P : Program} {w : World} {K : PySem.W.Frag} {mg : Str → Option Value} {base : Heap} {N : List Str} {k : Nat} {γ : Gm} {d d1 d2 : D} {ds : List D} {rs : Slot} {e a b c : Expr} {es : List Expr} {pos : Pos} {x : Str} {tv tw : Bool}
theorem evd_or {t u : TE} (h : EvD K t γ rs ∨ EvD K u γ rs) : EvD K (fun σ H Q => t σ H Q ∨ u σ H Q) γ rs := fun H0 S0 S H σ k Q q => h.elim (fun h => .inl (h H0 S0 S H σ k Q q)) fun h => .inr (h H0 S0 S H σ k Q q)
theorem Fx.hu (fx : Fx Xs P w K mg base N k) (i : ι) : (Xs i).A.units + 1 < cLine := hu_of (fx.room i)
theorem Fx.hu64 (fx : Fx Xs P w K mg base N k) (i : ι) : (Xs i).A.units + 64 < cLine := (fx.room i).units
theorem pd_sub (fx : Fx Xs P w K mg base N k) (ha : PED K Xs a γ (.sh d1)) (hb : PED K Xs b γ (.sh d2)) (h : IxD d1 d2 d) (hs : PlainIx b := by exact fun _ _ => rfl) : PED K Xs (.Subscript a b pos) γ (.sh d) := by
  refine .of (t := fun σ H Q => tOp (rIx K) (anyE Xs a) (anyE Xs b) σ H Q ∨ tDGet (anyE Xs a) (anyE Xs b) σ H Q) (fun i => pe_or2 ?_ (pe_dget (fx.hu i) (pe_any a i) (pe_any b i) hs)) (evd_or ?_)
  · have z := pe_ix (pos := pos) (ix_seq (X := Xs i)) (pe_any a i) (pe_any b i) hs
    rw [fx.hK i] at z
    exact z
  · have dg : ∀ {y : V} {v : V} {S H : Hp} {p : Addr} {ob : HO}, True → True := fun _ => trivial
    cases h with
    | lst hl hi =>
      refine .inl (evd_op ha hb fun S H x y s h1 h2 Q q => .inl ?_)
      obtain ⟨p, xs, rfl, hq, t⟩ := isL_of hl h1 s
      cases h2
      obtain ⟨j, e1, e2⟩ := atI_map t.length hi
      obtain ⟨v, hv, hd⟩ := t.get e1
      exact ⟨p, xs, _, v, rfl, rfl, hq, e2 v hv, here s hd q⟩
    | tup hl hi =>
      refine .inl (evd_op ha hb fun S H x y s h1 h2 Q q => .inr (.inl ?_))
      obtain ⟨p, xs, rfl, hq, t⟩ := isT_of hl h1 s
      cases h2
      obtain ⟨j, e1, e2⟩ := atI_map t.length hi
      obtain ⟨v, hv, hd⟩ := t.get e1
      exact ⟨p, xs, _, v, rfl, rfl, hq, e2 v hv, here s hd q⟩
    | str hl hi =>
      refine .inl (evd_op ha hb fun S H x y s h1 h2 Q q => .inr (.inr ?_))
      cases h1; cases h2
      exact ⟨_, _, _, rfl, rfl, hl, hi, here s .str q⟩
    | dki hg =>
      refine .inr (show EvD K (tOp (fun x y H2 Q => ∃ a v, x = .ref a ∧ DGet H2 a y (some v) ∧ Q v H2) (anyE Xs a) (anyE Xs b)) γ (.sh d) from evd_op ha hb fun S H x y s h1 h2 Q q => ?_)
      cases h1 with
      | dk a1 k1 t1 =>
        cases h2
        obtain ⟨v, hv, hd⟩ := getV_of k1 t1 hg
        exact ⟨_, v, rfl, .inl ⟨_, _, s.rd (.inl a1), rfl, hv.symm⟩, here s hd q⟩
    | dks hg =>
      refine .inr (show EvD K (tOp (fun x y H2 Q => ∃ a v, x = .ref a ∧ DGet H2 a y (some v) ∧ Q v H2) (anyE Xs a) (anyE Xs b)) γ (.sh d) from evd_op ha hb fun S H x y s h1 h2 Q q => ?_)
      cases h1 with
      | dk a1 k1 t1 =>
        cases h2
        obtain ⟨v, hv, hd⟩ := getV_of k1 t1 hg
        exact ⟨_, v, rfl, .inl ⟨_, _, s.rd (.inl a1), rfl, hv.symm⟩, here s hd q⟩
    | dt hk hg =>
      refine .inr (show EvD K (tOp (fun x y H2 Q => ∃ a v, x = .ref a ∧ DGet H2 a y (some v) ∧ Q v H2) (anyE Xs a) (anyE Xs b)) γ (.sh d) from evd_op ha hb fun S H x y s h1 h2 Q q => ?_)
      cases h1 with
      | dt a1 k1 t1 =>
        subst hk
        cases h2 with
        | tup a2 t2 =>
          obtain ⟨v, hv, hd⟩ := getV_of k1 t1 hg
          have e2 := keys_of t2
          subst e2
          exact ⟨_, v, rfl, .inr ⟨_, _, _, s.rd (.inl a1), rfl, s.tup a2, hv.symm⟩, here s hd q⟩
end
end Wd
set_option Elab.async false
set_option linter.all false
set_option maxRecDepth 100000
set_option maxHeartbeats 1000000
/-! Calls, fields, built-ins over data. -/
namespace Wd
open PySem PySem.Spec L2
open PyProof.Rows hiding St

/-! ### promises -/
/-- a def's promise by data: P tells for which arguments, and what comes out -/
def spD (K : PySem.W.Frag) (Pr : List D → Slot → Prop) : Sp := fun vs H Q _ => ∃ (S : Hp) (ds : List D) (r : Slot), Sub S H ∧ Dats K S vs ds ∧ Pr ds r ∧ ∀ v S' H', Gr S H S' H' → Sub S' H' → ResOk K S' H H' v r → Q v H'
/-- the promise of an __init__: the new object's fields -/
def spI (K : PySem.W.Frag) (c : Str) (Pr : List D → List (Str × D) → Prop) : Sp := fun vs H Q _ => ∃ (S : Hp) (x dx : Addr) (us : List V) (ds : List D) (fs : List (Str × D)), vs = .ref x :: us ∧ Sub S H ∧ S x = none ∧ H x = some (.ins (He.ga K c) dx []) ∧ Dats K S us ds ∧ Pr ds fs ∧
  ∀ S' H', Ex S S' → (∀ b o, H b = some o → b ≠ x → H' b = some o) → (∀ b o, S' b = some o → S b = none → H b = none) → Sub S' H' → OwnAt K S' H' x (.obj c fs) → Q .non H'

section
variable {ι : Type} {Xs : ι → Cx} {P : Program} {w : World} {K : PySem.W.Frag} {mg : Str → Option Value} {base : Heap} {N : List Str} {k j : Nat} {γ : Gm} {d d1 d2 : D} {ds dd : List D} {rs : Slot} {e a b c o : Expr} {es : List Expr} {pos apos p : Pos} {x m : Str} {tv tw : Bool} {f : Addr} {fd : FuncData} {ps : List Str} {Pr : List D → Slot → Prop} {dvs : List V} {dus : List Value}
theorem Fx.fn (fx : Fx Xs P w K mg base N k) {sp : Sp} (G : FnOk P w K mg base (L2.CX P w) j f fd ps sp) (i : ι) : FnOk (Xs i).prog (Xs i).w (Xs i).K (Xs i).mg (Xs i).base (L2.CX (Xs i).prog (Xs i).w) j f fd ps sp := by
  rw [fx.hP i, fx.hw i, fx.hK i, fx.hmg i, fx.hb i]
  exact G
theorem Fx.binds (fx : Fx Xs P w K mg base N k) (B : Binds K fd ps dus) (i : ι) : Binds (Xs i).K fd ps dus := by rw [fx.hK i]; exact B
theorem evd_call {tl : TA} (ha : EvA K tl γ ds) (hd : ∀ S, Dats K S dvs dd) (h : Pr (ds ++ dd) rs) : EvD K (tCall (spD K Pr) dvs E0 tl) γ rs := fun H0 S0 S H σ k Q q =>
  ha _ _ _ _ σ k _ fun vs S1 H1 g1 s1 r1 => ⟨S1, ds ++ dd, rs, s1, r1.append (hd S1), h, fun v S2 H2 g2 s2 r2 => q v S2 H2 (g1.trans g2) s2 (r2.back g1.hh)⟩
/-- f(e, ..) -/
theorem pd_call (fx : Fx Xs P w K mg base N k) (G : FnOk P w K mg base (L2.CX P w) j f fd ps (spD K Pr)) (hm : mg x = some (.ref f)) (hk : PySem.W.keepIn K (.ref f) = true) (B : Binds K fd ps dus) (hv : Vals dvs dus) (hd : ∀ S, Dats K S dvs dd)
    (ha : PAD K Xs (e :: es) γ ds) (h : Pr (ds ++ dd) rs) (hj : j ≤ k := by decide) (hg : ∀ i, Gl (Xs i) x := by exact fun _ => rfl) (hdb : (x == ("__debug__" : Str)) = false := by decide)
    (he : ∀ i, starEach (e :: es) (Xs i).env = (false, eval e (Xs i).env) :: starEach es (Xs i).env := by exact fun _ => rfl) (hpl : ∀ i, (backTo pos (starEach es (Xs i).env)).any (·.1) = false := by exact fun _ => rfl) : PED K Xs (.Call (.Name x p) (e :: es) [] pos) γ rs :=
  .of (fun i => pe_call (fx.fn G i) ((fx.room i).mono hj) (hg i) (by rw [fx.hmg i]; exact hm) (by rw [fx.hK i]; exact hk) (fx.binds B i) hv passL (pa_any (e :: es) i) hdb (he i) (hpl i)) (evd_call ha hd h)
/-- f() -/
theorem pd_call0 (fx : Fx Xs P w K mg base N k) (G : FnOk P w K mg base (L2.CX P w) j f fd ps (spD K Pr)) (hm : mg x = some (.ref f)) (hk : PySem.W.keepIn K (.ref f) = true) (B : Binds K fd ps dus) (hv : Vals dvs dus) (hd : ∀ S, Dats K S dvs dd)
    (h : Pr dd rs) (hj : j ≤ k := by decide) (hg : ∀ i, Gl (Xs i) x := by exact fun _ => rfl) (hdb : (x == ("__debug__" : Str)) = false := by decide) : PED K Xs (.Call (.Name x p) [] [] pos) γ rs :=
  .of (fun i => pe_call0 (fx.fn G i) ((fx.room i).mono hj) (hg i) (by rw [fx.hmg i]; exact hm) (by rw [fx.hK i]; exact hk) (fx.binds B i) hv passL hdb) (evd_call (ds := []) eva_nil hd h)
theorem lookup_map {α β : Type} {f : Str} : ∀ {xs : List (Str × α)} {ys : List (Str × β)}, xs.map (·.1) = ys.map (·.1) → ys.lookup f = none → xs.lookup f = none
  | [], _, _, _ => rfl
  | _ :: _, [], h, _ => nomatch h
  | (a, u) :: xs, (b, v) :: ys, h, g => by
    have h1 : a = b := (List.cons.inj h).1
    have h2 := (List.cons.inj h).2
    subst h1
    unfold List.lookup at g ⊢
    cases e : f == a with
    | true => rw [e] at g; cases g
    | false => rw [e] at g; exact lookup_map h2 g
theorem lookup_dat {S : Hp} {f : Str} {d : D} : ∀ {xs : List (Str × V)} {ys : List (Str × D)}, xs.map (·.1) = ys.map (·.1) → Dats K S (xs.map (·.2)) (ys.map (·.2)) → ys.lookup f = some d → ∃ v, xs.lookup f = some v ∧ Dat K S v d
  | [], [], _, _, g => nomatch g
  | [], _ :: _, h, _, _ => nomatch h
  | _ :: _, [], h, _, _ => nomatch h
  | (a, u) :: xs, (b, v) :: ys, h, t, g => by
    have h1 : a = b := (List.cons.inj h).1
    have h2 := (List.cons.inj h).2
    subst h1
    cases t with
    | cons t1 t2 =>
      unfold List.lookup at g ⊢
      cases e : f == a with
      | true => rw [e] at g; cases g; exact ⟨u, rfl, t1⟩
      | false => rw [e] at g; exact lookup_dat h2 t2 g
/-- o.f -/
theorem pd_fld (fx : Fx Xs P w K mg base N k) {cn f : Str} {fs : List (Str × D)} (ho : PED K Xs o γ (.sh (.obj cn fs))) (hc : Cls K (He.ga K cn)) (hn : NoAttr K (He.ga K cn) f) (hl : fs.lookup f = some d)
    (hb : ∀ i, attributeBase o f (Xs i).env (eval o (Xs i).env) = eval o (Xs i).env := by exact fun _ => rfl) : PED K Xs (.Attribute o f pos) γ (.sh d) := by
  refine .of (t := tFld K (anyE Xs o) f) (fun i => ?_) fun H0 S0 S H σ k Q q => ho H0 S0 S H σ k _ fun v S1 H1 g1 s1 r1 => ?_
  · have z := pe_fld (pos := pos) (pe_any o i) (hb i)
    rw [fx.hK i] at z
    exact z
  · cases r1 with
    | obj a1 k1 t1 =>
      obtain ⟨v, hv, hd⟩ := lookup_dat k1 t1 hl
      exact ⟨_, _, _, _, v, rfl, s1.ins a1, hc, hn, hv, q v S1 H1 g1 s1 hd⟩
/-- o.m(e, ..), an own method -/
theorem pd_meth (fx : Fx Xs P w K mg base N k) {cn : Str} {fs : List (Str × D)} {pl : ι → Sem Bool} (ho : PED K Xs o γ (.sh (.obj cn fs))) (hc : Cls K (He.ga K cn)) (hm : Meth K (He.ga K cn) m f) (G : FnOk P w K mg base (L2.CX P w) j f fd ps (spD K Pr)) (B : Binds K fd ps dus) (hv : Vals dvs dus) (hd : ∀ S, Dats K S dvs dd)
    (ha : PAD K Xs (e :: es) γ ds) (hl : fs.lookup m = none) (h : Pr (.obj cn fs :: (ds ++ dd)) rs) (hj : j ≤ k := by decide) (he : ∀ i, starEach (e :: es) (Xs i).env = (false, eval e (Xs i).env) :: starEach es (Xs i).env := by exact fun _ => rfl) (hpl : ∀ i, (backTo pos (starEach es (Xs i).env)).any (·.1) = false := by exact fun _ => rfl)
    (ht : ∀ i, eval (.Call (.Attribute o m apos) (e :: es) [] pos) (Xs i).env = (do
      let ov ← eval o (Xs i).env
      standAt apos.atName
      let (f, first) ← holding [ov] (getMethod ov m (pl i))
      callWith pos f first (backTo pos (starEach (e :: es) (Xs i).env)) (backToKw pos (keywordEach [] (Xs i).env))) := by exact fun _ => rfl) : PED K Xs (.Call (.Attribute o m apos) (e :: es) [] pos) γ rs := by
  refine .of (t := tMeth (He.ga K cn) m (spD K Pr) dvs E0 (anyE Xs o) (anyA Xs (e :: es))) (fun i => ?_) fun H0 S0 S H σ k Q q => ho H0 S0 S H σ k _ fun v S1 H1 g1 s1 r1 => ?_
  · have hK := fx.hK i
    exact pe_meth (pl := pl i) (pe_any o i) (by rw [hK]; exact hc) (by rw [hK]; exact hm) (fx.fn G i) ((fx.room i).mono hj) (fx.binds B i) hv passL (pa_any (e :: es) i) (he i) (hpl i) (ht i)
  · cases id r1 with
    | obj a1 k1 t1 =>
      refine ⟨_, _, _, rfl, s1.ins a1, lookup_map k1 hl, ha H0 S0 S1 H1 σ (k.grow g1 s1) _ fun vs S2 H2 g2 s2 r2 => ?_⟩
      exact ⟨S2, _, rs, s2, .cons (Dat.ex g2.ss r1) (r2.append (hd S2)), h, fun v S3 H3 g3 s3 r3 => q v S3 H3 ((g1.trans g2).trans g3) s3 (r3.back (g1.trans g2).hh)⟩
theorem pd_meth0 (fx : Fx Xs P w K mg base N k) {cn : Str} {fs : List (Str × D)} {pl : ι → Sem Bool} (ho : PED K Xs o γ (.sh (.obj cn fs))) (hc : Cls K (He.ga K cn)) (hm : Meth K (He.ga K cn) m f) (G : FnOk P w K mg base (L2.CX P w) j f fd ps (spD K Pr)) (B : Binds K fd ps dus) (hv : Vals dvs dus) (hd : ∀ S, Dats K S dvs dd)
    (hl : fs.lookup m = none) (h : Pr (.obj cn fs :: dd) rs) (hj : j ≤ k := by decide)
    (ht : ∀ i, eval (.Call (.Attribute o m apos) [] [] pos) (Xs i).env = (do
      let ov ← eval o (Xs i).env
      standAt apos.atName
      let (f, first) ← holding [ov] (getMethod ov m (pl i))
      callWith pos f first (backTo pos (starEach [] (Xs i).env)) (backToKw pos (keywordEach [] (Xs i).env))) := by exact fun _ => rfl) : PED K Xs (.Call (.Attribute o m apos) [] [] pos) γ rs := by
  refine .of (t := tMeth (He.ga K cn) m (spD K Pr) dvs E0 (anyE Xs o) tNil) (fun i => ?_) fun H0 S0 S H σ k Q q => ho H0 S0 S H σ k _ fun v S1 H1 g1 s1 r1 => ?_
  · have hK := fx.hK i
    exact pe_meth0 (pl := pl i) (pe_any o i) (by rw [hK]; exact hc) (by rw [hK]; exact hm) (fx.fn G i) ((fx.room i).mono hj) (fx.binds B i) hv passL (ht i)
  · cases id r1 with
    | obj a1 k1 t1 =>
      refine ⟨_, _, _, rfl, s1.ins a1, lookup_map k1 hl, ?_⟩
      exact ⟨S1, _, rs, s1, .cons r1 (hd S1), h, fun v S3 H3 g3 s3 r3 => q v S3 H3 (g1.trans g3) s3 (r3.back g1.hh)⟩
/-- C(e, ..), a new object -/
theorem pd_make (fx : Fx Xs P w K mg base N k) {cn : Str} {fs : List (Str × D)} {Pi : List D → List (Str × D) → Prop} (M : Mk K (He.ga K cn) f) (G : FnOk P w K mg base (L2.CX P w) j f fd ps (spI K cn Pi)) (hm : mg x = some (.ref (He.ga K cn))) (B : Binds K fd ps dus) (hv : Vals dvs dus) (hd : ∀ S, Dats K S dvs dd)
    (ha : PAD K Xs (e :: es) γ ds) (h : Pi (ds ++ dd) fs) (hj : j + 1 ≤ k := by decide) (hg : ∀ i, Gl (Xs i) x := by exact fun _ => rfl) (hdb : (x == ("__debug__" : Str)) = false := by decide)
    (he : ∀ i, starEach (e :: es) (Xs i).env = (false, eval e (Xs i).env) :: starEach es (Xs i).env := by exact fun _ => rfl) (hpl : ∀ i, (backTo pos (starEach es (Xs i).env)).any (·.1) = false := by exact fun _ => rfl) : PED K Xs (.Call (.Name x p) (e :: es) [] pos) γ (.ow (.obj cn fs)) := by
  refine .of (t := tMake (He.ga K cn) (spI K cn Pi) dvs E0 (anyA Xs (e :: es))) (fun i => ?_) fun H0 S0 S H σ k Q q => ha H0 S0 S H σ k _ fun vs S1 H1 g1 s1 r1 y dx hy hdx hne => ?_
  · have hK := fx.hK i
    exact pe_make (by rw [hK]; exact M) (fx.fn G i) ((fx.room i).mono hj) (hg i) (by rw [fx.hmg i]; exact hm) (fx.binds B i) hv passL (pa_any (e :: es) i) hdb (he i) (hpl i)
  · have e1 : Ex H1 (upd H1 dx (.own y)) := Ex.new hdx
    have hy2 : (upd H1 dx (.own y)) y = none := by rw [upd_ne (fun z => hne z.symm)]; exact hy
    have e2 : Ex H1 (upd (upd H1 dx (.own y)) y (.ins (He.ga K cn) dx [])) := Same.trans e1 (Ex.new hy2)
    refine ⟨S1, y, dx, _, ds ++ dd, fs, rfl, s1.ex e2, s1.out hy, upd_same, r1.append (hd S1), h, fun S' H' es' keep nw s' ow => ⟨rfl, ?_⟩⟩
    have nwS : ∀ b o, S' b = some o → S1 b = none → H1 b = none := fun b o hb hn => Ex.back e2 (nw b o hb hn)
    have g2 : Gr S1 H1 S' H' := ⟨es', fun b o hb => keep b o (e2 b o hb) (fun z => by subst z; rw [hy] at hb; cases hb), nwS⟩
    have hys : S' y = none := by
      cases z : S' y with
      | none => rfl
      | some u =>
        have := nw y u z (s1.out hy)
        rw [upd_same] at this
        cases this
    exact q _ S' H' (g1.trans g2) s' ⟨y, rfl, hys, Ex.back g1.hh hy, ow⟩

/-! ### tests, and, or, not, a choice -/
theorem ptd_val (h : PED K Xs e γ (.sh (.bl tv))) (he : ∀ i, ∀ whole, isTrue e (Xs i).env whole = (do let v ← whole; standAt e.pos; holding [v] (truthy v)) := by exact fun _ _ => rfl) : PTD K Xs e γ tv :=
  .of (fun i => pt_val (pe_any e i) (he i)) (evt_B h)
theorem ptd_not (h : PTD K Xs a γ tv) : PTD K Xs (.UnaryOp .Not a pos) γ (!tv) := .of (fun i => pt_not (pt_any a i)) (evt_not h)
def anyW (Xs : ι → Cx) (e : Expr) : TT := fun σ H Q => ∃ t, (∀ i, PW (Xs i) e t) ∧ t σ H Q
theorem pw_any (e : Expr) (i : ι) : PW (Xs i) e (anyW Xs e) := ⟨fun whole pins s σ H Q I ⟨t, h, q⟩ => (h i).run whole pins s σ H Q I q⟩
def PWD (K : PySem.W.Frag) (Xs : ι → Cx) (e : Expr) (γ : Gm) (b : Bool) : Prop := EvT K (anyW Xs e) γ b
theorem PWD.of {t : TT} (h : ∀ i, PW (Xs i) e t) (ev : EvT K t γ tv) : PWD K Xs e γ tv := fun H0 S0 S H σ k Q q => ⟨t, h, ev H0 S0 S H σ k Q q⟩
theorem PWD.t (h : PWD K Xs e γ tv) : PTD K Xs e γ tv := .of (fun i => (pw_any e i).pt) h
theorem pwd_and1 (ha : PTD K Xs a γ tv) : PWD K Xs (.BoolOp .And [a] pos) γ tv := .of (fun i => pw_and1 (pt_any a i)) ha
theorem pwd_or1 (ha : PTD K Xs a γ tv) : PWD K Xs (.BoolOp .Or [a] pos) γ tv := .of (fun i => pw_or1 (pt_any a i)) ha
theorem pwd_and (ha : PTD K Xs a γ tv) (hb : tv = true → PWD K Xs (.BoolOp .And (b :: es) pos) γ tw) : PWD K Xs (.BoolOp .And (a :: b :: es) pos) γ (tv && tw) :=
  .of (fun i => pw_and (pt_any a i) (pw_any _ i)) (evt_and ha hb)
theorem pwd_or (ha : PTD K Xs a γ tv) (hb : tv = false → PWD K Xs (.BoolOp .Or (b :: es) pos) γ tw) : PWD K Xs (.BoolOp .Or (a :: b :: es) pos) γ (tv || tw) :=
  .of (fun i => pw_or (pt_any a i) (pw_any _ i)) (evt_or ha hb)
theorem pd_one {op : BoolOp} (ha : PED K Xs a γ rs) : PED K Xs (.BoolOp op [a] pos) γ rs := .of (fun i => pe_one (pe_any a i)) ha
theorem pd_and (ha : PED K Xs a γ (.sh (.bl tv))) (hb : tv = true → PED K Xs (.BoolOp .And (b :: es) pos) γ (.sh (.bl tw))) : PED K Xs (.BoolOp .And (a :: b :: es) pos) γ (.sh (.bl (tv && tw))) :=
  .of (fun i => pe_and (pe_any a i) (pe_any _ i)) (evd_andV ha hb)
theorem pd_or (ha : PED K Xs a γ (.sh (.bl tv))) (hb : tv = false → PED K Xs (.BoolOp .Or (b :: es) pos) γ (.sh (.bl tw))) : PED K Xs (.BoolOp .Or (a :: b :: es) pos) γ (.sh (.bl (tv || tw))) :=
  .of (fun i => pe_or (pe_any a i) (pe_any _ i)) (evd_orV ha hb)
theorem pd_if (ht : PTD K Xs c γ tv) (h1 : tv = true → PED K Xs a γ rs) (h2 : tv = false → PED K Xs b γ rs) : PED K Xs (.IfExp c a b pos) γ rs := .of (fun i => pe_ifExp (pt_any c i) (pe_any a i) (pe_any b i)) (evd_if ht h1 h2)
theorem pd_tup {z} (h : PAD K Xs es γ ds) (hl : ds.length ≤ sizeLine := by exact Nat.le_of_ble_eq_true rfl) : PED K Xs (.Tuple es z pos) γ (.sh (.tup ds)) := .of (fun i => pe_tup (pa_any es i)) (evd_tup h hl)
theorem pd_lst (h : PAD K Xs es γ ds) (hl : ds.length ≤ sizeLine := by exact Nat.le_of_ble_eq_true rfl) : PED K Xs (.List es pos) γ (.ow (.lst ds)) := .of (fun i => pe_lst (pa_any es i)) (evd_lst h hl)

/-! ### built-ins by name -/
theorem pd_blt (fx : Fx Xs P w K mg base N k) {id : String} {r : List V → Hp → VK → Prop} (hc : ∀ i, CallR (Xs i) (.builtin id) r) (hm : mg x = none) (ha : PAD K Xs (e :: es) γ ds) (h : RC K r ds rs) (hv : bootBuiltins x = some (.builtin id) := by decide +kernel) (hg : ∀ i, Gl (Xs i) x := by exact fun _ => rfl) (hn : x ≠ "__name__" := by decide) (hdb : (x == ("__debug__" : Str)) = false := by decide)
    (he : ∀ i, starEach (e :: es) (Xs i).env = (false, eval e (Xs i).env) :: starEach es (Xs i).env := by exact fun _ => rfl) (hpl : ∀ i, (backTo pos (starEach es (Xs i).env)).any (·.1) = false := by exact fun _ => rfl) : PED K Xs (.Call (.Name x p) (e :: es) [] pos) γ rs :=
  .of (fun i => pe_callB (hc i) (hg i) (by rw [fx.hmg i]; exact hm) hv (pa_any (e :: es) i) hn hdb (he i) (hpl i)) (evd_cb ha h)
theorem pd_bty (fx : Fx Xs P w K mg base N k) {id : String} {r : List V → Hp → VK → Prop} (hc : ∀ i, CallR (Xs i) (.type id) r) (hm : mg x = none) (ha : PAD K Xs (e :: es) γ ds) (h : RC K r ds rs) (hv : bootBuiltins x = some (.type id) := by decide +kernel) (hg : ∀ i, Gl (Xs i) x := by exact fun _ => rfl) (hn : x ≠ "__name__" := by decide) (hdb : (x == ("__debug__" : Str)) = false := by decide)
    (he : ∀ i, starEach (e :: es) (Xs i).env = (false, eval e (Xs i).env) :: starEach es (Xs i).env := by exact fun _ => rfl) (hpl : ∀ i, (backTo pos (starEach es (Xs i).env)).any (·.1) = false := by exact fun _ => rfl) : PED K Xs (.Call (.Name x p) (e :: es) [] pos) γ rs :=
  .of (fun i => pe_callTy (hc i) (hg i) (by rw [fx.hmg i]; exact hm) hv (pa_any (e :: es) i) hn hdb (he i) (hpl i)) (evd_cb ha h)
theorem Fx.cast (fx : Fx Xs P w K mg base N k) {α : PySem.W.Frag → Prop} (i : ι) (h : α (Xs i).K) : α K := by rw [← fx.hK i]; exact h
end

/-- len -/
inductive LenD : D → Nat → Prop
  | lst {c ds} : IsL c ds → LenD c ds.length
  | tup {c ds} : IsT c ds → LenD c ds.length
  | str {z : Str} : z.length ≤ sizeLine → LenD (.str z) z.length
  | dk {ds} : LenD (.dk ds) ds.length
def rLenU (K : PySem.W.Frag) : List V → Hp → VK → Prop := fun xs H Q => (∃ p ys, xs = [.ref p] ∧ (SqL K H p ys ∨ SqT K H p ys) ∧ Q (.int ys.length) H) ∨ ((∃ z, xs = [.str z] ∧ z.length ≤ sizeLine ∧ Q (.int z.length) H) ∨ ∃ a kvs, xs = [.ref a] ∧ Rd H a (.dK kvs) ∧ Q (.int kvs.length) H)
theorem call_lenU {X : Cx} : CallR X (.builtin "len") (rLenU X.K) := CallR.or call_len_seq (CallR.or call_len_str fun pins s σ H xs us Q I r h => by
  obtain ⟨a, kvs, rfl, hd, q⟩ := h
  obtain ⟨u, rfl, rx⟩ := vals1 r
  cases rx
  exact d_len I hd fun t s' I' => ⟨.int kvs.length, H, I', ⟨t, rfl⟩, q⟩)
theorem rc_len {K : PySem.W.Frag} {d : D} {n : Nat} (h : LenD d n) : RC K (rLenU K) [d] (.sh (.int n)) := by
  intro S H xs s t Q q
  cases t with
  | cons t1 t2 =>
    cases t2
    cases h with
    | lst hl =>
      obtain ⟨a, ys, rfl, hq, t⟩ := isL_of hl t1 s
      exact .inl ⟨a, ys, rfl, .inl hq, by rw [t.length]; exact here s .int q⟩
    | tup hl =>
      obtain ⟨a, ys, rfl, hq, t⟩ := isT_of hl t1 s
      exact .inl ⟨a, ys, rfl, .inr hq, by rw [t.length]; exact here s .int q⟩
    | str hz => cases t1; exact .inr (.inl ⟨_, rfl, hz, here s .int q⟩)
    | @dk ds =>
      cases t1 with
      | @dk a kvs _ a1 k1 t1 =>
        have e : kvs.length = ds.length := by have := congrArg List.length k1; simpa using this
        exact .inr (.inr ⟨_, _, rfl, s.rd (.inl a1), by rw [e]; exact here s .int q⟩)
/-- list(..) -/
def rListU (K : PySem.W.Frag) : List V → Hp → VK → Prop := fun xs H Q => ∃ p ys, xs = [.ref p] ∧ (SqL K H p ys ∨ SqT K H p ys) ∧ ∀ l, H l = none → Q (.ref l) (upd H l (.lst ys))
theorem call_listU {X : Cx} : CallR X (.type "list") (rListU X.K) := call_list_of
theorem rc_list {K : PySem.W.Frag} {d : D} {ds : List D} (h : IsL d ds ∨ IsT d ds) : RC K (rListU K) [d] (.ow (.lst ds)) := by
  intro S H xs s t Q q
  cases t with
  | cons t1 t2 =>
    cases t2
    rcases h with h | h
    · obtain ⟨a, ys, rfl, hq, t⟩ := isL_of h t1 s
      exact ⟨a, ys, rfl, .inl hq, fun l hl => new_lst s hl t q⟩
    · obtain ⟨a, ys, rfl, hq, t⟩ := isT_of h t1 s
      exact ⟨a, ys, rfl, .inr hq, fun l hl => new_lst s hl t q⟩
/-- tuple(list) -/
def rTupU (K : PySem.W.Frag) : List V → Hp → VK → Prop := fun xs H Q => ∃ p ys, xs = [.ref p] ∧ ((SqL K H p ys ∧ ∀ l, H l = none → Q (.ref l) (upd H l (.tup ys))) ∨ (SqT K H p ys ∧ Q (.ref p) H))
theorem rc_tuple {K : PySem.W.Frag} {d : D} {ds : List D} (h : IsL d ds) : RC K (rTupU K) [d] (.sh (.tup ds)) := by
  intro S H xs s t Q q
  cases t with
  | cons t1 t2 =>
    cases t2
    obtain ⟨a, ys, rfl, hq, t⟩ := isL_of h t1 s
    exact ⟨a, ys, rfl, .inl ⟨hq, fun l hl => new_tup s hl t q⟩⟩
theorem rc_all {K : PySem.W.Frag} {d : D} {bs : List Bool} (h : IsL d (bs.map D.bl)) : RC K (rAll K) [d] (.sh (.bl (bs.all id))) := by
  intro S H xs s t Q q
  cases t with
  | cons t1 t2 =>
    cases t2
    obtain ⟨a, ys, rfl, hq, t⟩ := isL_of h t1 s
    exact ⟨a, bs, rfl, by rw [← t.bls]; exact hq, here s .bl q⟩
theorem rc_any {K : PySem.W.Frag} {d : D} {bs : List Bool} (h : IsL d (bs.map D.bl)) : RC K (rAny K) [d] (.sh (.bl (bs.any id))) := by
  intro S H xs s t Q q
  cases t with
  | cons t1 t2 =>
    cases t2
    obtain ⟨a, ys, rfl, hq, t⟩ := isL_of h t1 s
    exact ⟨a, bs, rfl, by rw [← t.bls]; exact hq, here s .bl q⟩
theorem rc_sum {K : PySem.W.Frag} {d : D} {ns : List Int} (h : IsL d (ns.map D.int)) : RC K (rSum K) [d] (.sh (.int ns.sum)) := by
  intro S H xs s t Q q
  cases t with
  | cons t1 t2 =>
    cases t2
    obtain ⟨a, ys, rfl, hq, t⟩ := isL_of h t1 s
    exact ⟨a, ns, rfl, by rw [← t.ints]; exact hq, here s .int q⟩
theorem rc_max {K : PySem.W.Frag} {d : D} {ns : List Int} {m : Int} (h : IsL d (ns.map D.int)) (h1 : m ∈ ns) (h2 : ∀ y ∈ ns, y ≤ m) : RC K (rMax K) [d] (.sh (.int m)) := by
  intro S H xs s t Q q
  cases t with
  | cons t1 t2 =>
    cases t2
    obtain ⟨a, ys, rfl, hq, t⟩ := isL_of h t1 s
    refine ⟨a, ns, rfl, by rw [← t.ints]; exact hq, List.length_pos_of_mem h1, fun m' hm hle => ?_⟩
    have e : m' = m := Int.le_antisymm (h2 m' hm) (hle m h1)
    rw [e]
    exact here s .int q
/-- dict(d) -/
def rDictD : List V → Hp → VK → Prop := fun xs H Q => ∃ (a : Addr) (kvs : List (Key × V)), xs = [.ref a] ∧ Rd H a (.dK kvs) ∧ ∀ p, H p = none → Q (.ref p) (upd H p (.dK kvs))
theorem rc_dict {K : PySem.W.Frag} {ds : List (Key × D)} : RC K rDictD [.dk ds] (.ow (.dk ds)) := by
  intro S H xs s t Q q
  cases t with
  | cons t1 t2 =>
    cases t2
    cases t1 with
    | @dk a kvs _ a1 k1 t1 => exact ⟨a, kvs, rfl, s.rd (.inl a1), fun p hp => new_ow (d := .dk ds) s hp (show OwnAt K S _ p (.dk ds) from ⟨kvs, upd_same, k1, t1⟩) q⟩
end Wd
set_option Elab.async false
set_option linter.all false
set_option maxRecDepth 100000
set_option maxHeartbeats 1000000
/-! Names stored, targets, statements, loops, comprehensions over data. -/
namespace Wd
open PySem PySem.Spec L2
open PyProof.Rows hiding St

/-! ### the names' state, changed -/
section
variable {K : PySem.W.Frag} {H0 S0 S H : Hp} {σ : St} {γ : Gm} {v : V} {d : D} {i : Nat} {p : Addr} {o : HO}
theorem Ok.put (k : Ok K H0 S0 S H σ γ) {s : Slot} {ov : Option V} (hi : i < γ.length) (hs : SlotOk K H0 S H (σ.set i ov) i s) (hd : ∀ (j : Nat) (e d' : D) (l : Addr), s = .ow d' → ov = some (.ref l) → γ[j]? = some (.ow e) → σ[j]? = some (some (.ref l)) → j = i) : Ok K H0 S0 S H (σ.set i ov) (γ.set i s) where
  h0 := k.h0
  s0 := k.s0
  sh := k.sh
  nw := k.nw
  len := by rw [List.length_set, List.length_set]; exact k.len
  en := fun j t h => by
    by_cases e : j = i
    · subst e
      rw [List.getElem?_set_self hi] at h
      cases h
      exact hs
    · rw [List.getElem?_set_ne (fun z => e z.symm)] at h
      have q := k.en j t h
      cases t with
      | un => trivial
      | tw _ _ => trivial
      | sh d => obtain ⟨v, a, b⟩ := q; exact ⟨v, by rw [List.getElem?_set_ne (fun z => e z.symm)]; exact a, b⟩
      | ow d => obtain ⟨l, a, b⟩ := q; exact ⟨l, by rw [List.getElem?_set_ne (fun z => e z.symm)]; exact a, b⟩
  ds := fun a b da db l ha hb hla hlb => by
    have hil : i < σ.length := by rw [k.len]; exact hi
    by_cases ea : a = i
    · subst ea
      by_cases eb : b = a
      · exact eb.symm
      · rw [List.getElem?_set_self hi] at ha
        rw [List.getElem?_set_self hil] at hla
        rw [List.getElem?_set_ne (fun z => eb z.symm)] at hb hlb
        exact (hd b db da l (Option.some.inj ha) (Option.some.inj hla) hb hlb).symm
    · by_cases eb : b = i
      · subst eb
        rw [List.getElem?_set_self hi] at hb
        rw [List.getElem?_set_self hil] at hlb
        rw [List.getElem?_set_ne (fun z => ea z.symm)] at ha hla
        exact hd a da db l (Option.some.inj hb) (Option.some.inj hlb) ha hla
      · rw [List.getElem?_set_ne (fun z => ea z.symm)] at ha hla
        rw [List.getElem?_set_ne (fun z => eb z.symm)] at hb hlb
        exact k.ds a b da db l ha hb hla hlb
theorem Ok.sh_ (k : Ok K H0 S0 S H σ γ) (hi : i < γ.length) (h : Dat K S v d) : Ok K H0 S0 S H (σ.set i (some v)) (γ.set i (.sh d)) :=
  k.put hi ⟨v, by rw [List.getElem?_set_self (by rw [k.len]; exact hi)], h⟩ fun j e d' l z => nomatch z
theorem Ok.un_ (k : Ok K H0 S0 S H σ γ) (hi : i < γ.length) {ov : Option V} : Ok K H0 S0 S H (σ.set i ov) (γ.set i .un) :=
  k.put hi trivial fun j e d' l z => nomatch z
/-- a result is stored at a name -/
theorem Ok.res {S' H' : Hp} {r : Slot} (k : Ok K H0 S0 S H σ γ) (g : Gr S H S' H') (s : Sub S' H') (h : ResOk K S' H H' v r) (hi : i < γ.length) : Ok K H0 S0 S' H' (σ.set i (some v)) (γ.set i r) := by
  have k' := k.grow g s
  cases r with
  | un => exact k'.un_ hi
  | tw _ _ => exact k'.put hi trivial fun j e d' l z => nomatch z
  | sh d => exact k'.sh_ hi h
  | ow d =>
    obtain ⟨l, rfl, h1, h2, h3⟩ := h
    refine k'.put hi ⟨l, by rw [List.getElem?_set_self (by rw [k.len]; exact hi)], h1, Ex.back k.h0 h2, h3⟩ fun j e d' l' _ e2 hj hl => ?_
    cases e2
    obtain ⟨l2, q1, _, _, q2⟩ := k.en j _ hj
    rw [hl] at q1
    cases q1
    obtain ⟨o, ho⟩ := q2.there
    rw [h2] at ho
    cases ho
/-- an object that no name holds, and that is not known, is changed -/
theorem Ok.mut (k : Ok K H0 S0 S H σ γ) (h0 : H0 p = none) (hs : S p = none) (no : ∀ (i : Nat) (d : D), γ[i]? = some (.ow d) → σ[i]? ≠ some (some (.ref p))) : Ok K H0 S0 S (upd H p o) σ γ where
  h0 := Ex.mut k.h0 h0
  s0 := k.s0
  sh := k.sh.mut hs
  nw := k.nw
  len := k.len
  en := fun j t h => by
    have q := k.en j t h
    cases t with
    | un => trivial
    | tw _ _ => trivial
    | sh d => exact q
    | ow d =>
      obtain ⟨l, a, b, c, z⟩ := q
      refine ⟨l, a, b, c, z.mono (Same.refl _) fun o ho => ?_⟩
      rw [upd_ne]
      · exact ho
      · rintro rfl
        exact no j d h a
  ds := k.ds
/-- an object that a name holds is changed -/
theorem Ok.own {o : HO} (k : Ok K H0 S0 S H σ γ) {l : Addr} {d d' : D} (hg : γ[i]? = some (.ow d)) (hl : σ[i]? = some (some (.ref l))) (h : OwnAt K S (upd H l o) l d') : Ok K H0 S0 S (upd H l o) σ (γ.set i (.ow d')) := by
  obtain ⟨l', e, h1, h2, _⟩ := k.en i _ hg
  rw [hl] at e
  cases e
  have hi : i < γ.length := (List.getElem?_eq_some_iff.mp hg).1
  refine ⟨Ex.mut k.h0 h2, k.s0, k.sh.mut h1, k.nw, by rw [List.length_set]; exact k.len, fun j t hj => ?_, fun a b da db m ha hb hla hlb => ?_⟩
  · by_cases ej : j = i
    · subst ej
      rw [List.getElem?_set_self hi] at hj
      cases hj
      exact ⟨l, hl, h1, h2, h⟩
    · rw [List.getElem?_set_ne (fun z => ej z.symm)] at hj
      have q := k.en j t hj
      cases t with
      | un => trivial
      | tw _ _ => trivial
      | sh d => exact q
      | ow e =>
        obtain ⟨m, a, b, c, z⟩ := q
        refine ⟨m, a, b, c, z.mono (Same.refl _) fun o ho => ?_⟩
        rw [upd_ne]
        · exact ho
        · rintro rfl
          exact ej (k.ds j i e d _ hj hg a hl)
  · have fx : ∀ (c : Nat) (x : D), (γ.set i (.ow d'))[c]? = some (.ow x) → ∃ y, γ[c]? = some (.ow y) := fun c x hc => by
      by_cases ec : c = i
      · subst ec; exact ⟨d, hg⟩
      · rw [List.getElem?_set_ne (fun z => ec z.symm)] at hc; exact ⟨x, hc⟩
    obtain ⟨x, hx⟩ := fx a da ha
    obtain ⟨y, hy⟩ := fx b db hb
    exact k.ds a b x y m hx hy hla hlb
/-- an object that a name holds is known from now on -/
theorem Ok.freeze (k : Ok K H0 S0 S H σ γ) (hg : γ[i]? = some (.ow d)) : ∃ S', Ex S S' ∧ Ok K H0 S0 S' H σ (γ.set i (.sh d)) := by
  obtain ⟨l, e, h1, h2, h⟩ := k.en i _ hg
  obtain ⟨o, ho, a, b, c⟩ := h.froze k.sh h1
  have hi : i < γ.length := (List.getElem?_eq_some_iff.mp hg).1
  refine ⟨upd S l o, b, k.h0, Same.trans k.s0 b, a, fun c u hc hn => ?_, by rw [List.length_set]; exact k.len, fun j t hj => ?_, fun a b da db m ha hb hla hlb => ?_⟩
  · by_cases ec : c = l
    · subst ec; exact h2
    · rw [upd_ne ec] at hc; exact k.nw c u hc hn
  · by_cases ej : j = i
    · subst ej
      rw [List.getElem?_set_self hi] at hj
      cases hj
      exact ⟨_, e, c⟩
    · rw [List.getElem?_set_ne (fun z => ej z.symm)] at hj
      have q := k.en j t hj
      cases t with
      | un => trivial
      | tw _ _ => trivial
      | sh d => obtain ⟨v, x, y⟩ := q; exact ⟨v, x, y.ex b⟩
      | ow e2 =>
        obtain ⟨m, x, y, z, w'⟩ := q
        refine ⟨m, x, ?_, z, w'.mono b fun _ q => q⟩
        rw [upd_ne]
        · exact y
        · rintro rfl
          exact ej (k.ds j i e2 d _ hj hg x e)
  · have fx : ∀ (c : Nat) (x : D), (γ.set i (.sh d))[c]? = some (.ow x) → γ[c]? = some (.ow x) := fun c x hc => by
      by_cases ec : c = i
      · subst ec; rw [List.getElem?_set_self hi] at hc; cases hc
      · rw [List.getElem?_set_ne (fun z => ec z.symm)] at hc; exact hc
    exact k.ds a b da db m (fx a da ha) (fx b db hb) hla hlb
/-- names may be forgotten -/
def Wk (γ γ' : Gm) : Prop := γ.length = γ'.length ∧ ∀ (i : Nat) (s : Slot), γ'[i]? = some s → s = .un ∨ γ[i]? = some s
theorem Wk.refl (γ : Gm) : Wk γ γ := ⟨rfl, fun _ _ h => .inr h⟩
theorem Ok.wk {γ' : Gm} (k : Ok K H0 S0 S H σ γ) (h : Wk γ γ') : Ok K H0 S0 S H σ γ' where
  h0 := k.h0
  s0 := k.s0
  sh := k.sh
  nw := k.nw
  len := k.len.trans h.1
  en := fun i s q => by
    rcases h.2 i s q with e | e
    · subst e; trivial
    · exact k.en i s e
  ds := fun i j d e l h1 h2 h3 h4 => by
    rcases h.2 i _ h1 with z | z
    · cases z
    · rcases h.2 j _ h2 with z2 | z2
      · cases z2
      · exact k.ds i j d e l z z2 h3 h4
/-- the entry set anew -/
theorem Ok.base (k : Ok K H0 S0 S H σ γ) : Ok K H0 S S H σ γ := ⟨k.h0, Same.refl _, k.sh, fun b o h n => (by rw [n] at h; cases h), k.len, k.en, k.ds⟩
theorem Ok.over {S1 H1 : Hp} {σ1 : St} {γ1 : Gm} (k : Ok K H0 S0 S H σ γ) (k1 : Ok K H0 S S1 H1 σ1 γ1) : Ok K H0 S0 S1 H1 σ1 γ1 :=
  ⟨k1.h0, Same.trans k.s0 k1.s0, k1.sh, fun b o h n => by
    cases q : S b with
    | some u => exact k.nw b u q n
    | none => exact k1.nw b o h q, k1.len, k1.en, k1.ds⟩
end

/-! ### outcomes -/
inductive Out where
  | nx (γ : Gm) | rt (r : Slot) | bk (γ : Gm) | ct (γ : Gm)
def ResR (K : PySem.W.Frag) (H0 S' H' : Hp) (v : V) : Slot → Prop
  | .un => True
  | .sh d => Dat K S' v d
  | .ow d => ∃ l, v = .ref l ∧ S' l = none ∧ H0 l = none ∧ OwnAt K S' H' l d
  | .tw ks d => TwAt K S' H' v ks d fun a => S' a = none ∧ H0 a = none
def OutOk (K : PySem.W.Frag) (D : Ends) (H0 S0 : Hp) : Out → Prop
  | .nx γ => ∀ S H σ, Ok K H0 S0 S H σ γ → D.nx σ H
  | .rt r => ∀ v S H, Ex H0 H → Ex S0 S → Sub S H → (∀ b o, S b = some o → S0 b = none → H0 b = none) → ResR K H0 S H v r → D.rt v H
  | .bk γ => ∀ S H σ, Ok K H0 S0 S H σ γ → D.bk σ H
  | .ct γ => ∀ S H σ, Ok K H0 S0 S H σ γ → D.ct σ H
def StD (K : PySem.W.Frag) (ts : TS) (γ : Gm) (o : Out) : Prop := ∀ (H0 S0 S H : Hp) (σ : St) (D : Ends), Ok K H0 S0 S H σ γ → OutOk K D H0 S0 o → ts D σ H
theorem OutOk.base {K : PySem.W.Frag} {D : Ends} {H0 S0 S H : Hp} {σ : St} {γ : Gm} {o : Out} (k : Ok K H0 S0 S H σ γ) (h : OutOk K D H0 S0 o) : OutOk K D H0 S o := by
  cases o with
  | nx γ => exact fun S1 H1 σ1 k1 => h S1 H1 σ1 (k.over k1)
  | bk γ => exact fun S1 H1 σ1 k1 => h S1 H1 σ1 (k.over k1)
  | ct γ => exact fun S1 H1 σ1 k1 => h S1 H1 σ1 (k.over k1)
  | rt r => exact fun v S1 H1 h1 h2 h3 h4 h5 => h v S1 H1 h1 (Same.trans k.s0 h2) h3 (fun b o hb hn => by
      cases q : S b with
      | some u => exact k.nw b u q hn
      | none => exact h4 b o hb q) h5
def PSD (K : PySem.W.Frag) {ι : Type} (Xs : ι → Cx) (st : Stmt) (γ : Gm) (o : Out) : Prop := StD K (anyS Xs st) γ o
def PSsD (K : PySem.W.Frag) {ι : Type} (Xs : ι → Cx) (st : List Stmt) (γ : Gm) (o : Out) : Prop := StD K (anySs Xs st) γ o
def TgD (K : PySem.W.Frag) {ι : Type} (Xs : ι → Cx) (tg : Expr) (γ : Gm) (d : D) (γ' : Gm) (is : List Nat) : Prop := ∀ (H0 S0 S H : Hp) (σ : St) (v : V), Ok K H0 S0 S H σ γ → Dat K S v d → ∀ Q : St → Hp → Prop,
  (∀ σ', Ok K H0 S0 S H σ' γ' → σ'.length = σ.length → (∀ j, j ∉ is → σ'[j]? = σ[j]?) → Q σ' H) → anyG Xs tg v σ H Q
def TgsD (K : PySem.W.Frag) {ι : Type} (Xs : ι → Cx) (ts : List Expr) (γ : Gm) (ds : List D) (γ' : Gm) (is : List Nat) : Prop := ∀ (H0 S0 S H : Hp) (σ : St) (vs : List V), Ok K H0 S0 S H σ γ → Dats K S vs ds → ∀ Q : St → Hp → Prop,
  (∀ σ', Ok K H0 S0 S H σ' γ' → σ'.length = σ.length → (∀ j, j ∉ is → σ'[j]? = σ[j]?) → Q σ' H) → ∃ t : TGs, (∀ i, PGs (Xs i) ts t) ∧ t vs σ H Q
/-- a block's tests -/
def PTsD (K : PySem.W.Frag) {ι : Type} (Xs : ι → Cx) (ifs : List Expr) (γ : Gm) (b : Bool) : Prop := EvT K (fun σ H Q => ∃ t, (∀ i, PTs (Xs i) ifs t) ∧ t σ H Q) γ b
def anyTs {ι : Type} (Xs : ι → Cx) (ifs : List Expr) : TT := fun σ H Q => ∃ t, (∀ i, PTs (Xs i) ifs t) ∧ t σ H Q
theorem pts_any {ι : Type} {Xs : ι → Cx} (ifs : List Expr) (i : ι) : PTs (Xs i) ifs (anyTs Xs ifs) := ⟨fun pins s σ H Q I ⟨t, h, q⟩ => (h i).run pins s σ H Q I q⟩
def anyI {ι : Type} (Xs : ι → Cx) (tg e : Expr) : TI := fun σ H R => ∃ t, (∀ i, PI (Xs i) tg e t) ∧ t σ H R
theorem pi_any {ι : Type} {Xs : ι → Cx} (tg e : Expr) (i : ι) : PI (Xs i) tg e (anyI Xs tg e) := ⟨fun pins s σ H R I ⟨t, h, q⟩ => (h i).run pins s σ H R I q⟩
/-- what a walk gives -/
structure ItD (K : PySem.W.Frag) (J : It) (S1 : Hp) (ds : List D) : Prop where
  go : ∀ i S H, Ex S1 S → Sub S H → i < ds.length → J.go i H
  stop : ∀ S H, Ex S1 S → Sub S H → J.stop ds.length H
  yld : ∀ i S H x H' d, Ex S1 S → Sub S H → ds[i]? = some d → J.yld i H x H' → ∃ S', Gr S H S' H' ∧ Sub S' H' ∧ Dat K S' x d
def WkD (K : PySem.W.Frag) (wi : TI) (γ : Gm) (ds : List D) : Prop := ∀ (H0 S0 S H : Hp) (σ : St), Ok K H0 S0 S H σ γ → ∀ R : It → Hp → Prop,
  (∀ J S' H', Gr S H S' H' → Sub S' H' → ItD K J S' ds → R J H') → wi σ H R
def PID (K : PySem.W.Frag) {ι : Type} (Xs : ι → Cx) (tg e : Expr) (γ : Gm) (ds : List D) : Prop := WkD K (anyI Xs tg e) γ ds

section
variable {ι : Type} {Xs : ι → Cx} {P : Program} {w : World} {K : PySem.W.Frag} {mg : Str → Option Value} {base : Heap} {N : List Str} {k : Nat} {γ γ' γ1 γ2 : Gm} {d d1 d2 : D} {ds : List D} {rs : Slot} {e a b c : Expr} {es : List Expr} {pos pos' : Pos} {x : Str} {tv tw : Bool} {st : Stmt} {sts sts' : List Stmt} {o : Out} {is js : List Nat} {tg : Expr} {tgs : List Expr}
theorem PSD.of {t : TS} (h : ∀ i, PS (Xs i) st t) (ev : StD K t γ o) : PSD K Xs st γ o := fun H0 S0 S H σ D k q => ⟨t, h, ev H0 S0 S H σ D k q⟩
theorem PSsD.of {t : TS} (h : ∀ i, PSs (Xs i) sts t) (ev : StD K t γ o) : PSsD K Xs sts γ o := fun H0 S0 S H σ D k q => ⟨t, h, ev H0 S0 S H σ D k q⟩
theorem pssd_nil : PSsD K Xs [] γ (.nx γ) := .of (fun _ => pss_nil) fun H0 S0 S H σ D k q => q S H σ k
theorem pssd_cons (h1 : PSD K Xs st γ (.nx γ1)) (h2 : PSsD K Xs sts γ1 o) : PSsD K Xs (st :: sts) γ o :=
  .of (t := tSeq (anyS Xs st) (anySs Xs sts)) (fun i => pss_cons (ps_any st i) (pss_any sts i)) fun H0 S0 S H σ D k q =>
    h1 H0 S0 S H σ { D with nx := anySs Xs sts D } k fun S1 H1 σ1 k1 => h2 H0 S0 S1 H1 σ1 D k1 q
/-- the block ends here -/
theorem pssd_end (h1 : PSD K Xs st γ o) (ho : ∀ γ', o ≠ .nx γ') : PSsD K Xs (st :: sts) γ o :=
  .of (t := tSeq (anyS Xs st) tNever) (fun i => pss_cons (ps_any st i) pss_never) fun H0 S0 S H σ D k q =>
    h1 H0 S0 S H σ { D with nx := tNever D } k (by
      cases o with
      | nx γ' => exact absurd rfl (ho γ')
      | rt r => exact q
      | bk γ' => exact q
      | ct γ' => exact q)
theorem pssd_rt {r : Slot} (h1 : PSD K Xs st γ (.rt r)) : PSsD K Xs (st :: sts) γ (.rt r) := pssd_end h1 fun _ z => nomatch z
theorem pssd_one (h1 : PSD K Xs st γ o) : PSsD K Xs [st] γ o := .of (fun i => pss_one (ps_any st i)) h1
/-- a name's object is known from here on -/
theorem pssd_freeze (i : Nat) (hg : γ[i]? = some (.ow d)) (h : PSsD K Xs sts (γ.set i (.sh d)) o) : PSsD K Xs sts γ o := fun H0 S0 S H σ D k q => by
  obtain ⟨S', e, k'⟩ := k.freeze hg
  exact h H0 S0 S' H σ D k' q
theorem pssd_wk (hw : Wk γ γ') (h : PSsD K Xs sts γ' o) : PSsD K Xs sts γ o := fun H0 S0 S H σ D k q => h H0 S0 S H σ D (k.wk hw) q
theorem pssd_nxwk (h : PSsD K Xs sts γ (.nx γ1)) (hw : Wk γ1 γ') : PSsD K Xs sts γ (.nx γ') := fun H0 S0 S H σ D k q => h H0 S0 S H σ D k fun S1 H1 σ1 k1 => q S1 H1 σ1 (k1.wk hw)
theorem psd_nxwk (h : PSD K Xs st γ (.nx γ1)) (hw : Wk γ1 γ') : PSD K Xs st γ (.nx γ') := fun H0 S0 S H σ D k q => h H0 S0 S H σ D k fun S1 H1 σ1 k1 => q S1 H1 σ1 (k1.wk hw)
theorem psd_wk (hw : Wk γ γ') (h : PSD K Xs st γ' o) : PSD K Xs st γ o := fun H0 S0 S H σ D k q => h H0 S0 S H σ D (k.wk hw) q
theorem psd_freeze (i : Nat) (hg : γ[i]? = some (.ow d)) (h : PSD K Xs st (γ.set i (.sh d)) o) : PSD K Xs st γ o := fun H0 S0 S H σ D k q => by
  obtain ⟨S', e, k'⟩ := k.freeze hg
  exact h H0 S0 S' H σ D k' q
/-- x = e -/
theorem psd_set (fx : Fx Xs P w K mg base N k) (i : Nat) (he : PED K Xs e γ rs) (hN : N[i]? = some x := by rfl) (hi : i < γ.length := by exact Nat.le_of_ble_eq_true rfl) (hx : ∀ j, Loc (Xs j).env.scope x := by first | exact fun _ => Or.inl rfl | exact fun _ => Or.inr rfl)
    (hs : ∀ j, swapsWith e (some (.Name x pos')) pos.line (Xs j).env = pure false := by exact fun _ => rfl) (hf : ∀ j, (Xs j).fn x = true ∨ (Xs j).env.scope.names.lookup x = some .local := by first | exact fun _ => Or.inl rfl | exact fun _ => Or.inr rfl) : PSD K Xs (.Assign [.Name x pos'] e pos) γ (.nx (γ.set i rs)) :=
  .of (fun j => ps_set (i := i) (by rw [fx.hN j]; exact fx.nd) (by rw [fx.hN j]; exact hN) (hx j) (pe_any e j) (hs j) (hf j)) fun H0 S0 S H σ D k q => he H0 S0 S H σ k _ fun v S' H' g s r => q S' H' _ (k.res g s r hi)
/-- e -/
theorem psd_expr (he : PED K Xs e γ rs) (hs : ∀ j, swapsWith e none pos.line (Xs j).env = pure false := by exact fun _ => rfl) : PSD K Xs (.Expr e pos) γ (.nx γ) :=
  .of (fun j => ps_expr (pe_any e j) (hs j)) fun H0 S0 S H σ D k q => he H0 S0 S H σ k _ fun v S' H' g s r => q S' H' _ (k.grow g s)
theorem psd_ret (he : PED K Xs e γ rs) : PSD K Xs (.Return (some e) pos) γ (.rt rs) :=
  .of (fun j => ps_ret (pe_any e j)) fun H0 S0 S H σ D k q => he H0 S0 S H σ k _ fun v S' H' g s r => by
    have k' := k.grow g s
    refine q v S' H' k'.h0 k'.s0 s k'.nw ?_
    cases rs with
    | un => trivial
    | tw _ _ => exact TwAt.mono r fun a z => ⟨z.1, Ex.back k.h0 z.2⟩
    | sh d => exact r
    | ow d => obtain ⟨l, h1, h2, h3, h4⟩ := r; exact ⟨l, h1, h2, Ex.back k.h0 h3, h4⟩
theorem psd_retN : PSD K Xs (.Return none pos) γ (.rt (.sh .non)) := .of (fun _ => ps_retN) fun H0 S0 S H σ D k q => q .non S H k.h0 k.s0 k.sh k.nw .non
theorem psd_pass : PSD K Xs (.Pass pos) γ (.nx γ) := .of (fun _ => ps_pass) fun H0 S0 S H σ D k q => q S H σ k
theorem psd_break : PSD K Xs (.Break pos) γ (.bk γ) := .of (fun _ => ps_break) fun H0 S0 S H σ D k q => q S H σ k
theorem psd_continue : PSD K Xs (.Continue pos) γ (.ct γ) := .of (fun _ => ps_continue) fun H0 S0 S H σ D k q => q S H σ k
theorem psd_ifT (hc : PTD K Xs c γ true) (ha : PSsD K Xs sts γ o) : PSD K Xs (.If c sts sts' pos) γ o :=
  .of (fun i => ps_if (pt_any c i) (pss_any sts i) pss_never) fun H0 S0 S H σ D k q => hc H0 S0 S H σ k _ fun S' H' g s => iteT (ha H0 S0 S' H' σ D (k.grow g s) q)
theorem psd_ifF (hc : PTD K Xs c γ false) (ha : PSsD K Xs sts' γ o) : PSD K Xs (.If c sts sts' pos) γ o :=
  .of (fun i => ps_if (pt_any c i) pss_never (pss_any sts' i)) fun H0 S0 S H σ D k q => hc H0 S0 S H σ k _ fun S' H' g s => iteF (ha H0 S0 S' H' σ D (k.grow g s) q)
theorem psd_if (hc : PTD K Xs c γ tv) (ha : tv = true → PSsD K Xs sts γ o) (hb : tv = false → PSsD K Xs sts' γ o) : PSD K Xs (.If c sts sts' pos) γ o := by
  cases tv with
  | true => exact psd_ifT hc (ha rfl)
  | false => exact psd_ifF hc (hb rfl)

/-! ### targets -/
theorem tgd_name (fx : Fx Xs P w K mg base N k) (i : Nat) (hN : N[i]? = some x := by rfl) (hi : i < γ.length := by exact Nat.le_of_ble_eq_true rfl) (hx : ∀ j, Loc (Xs j).env.scope x := by first | exact fun _ => Or.inl rfl | exact fun _ => Or.inr rfl)
    (hf : ∀ j, (Xs j).fn x = true ∨ (Xs j).env.scope.names.lookup x = some .local := by first | exact fun _ => Or.inl rfl | exact fun _ => Or.inr rfl) : TgD K Xs (.Name x pos) γ d (γ.set i (.sh d)) [i] := fun H0 S0 S H σ v k h Q q =>
  ⟨gName i, fun j => pg_name (by rw [fx.hN j]; exact fx.nd) (by rw [fx.hN j]; exact hN) (hx j) (hf j), q _ (k.sh_ hi h) (List.length_set ..) fun j hj => List.getElem?_set_ne (fun z => hj (by rw [z]; exact List.mem_singleton.mpr rfl))⟩
theorem tgsd_nil : TgsD K Xs [] γ [] γ [] := fun H0 S0 S H σ vs k h Q q => ⟨gNil, fun _ => pgs_nil, by cases h; rfl, q σ k rfl fun _ _ => rfl⟩
theorem tgsd_cons (h1 : TgD K Xs tg γ d γ1 is) (h2 : TgsD K Xs tgs γ1 ds γ2 js) (hs : ∀ i, (assignEach (tg :: tgs) (Xs i).env).map (·.2) = assign tg (Xs i).env :: (assignEach tgs (Xs i).env).map (·.2) := by exact fun _ => rfl) : TgsD K Xs (tg :: tgs) γ (d :: ds) γ2 (is ++ js) := fun H0 S0 S H σ vs k h Q q => by
  cases h with
  | cons t1 t2 =>
    refine ⟨gCons (anyG Xs tg) (fun vs σ H Q => ∃ t : TGs, (∀ i, PGs (Xs i) tgs t) ∧ t vs σ H Q), fun i => pgs_cons (pg_any tg i) ⟨fun pins s σ H vs us Q I r ⟨t, h, q⟩ => (h i).run pins s σ H vs us Q I r q⟩ (hs i), _, _, rfl, h1 H0 S0 S H σ _ k t1 _ fun σ1 k1 l1 e1 => h2 H0 S0 S H σ1 _ k1 t2 _ fun σ2 k2 l2 e2 => q σ2 k2 (l2.trans l1) fun j hj => ?_⟩
    rw [List.mem_append] at hj
    exact (e2 j fun z => hj (.inr z)).trans (e1 j fun z => hj (.inl z))
theorem tgd_tup (fx : Fx Xs P w K mg base N k) {z : Nat} (hd : IsT d ds) (h : TgsD K Xs tgs γ ds γ' is) (hn : ∀ i, (assignEach tgs (Xs i).env).length = ds.length := by exact fun _ => rfl) (hst : ∀ i, (assignEach tgs (Xs i).env).findIdx? (·.1) = none := by exact fun _ => rfl) : TgD K Xs (.Tuple tgs z pos) γ d γ' is := fun H0 S0 S H σ v k hv Q q => by
  obtain ⟨p, xs, rfl, hq, t⟩ := isT_of hd hv k.sh
  obtain ⟨u, hu, q2⟩ := h H0 S0 S H σ xs k t Q q
  refine ⟨gTup K ds.length u, fun i => ?_, p, xs, rfl, hq, t.length, q2⟩
  have y := pg_tup (k := z) (pos := pos) (fx.calm i) (hu i) (hn i) (hst i)
  rw [fx.hK i] at y
  exact y
/-- targets = e -/
theorem psd_asg (fx : Fx Xs P w K mg base N k) (he : PED K Xs e γ (.sh d)) (ht : TgD K Xs tg γ d γ' is) (hs : ∀ j, swapsWithSole [tg] e pos.line (Xs j).env = pure false := by exact fun _ => rfl) (hw : ∀ j, swappedStores [tg] e (Xs j).env = pure none := by exact fun _ => rfl)
    (h1 : ∀ j, (assignEach [tg] (Xs j).env).map (·.2) = [assign tg (Xs j).env] := by exact fun _ => rfl) : PSD K Xs (.Assign [tg] e pos) γ (.nx γ') :=
  .of (fun i => ps_asg (pe_any e i) (pg_any tg i) (hs i) (hw i) (h1 i)) fun H0 S0 S H σ D k q => he H0 S0 S H σ k _ fun v S' H' g s r => ht H0 S0 S' H' σ v (k.grow g s) r _ fun σ' k' _ _ => q S' H' σ' k'

/-! ### walks -/
theorem itl_d {S1 : Hp} {a : Addr} {xs : List V} (h : ∀ S H, Ex S1 S → Sub S H → SqL K H a xs) (t : Dats K S1 xs ds) : ItD K (Itl K a) S1 ds where
  go := fun i S H e s hi => ⟨xs, xs[i]'(by rw [t.length]; exact hi), h S H e s, by simp⟩
  stop := fun S H e s => ⟨xs, h S H e s, Nat.le_of_eq t.length⟩
  yld := fun i S H x H' d e s hd y => by
    obtain ⟨rfl, y⟩ := y
    obtain ⟨v, hv, hd'⟩ := t.get hd
    rw [y xs (h S H' e s)] at hv
    cases hv
    exact ⟨S, Gr.refl _ _, s, hd'.ex e⟩
theorem itt_d {S1 : Hp} {a : Addr} {xs : List V} (h : ∀ S H, Ex S1 S → Sub S H → SqT K H a xs) (t : Dats K S1 xs ds) : ItD K (Itt K a) S1 ds where
  go := fun i S H e s hi => ⟨xs, xs[i]'(by rw [t.length]; exact hi), h S H e s, by simp⟩
  stop := fun S H e s => ⟨xs, h S H e s, Nat.le_of_eq t.length⟩
  yld := fun i S H x H' d e s hd y => by
    obtain ⟨rfl, y⟩ := y
    obtain ⟨v, hv, hd'⟩ := t.get hd
    rw [y xs (h S H' e s)] at hv
    cases hv
    exact ⟨S, Gr.refl _ _, s, hd'.ex e⟩
/-- over a list -/
theorem pid_list (fx : Fx Xs P w K mg base N k) (hd : IsL d ds) (he : PED K Xs e γ (.sh d)) : PID K Xs tg e γ ds := fun H0 S0 S H σ k R q =>
  ⟨iList K (anyE Xs e), fun i => by have z := pi_list (tg := tg) (pe_any (Xs := Xs) e i); rw [fx.hK i] at z; exact z, he H0 S0 S H σ k _ fun v S' H' g s r => by
    cases hd with
    | lst => cases r with | lst a1 t1 => exact ⟨_, rfl, ⟨_, SqL.of (s.lst a1)⟩, q _ S' H' g s (itl_d (fun S2 H2 e2 s2 => SqL.of (s2.lst (e2 _ _ a1))) t1)⟩
    | ro => cases r with | ro a1 t1 => exact ⟨_, rfl, ⟨_, s.seqL a1⟩, q _ S' H' g s (itl_d (fun S2 H2 e2 s2 => s2.seqL (Ex.seqL e2 a1)) t1)⟩⟩
/-- over a tuple -/
theorem pid_tup (fx : Fx Xs P w K mg base N k) (hd : IsT d ds) (he : PED K Xs e γ (.sh d)) : PID K Xs tg e γ ds := fun H0 S0 S H σ k R q =>
  ⟨iTup K (anyE Xs e), fun i => by have z := pi_tup (tg := tg) (pe_any (Xs := Xs) e i); rw [fx.hK i] at z; exact z, he H0 S0 S H σ k _ fun v S' H' g s r => by
    cases hd with
    | tup => cases r with | tup a1 t1 => exact ⟨_, rfl, ⟨_, SqT.of (s.tup a1)⟩, q _ S' H' g s (itt_d (fun S2 H2 e2 s2 => SqT.of (s2.tup (e2 _ _ a1))) t1)⟩
    | rot => cases r with | rot a1 t1 => exact ⟨_, rfl, ⟨_, s.seqT a1⟩, q _ S' H' g s (itt_d (fun S2 H2 e2 s2 => s2.seqT (Ex.seqT e2 a1)) t1)⟩⟩
theorem itr_d {S1 : Hp} (lo : Int) (n : Nat) : ItD K (Itr lo n) S1 ((List.range n).map fun i : Nat => D.int (lo + (i : Int))) where
  go := fun i S H e s hi => by
    have : i < n := by simpa using hi
    exact this
  stop := fun S H e s => by
    show n ≤ _
    simp
  yld := fun i S H x H' d e s hd y => by
    obtain ⟨rfl, rfl⟩ := y
    rw [List.getElem?_map, List.getElem?_range] at hd
    · cases hd; exact ⟨S, Gr.refl _ _, s, .int⟩
    · by_cases h : i < n
      · exact h
      · rw [List.getElem?_eq_none (by simp; omega)] at hd; cases hd
theorem pid_range1 (fx : Fx Xs P w K mg base N k) {p : Pos} {j : Int} (ha : PAD K Xs [a] γ [.int j]) (hm : mg "range" = none) (h1 : -(2 ^ 62) ≤ j ∧ j < 2 ^ 62) (hg : ∀ i, Gl (Xs i) "range" := by exact fun _ => rfl) (hs : ∀ i, starEach [a] (Xs i).env = [(false, eval a (Xs i).env)] := by exact fun _ => rfl) :
    PID K Xs tg (.Call (.Name "range" p) [a] [] pos) γ ((List.range j.toNat).map fun i : Nat => D.int (0 + (i : Int))) := fun H0 S0 S H σ k R q =>
  ⟨iRng1 (anyA Xs [a]), fun i => pi_range1 (hg i) (by rw [fx.hmg i]; exact hm) (pa_any [a] i) (hs i), ha H0 S0 S H σ k _ fun vs S' H' g s r => by
    cases r with
    | cons r1 r2 => cases r1; cases r2; exact ⟨j, rfl, h1.1, h1.2, q _ S' H' g s (itr_d 0 j.toNat)⟩⟩
theorem pid_range2 (fx : Fx Xs P w K mg base N k) {p : Pos} {i j : Int} (ha : PAD K Xs [a, b] γ [.int i, .int j]) (hm : mg "range" = none) (h1 : -(2 ^ 62) ≤ i ∧ i < 2 ^ 62 ∧ -(2 ^ 62) ≤ j ∧ j < 2 ^ 62) (hg : ∀ i, Gl (Xs i) "range" := by exact fun _ => rfl)
    (hs : ∀ i, starEach [a, b] (Xs i).env = [(false, eval a (Xs i).env), (false, eval b (Xs i).env)] := by exact fun _ => rfl) (hs2 : ∀ i, starEach [b] (Xs i).env = [(false, eval b (Xs i).env)] := by exact fun _ => rfl) :
    PID K Xs tg (.Call (.Name "range" p) [a, b] [] pos) γ ((List.range (j - i).toNat).map fun n : Nat => D.int (i + (n : Int))) := fun H0 S0 S H σ k R q =>
  ⟨iRng2 (anyA Xs [a, b]), fun i => pi_range2 (hg i) (by rw [fx.hmg i]; exact hm) (pa_any [a, b] i) (hs i) (hs2 i), ha H0 S0 S H σ k _ fun vs S' H' g s r => by
    cases r with
    | cons r1 r2 => cases r1; cases r2 with | cons r3 r4 => cases r3; cases r4; exact ⟨i, j, rfl, h1, q _ S' H' g s (itr_d i (j - i).toNat)⟩⟩

/-! ### for -/
/-- each turn goes on -/
theorem psd_for (fx : Fx Xs P w K mg base N k) {α : Type} (xs : List α) (enc : α → D) (γs : Nat → Gm) (hi : PID K Xs tg a γ (xs.map enc)) (h0 : Wk γ (γs 0))
    (turn : ∀ (i : Nat) (x : α), xs[i]? = some x → ∃ γt is γb, TgD K Xs tg (γs i) (enc x) γt is ∧ (PSsD K Xs sts γt (.nx γb) ∨ PSsD K Xs sts γt (.ct γb)) ∧ Wk γb (γs (i + 1)))
    (hp : ∀ i, PassesOwn (model (Xs i).prog (Xs i).w) (Xs i).A (Xs i).env (Xs i).xe := by first | exact fun _ => PassesOwn.never | exact fun _ => passes_of rfl)
    (hs : ∀ i, ∀ x, foldedSetIterable a (Xs i).env x = pure x := by exact fun _ _ => rfl) : PSD K Xs (.For tg a sts [] pos) γ (.nx (γs xs.length)) := by
  refine .of (t := tFor (anyI Xs tg a) (anyG Xs tg) (anySs Xs sts)) (fun i => ps_for (hp i) (fx.calm i) (pi_any tg a i) (pg_any tg i) (pss_any sts i) (hs i)) fun H0 S0 S H σ D k q => ?_
  refine hi H0 S0 S H σ k _ fun J S1 H1 g1 s1 it => ?_
  refine ⟨fun i m σ H => m = xs.length - i ∧ i ≤ xs.length ∧ ∃ S, Ok K H0 S0 S H σ (γs i) ∧ Ex S1 S, ⟨_, rfl, Nat.zero_le _, S1, (k.grow g1 s1).wk h0, Same.refl _⟩, ?_⟩
  rintro i m σ H ⟨rfl, hle, S, k', e1⟩
  by_cases hlt : i < xs.length
  · refine .inr ⟨it.go i S H e1 k'.sh (by rw [List.length_map]; exact hlt), fun σ' H' => ∃ S', Ok K H0 S0 S' H' σ' (γs (i + 1)) ∧ Ex S1 S', fun σ' H' ⟨S', k2, e2⟩ => ⟨xs.length - (i + 1), by omega, rfl, hlt, S', k2, e2⟩, fun x H' y => ?_⟩
    obtain ⟨γt, is, γb, ht, hb, hw⟩ := turn i xs[i] (by simp [hlt])
    obtain ⟨S2, g2, s2, hd⟩ := it.yld i S H x H' (enc xs[i]) e1 k'.sh (by rw [List.getElem?_map]; simp [hlt]) y
    have k2 := k'.grow g2 s2
    refine ht H0 S0 S2 H' σ x k2 hd _ fun σ' k3 _ _ => ?_
    rcases hb with hb | hb
    · exact hb H0 S2 S2 H' σ' _ k3.base fun S4 H4 σ4 k4 => ⟨S4, (k3.over k4).wk hw, Same.trans e1 (Same.trans g2.ss k4.s0)⟩
    · exact hb H0 S2 S2 H' σ' _ k3.base fun S4 H4 σ4 k4 => ⟨S4, (k3.over k4).wk hw, Same.trans e1 (Same.trans g2.ss k4.s0)⟩
  · have e : i = xs.length := by omega
    subst e
    refine .inl ⟨?_, q S H σ k'⟩
    have z := it.stop S H e1 k'.sh
    rw [List.length_map] at z
    exact z
/-- a turn hands back -/
theorem psd_forR (fx : Fx Xs P w K mg base N k) {α : Type} (xs : List α) (enc : α → D) (γs : Nat → Gm) (n : Nat) (r : Slot) (hi : PID K Xs tg a γ (xs.map enc)) (h0 : Wk γ (γs 0)) (hn : n < xs.length)
    (turn : ∀ (i : Nat) (x : α), i < n → xs[i]? = some x → ∃ γt is γb, TgD K Xs tg (γs i) (enc x) γt is ∧ (PSsD K Xs sts γt (.nx γb) ∨ PSsD K Xs sts γt (.ct γb)) ∧ Wk γb (γs (i + 1)))
    (last : ∀ x : α, xs[n]? = some x → ∃ γt is, TgD K Xs tg (γs n) (enc x) γt is ∧ PSsD K Xs sts γt (.rt r))
    (hp : ∀ i, PassesOwn (model (Xs i).prog (Xs i).w) (Xs i).A (Xs i).env (Xs i).xe := by first | exact fun _ => PassesOwn.never | exact fun _ => passes_of rfl)
    (hs : ∀ i, ∀ x, foldedSetIterable a (Xs i).env x = pure x := by exact fun _ _ => rfl) : PSD K Xs (.For tg a sts [] pos) γ (.rt r) := by
  refine .of (t := tFor (anyI Xs tg a) (anyG Xs tg) (anySs Xs sts)) (fun i => ps_for (hp i) (fx.calm i) (pi_any tg a i) (pg_any tg i) (pss_any sts i) (hs i)) fun H0 S0 S H σ D k q => ?_
  refine hi H0 S0 S H σ k _ fun J S1 H1 g1 s1 it => ?_
  refine ⟨fun i m σ H => m = xs.length - i ∧ i ≤ n ∧ ∃ S, Ok K H0 S0 S H σ (γs i) ∧ Ex S1 S, ⟨_, rfl, Nat.zero_le _, S1, (k.grow g1 s1).wk h0, Same.refl _⟩, ?_⟩
  rintro i m σ H ⟨rfl, hle, S, k', e1⟩
  have hlt : i < xs.length := by omega
  refine .inr ⟨it.go i S H e1 k'.sh (by rw [List.length_map]; exact hlt), fun σ' H' => i < n ∧ ∃ S', Ok K H0 S0 S' H' σ' (γs (i + 1)) ∧ Ex S1 S', fun σ' H' ⟨hin, S', k2, e2⟩ => ⟨xs.length - (i + 1), by omega, rfl, hin, S', k2, e2⟩, fun x H' y => ?_⟩
  obtain ⟨S2, g2, s2, hd⟩ := it.yld i S H x H' (enc xs[i]) e1 k'.sh (by rw [List.getElem?_map]; simp [hlt]) y
  have k2 := k'.grow g2 s2
  by_cases hin : i < n
  · obtain ⟨γt, is, γb, ht, hb, hw⟩ := turn i xs[i] hin (by simp [hlt])
    refine ht H0 S0 S2 H' σ x k2 hd _ fun σ' k3 _ _ => ?_
    rcases hb with hb | hb
    · exact hb H0 S2 S2 H' σ' _ k3.base fun S4 H4 σ4 k4 => ⟨hin, S4, (k3.over k4).wk hw, Same.trans e1 (Same.trans g2.ss k4.s0)⟩
    · exact hb H0 S2 S2 H' σ' _ k3.base fun S4 H4 σ4 k4 => ⟨hin, S4, (k3.over k4).wk hw, Same.trans e1 (Same.trans g2.ss k4.s0)⟩
  · have e : i = n := by omega
    subst e
    obtain ⟨γt, is, ht, hb⟩ := last xs[i] (by simp [hlt])
    exact ht H0 S0 S2 H' σ x k2 hd _ fun σ' k3 _ _ => hb H0 S0 S2 H' σ' _ k3 q
end
end Wd
set_option Elab.async false
set_option linter.all false
set_option maxRecDepth 100000
set_option maxHeartbeats 1000000
/-! Comprehensions; a def's promise by its body; stores into own lists and dicts. -/
namespace Wd
open PySem PySem.Spec L2
open PyProof.Rows hiding St

/-! ### a block's names -/
theorem allLt {l : List Nat} {n : Nat} (h : (l.all fun v => Nat.blt v n) = true) : ∀ v ∈ l, v < n := fun v hv => Nat.le_of_ble_eq_true (List.all_eq_true.mp h v hv)
def wipeG (γ : Gm) : List Nat → Gm
  | [] => γ
  | v :: vs => (wipeG γ vs).set v .un
theorem wipeG_length (γ : Gm) : ∀ vs, (wipeG γ vs).length = γ.length
  | [] => rfl
  | v :: vs => by unfold wipeG; rw [List.length_set, wipeG_length γ vs]
theorem wipe_at (σ : St) (j : Nat) : ∀ vs : List Nat, (wipe σ vs)[j]? = if j ∈ vs then (if j < σ.length then some none else none) else σ[j]?
  | [] => by simp [wipe]
  | v :: vs => by
    unfold wipe
    by_cases e : j = v
    · subst e
      rw [if_pos List.mem_cons_self]
      by_cases h : j < σ.length
      · rw [if_pos h, List.getElem?_set_self (by rw [wipe_length]; exact h)]
      · rw [if_neg h]
        exact List.getElem?_eq_none (by rw [List.length_set, wipe_length]; omega)
    · rw [List.getElem?_set_ne (fun z => e z.symm), wipe_at σ j vs]
      by_cases h : j ∈ vs
      · rw [if_pos h, if_pos (List.mem_cons_of_mem _ h)]
      · rw [if_neg h, if_neg (fun z => (List.mem_cons.mp z).elim e h)]
theorem wipe_eq {σ σ' : St} {vs is : List Nat} (hl : σ'.length = σ.length) (h : ∀ j, j ∉ is → σ'[j]? = (wipe σ vs)[j]?) (hi : ∀ j ∈ is, j ∈ vs) : wipe σ' vs = wipe σ vs := by
  apply List.ext_getElem?
  intro j
  rw [wipe_at, wipe_at]
  by_cases hj : j ∈ vs
  · rw [if_pos hj, if_pos hj, hl]
  · rw [if_neg hj, if_neg hj, h j (fun z => hj (hi j z)), wipe_at, if_neg hj]
section
variable {K : PySem.W.Frag} {H0 S0 S H : Hp} {σ : St} {γ : Gm}
theorem Ok.wipe (k : Ok K H0 S0 S H σ γ) : ∀ vs : List Nat, (∀ v ∈ vs, v < γ.length) → Ok K H0 S0 S H (L2.wipe σ vs) (wipeG γ vs)
  | [], _ => k
  | v :: vs, h => (Ok.wipe k vs fun u hu => h u (List.mem_cons_of_mem _ hu)).un_ (by rw [wipeG_length]; exact h v List.mem_cons_self)
end

abbrev Bk : Type := Shared × Hp × Addr × List (Str × Addr) × List Addr
/-- the contexts of a comprehension's block -/
abbrev blkF {ι : Type} (Xs : ι → Cx) (scope : Scope) : ι × Bk → Cx := fun j => (Xs j.1).blk j.2.1 j.2.2.1 scope (compEnvC scope j.2.2.2.2.1 j.2.2.2.1 (Xs j.1).env) j.2.2.2.2.2
section
variable {ι : Type} {Xs : ι → Cx} {P : Program} {w : World} {K : PySem.W.Frag} {mg : Str → Option Value} {base : Heap} {N : List Str} {k : Nat} {γ γ' γ1 γ2 : Gm} {d d1 d2 : D} {ds : List D} {rs : Slot} {e a b c : Expr} {es : List Expr} {pos pos' : Pos} {x : Str} {tv tw : Bool} {st : Stmt} {sts sts' : List Stmt} {o : Out} {is js : List Nat} {tg : Expr} {tgs : List Expr}
theorem Fx.blk (fx : Fx Xs P w K mg base N k) (scope : Scope) : Fx (blkF Xs scope) P w K mg base N k :=
  ⟨fun i => fx.hP i.1, fun i => fx.hw i.1, fun i => fx.hK i.1, fun i => fx.hmg i.1, fun i => fx.hb i.1, fun i => fx.hN i.1, fx.nd, fun i => fx.calm i.1, fun i => fx.room i.1⟩
theorem ptsd_nil : PTsD K Xs [] γ true := fun H0 S0 S H σ k Q q => ⟨tYes, fun _ => pts_nil, q S H (Gr.refl _ _) k.sh⟩
theorem ptsd_one (h : PTD K Xs c γ tv) : PTsD K Xs [c] γ tv := fun H0 S0 S H σ k Q q => ⟨anyT Xs c, fun i => pts_one (pt_any c i), h H0 S0 S H σ k Q q⟩

/-- the reading of a comprehension, by data -/
theorem evd_lc {elt : Expr} {ifs : List Expr} {scope : Scope} {α : Type} (xs : List α) (enc : α → D) (f : α → Bool) (v : α → D) (vs : List Nat) (hi : PID K Xs tg a γ (xs.map enc)) (hvs : ∀ v ∈ vs, v < γ.length) (hl : xs.length < sizeLine)
    (turn : ∀ x ∈ xs, ∃ γt is, TgD K (blkF Xs scope) tg (wipeG γ vs) (enc x) γt is ∧ (∀ j ∈ is, j ∈ vs) ∧ PTsD K (blkF Xs scope) ifs γt (f x) ∧ (f x = true → PED K (blkF Xs scope) elt γt (.sh (v x)))) :
    EvD K (tLc (anyI Xs tg a) (anyG (blkF Xs scope) tg) (anyTs (blkF Xs scope) ifs) (anyE (blkF Xs scope) elt) vs) γ (.ow (.lst ((xs.filter f).map v))) := by
  intro H0 S0 S H σ k Q q
  refine hi H0 S0 S H σ k _ fun J S1 H1 g1 s1 it L hL => ?_
  have k1 := k.grow g1 s1
  have kw := k1.wipe vs hvs
  have hS1 : S1 L = none := s1.out hL
  have no : ∀ (i : Nat) (d : D), (wipeG γ vs)[i]? = some (.ow d) → (wipe σ vs)[i]? ≠ some (some (.ref L)) := fun i d hi hr => by
    obtain ⟨l, e1, _, _, e2⟩ := kw.en i _ hi
    rw [hr] at e1
    cases e1
    obtain ⟨o, ho⟩ := e2.there
    rw [hL] at ho
    cases ho
  have h0L : H0 L = none := Ex.back k1.h0 hL
  -- the turns' state: a region, the list so far
  refine ⟨fun i m H' => m = xs.length - i ∧ i ≤ xs.length ∧ ∃ (S' : Hp) (acc : List V), Ok K H0 S0 S' H' (wipe σ vs) (wipeG γ vs) ∧ Ex S1 S' ∧ (∀ b o, H1 b = some o → H' b = some o) ∧ (∀ b o, S' b = some o → S1 b = none → H1 b = none) ∧ S' L = none ∧ H' L = some (.lst acc) ∧ Dats K S' acc (((xs.take i).filter f).map v),
    ⟨_, rfl, Nat.zero_le _, S1, [], kw.mut h0L hS1 no, Same.refl _, Ex.new hL, fun b o h n => (by rw [n] at h; cases h), hS1, upd_same, .nil⟩, ?_⟩
  rintro i m H' ⟨rfl, hle, S', acc, k2, e2, hh, nw, hSL, hHL, hd⟩
  by_cases hlt : i < xs.length
  · refine .inr ⟨it.go i S' H' e2 k2.sh (by rw [List.length_map]; exact hlt), fun H'' => ∃ (S'' : Hp) (acc' : List V), Ok K H0 S0 S'' H'' (wipe σ vs) (wipeG γ vs) ∧ Ex S1 S'' ∧ (∀ b o, H1 b = some o → H'' b = some o) ∧ (∀ b o, S'' b = some o → S1 b = none → H1 b = none) ∧ S'' L = none ∧ H'' L = some (.lst acc') ∧ Dats K S'' acc' (((xs.take (i + 1)).filter f).map v), fun H'' z => ⟨xs.length - (i + 1), by omega, rfl, hlt, z⟩, fun y H2 yl => ?_⟩
    have hx : xs[i]? = some xs[i] := by simp [hlt]
    obtain ⟨γt, is, ht, his, htt, hel⟩ := turn xs[i] (List.getElem_mem hlt)
    obtain ⟨S2, g2, s2, hy⟩ := it.yld i S' H' y H2 (enc xs[i]) e2 k2.sh (by rw [List.getElem?_map, hx]; rfl) yl
    have k3 := k2.grow g2 s2
    have nw2 : ∀ b o, S2 b = some o → S1 b = none → H1 b = none := fun b o hb hn => by
      cases z : S' b with
      | some u => exact nw b u z hn
      | none =>
        cases z1 : H1 b with
        | none => rfl
        | some u =>
          have := g2.nw b o hb z
          rw [hh b u z1] at this
          cases this
    have hS2 : S2 L = none := g2.out hSL hHL
    refine ht H0 S0 S2 H2 (wipe σ vs) y k3 hy _ fun σ' k4 l4 e4 => ?_
    refine ⟨wipe_eq (l4.trans (wipe_length σ vs)) e4 his, ?_⟩
    have etk : xs.take (i + 1) = xs.take i ++ [xs[i]] := by rw [List.take_add_one, hx]; rfl
    refine htt H0 S0 S2 H2 σ' k4 _ fun S3 H3 g3 s3 => ?_
    have nw3 : ∀ b o, S3 b = some o → S1 b = none → H1 b = none := fun b o hb hn => by
      cases z : S2 b with
      | some u => exact nw2 b u z hn
      | none =>
        cases z1 : H1 b with
        | none => rfl
        | some u =>
          have := g3.nw b o hb z
          rw [g2.hh b u (hh b u z1)] at this
          cases this
    have hHL3 : H3 L = some (.lst acc) := g3.hh _ _ (g2.hh _ _ hHL)
    have hS3 : S3 L = none := g3.out hS2 (g2.hh _ _ hHL)
    cases hf : f xs[i] with
    | false =>
      refine iteF ?_
      refine ⟨S3, acc, k2.grow (g2.trans g3) s3, Same.trans e2 (Same.trans g2.ss g3.ss), fun b o hb => g3.hh b o (g2.hh b o (hh b o hb)), nw3, hS3, hHL3, ?_⟩
      rw [etk, List.filter_append, List.filter_cons, if_neg (by rw [hf]; decide)]
      show Dats K S3 acc (List.map v (_ ++ []))
      rw [List.append_nil]
      exact hd.ex (Same.trans g2.ss g3.ss)
    | true =>
      refine iteT (hel hf H0 S0 S3 H3 σ' (k4.grow g3 s3) _ fun z S4 H4 g4 s4 r4 => ?_)
      have hHL4 : H4 L = some (.lst acc) := g4.hh _ _ hHL3
      have hS4 : S4 L = none := g4.out hS3 hHL3
      have k5 := k2.grow ((g2.trans g3).trans g4) s4
      have e5 : Ex S1 S4 := Same.trans e2 (Same.trans g2.ss (Same.trans g3.ss g4.ss))
      refine ⟨acc, hHL4, ?_, S4, acc ++ [z], k5.mut h0L hS4 no, e5, fun b o hb => ?_, fun b o hb hn => ?_, hS4, upd_same, ?_⟩
      · have hlen := hd.length
        rw [List.length_map] at hlen
        have h2 : ((xs.take i).filter f).length ≤ xs.length := Nat.le_trans (List.length_filter_le _ _) (by rw [List.length_take]; omega)
        omega
      · rw [upd_ne (ne_of_none hb hL)]
        exact g4.hh b o (g3.hh b o (g2.hh b o (hh b o hb)))
      · cases z : S3 b with
        | some u => exact nw3 b u z hn
        | none =>
          cases z1 : H1 b with
          | none => rfl
          | some u =>
            have := g4.nw b o hb z
            rw [g3.hh b u (g2.hh b u (hh b u z1))] at this
            cases this
      · rw [etk, List.filter_append, List.filter_cons, if_pos hf, List.map_append]
        exact (hd.ex (Same.trans g2.ss (Same.trans g3.ss g4.ss))).snoc r4
  · have e : i = xs.length := by omega
    subst e
    refine .inl ⟨?_, ?_⟩
    · have z := it.stop S' H' e2 k2.sh
      rw [List.length_map] at z
      exact z
    · rw [List.take_length] at hd
      have g5 : Gr S H S' H' := ⟨Same.trans g1.ss e2, fun b o hb => hh b o (g1.hh b o hb), fun b o hb hn => by
        cases z : S1 b with
        | some u => exact g1.nw b u z hn
        | none =>
          cases z1 : H b with
          | none => rfl
          | some u =>
            have := nw b o hb z
            rw [g1.hh b u z1] at this
            cases this⟩
      exact q (.ref L) S' H' g5 k2.sh ⟨L, rfl, hSL, Ex.back g1.hh hL, ⟨acc, hHL, hd⟩⟩
/-- [elt for tg in a if ..] -/
theorem pd_lc (fx : Fx Xs P w K mg base N k) {elt : Expr} {ifs : List Expr} {scope : Scope} (own : List (Str × Nat)) {α : Type} (xs : List α) (enc : α → D) (f : α → Bool) (v : α → D) (hi : PID K Xs tg a γ (xs.map enc)) (hl : xs.length < sizeLine)
    (turn : ∀ x ∈ xs, ∃ γt is, TgD K (blkF Xs scope) tg (wipeG γ (own.map (·.2))) (enc x) γt is ∧ (∀ j ∈ is, j ∈ own.map (·.2)) ∧ PTsD K (blkF Xs scope) ifs γt (f x) ∧ (f x = true → PED K (blkF Xs scope) elt γt (.sh (v x))))
    (ok : ∀ i, BlkOk N (Xs i).env.scope scope own) (hvs : ∀ v ∈ own.map (·.2), v < γ.length := by exact allLt rfl) (hs : ∀ i, ∀ x, foldedSetIterable a (Xs i).env x = pure x := by exact fun _ _ => rfl) :
    PED K Xs (.ListComp elt [⟨tg, a, ifs, 0⟩] scope pos) γ (.ow (.lst ((xs.filter f).map v))) :=
  .of (fun i => pe_lc (fx.calm i) (by rw [fx.hN i]; exact fx.nd) (pi_any tg a i) (by rw [fx.hN i]; exact ok i) (fun s H C cl fp => pg_any (Xs := blkF Xs scope) tg (i, s, H, C, cl, fp)) (fun s H C cl fp => pts_any (Xs := blkF Xs scope) ifs (i, s, H, C, cl, fp)) (fun s H C cl fp => pe_any (Xs := blkF Xs scope) elt (i, s, H, C, cl, fp)) (hs i))
    (evd_lc xs enc f v (own.map (·.2)) hi hvs hl turn)
/-- y = [elt for tg in a if ..] -/
theorem psd_setLc (fx : Fx Xs P w K mg base N k) (i : Nat) {y : Str} {py : Pos} {elt : Expr} {ifs : List Expr} {scope : Scope} (own : List (Str × Nat)) {α : Type} (xs : List α) (enc : α → D) (f : α → Bool) (v : α → D) (hi : PID K Xs tg a γ (xs.map enc)) (hl : xs.length < sizeLine)
    (turn : ∀ x ∈ xs, ∃ γt is, TgD K (blkF Xs scope) tg (wipeG γ (own.map (·.2))) (enc x) γt is ∧ (∀ j ∈ is, j ∈ own.map (·.2)) ∧ PTsD K (blkF Xs scope) ifs γt (f x) ∧ (f x = true → PED K (blkF Xs scope) elt γt (.sh (v x))))
    (ok : ∀ i, BlkOk N (Xs i).env.scope scope own) (hN : N[i]? = some y := by rfl) (hyl : ∀ j, (Xs j).env.scope.names.lookup y = some .local := by exact fun _ => rfl)
    (hsw : ∀ j, swapsWith (.ListComp elt [⟨tg, a, ifs, 0⟩] scope pos) (some (.Name y py)) pos'.line (Xs j).env = pure true := by exact fun _ => sw_true rfl rfl rfl (by decide +kernel)) (hg : i < γ.length := by exact Nat.le_of_ble_eq_true rfl) (hvs : ∀ v ∈ own.map (·.2), v < γ.length := by exact allLt rfl) (hs : ∀ i, ∀ x, foldedSetIterable a (Xs i).env x = pure x := by exact fun _ _ => rfl) :
    PSD K Xs (.Assign [.Name y py] (.ListComp elt [⟨tg, a, ifs, 0⟩] scope pos) pos') γ (.nx (γ.set i (.ow (.lst ((xs.filter f).map v))))) :=
  .of (t := tAsg (tLc (anyI Xs tg a) (anyG (blkF Xs scope) tg) (anyTs (blkF Xs scope) ifs) (anyE (blkF Xs scope) elt) (own.map fun x : Str × Nat => x.2)) (gName i)) (fun j => ps_setLc (i := i) (fx.calm j) (by rw [fx.hN j]; exact fx.nd) (by rw [fx.hN j]; exact hN) (hyl j) (hsw j) (pi_any tg a j) (by rw [fx.hN j]; exact ok j) (fun s H C cl fp => pg_any (Xs := blkF Xs scope) tg (j, s, H, C, cl, fp)) (fun s H C cl fp => pts_any (Xs := blkF Xs scope) ifs (j, s, H, C, cl, fp)) (fun s H C cl fp => pe_any (Xs := blkF Xs scope) elt (j, s, H, C, cl, fp)) (hs j))
    fun H0 S0 S H σ D k q => (show tLc (anyI Xs tg a) (anyG (blkF Xs scope) tg) (anyTs (blkF Xs scope) ifs) (anyE (blkF Xs scope) elt) (own.map fun x : Str × Nat => x.2) σ H (fun x H1 => gName i x σ H1 D.nx) from evd_lc (Xs := Xs) (scope := scope) (ifs := ifs) (elt := elt) xs enc f v (own.map fun x : Str × Nat => x.2) hi hvs hl turn H0 S0 S H σ k (fun x H1 => gName i x σ H1 D.nx) fun v S' H' g s r => q S' H' _ (k.res g s r hg))

/-! ### a def's promise, by its body -/
def γ0 (N : List Str) (ds : List D) : Gm := ds.map .sh ++ List.replicate (N.length - ds.length) .un
/-- how a body's end is a result -/
inductive FinO : Out → Slot → Prop
  | rt {r} : FinO (.rt r) r
  | nx {γ : Gm} : FinO (.nx γ) (.sh .non)
theorem ok_start {vs : List V} {ds : List D} {H S : Hp} (s : Sub S H) (h : Dats K S vs ds) (hl : ds.length ≤ N.length) : Ok K H S S H (L2.start N vs) (γ0 N ds) where
  h0 := Same.refl _
  s0 := Same.refl _
  sh := s
  nw := fun b o h n => by rw [n] at h; cases h
  len := by
    have := h.length
    unfold L2.start γ0
    simp only [List.length_append, List.length_map, List.length_replicate, this]
  en := fun i t ht => by
    unfold γ0 at ht
    by_cases hi : i < ds.length
    · rw [List.getElem?_append_left (by rw [List.length_map]; exact hi), List.getElem?_map] at ht
      cases e : ds[i]? with
      | none => rw [e] at ht; cases ht
      | some d =>
        rw [e] at ht
        cases ht
        obtain ⟨v, hv, hd⟩ := h.get e
        refine ⟨v, ?_, hd⟩
        unfold L2.start
        rw [List.getElem?_append_left (by rw [List.length_map, h.length]; exact hi), List.getElem?_map, hv]
        rfl
    · rw [List.getElem?_append_right (by rw [List.length_map]; omega), List.getElem?_replicate] at ht
      split at ht
      · cases ht; trivial
      · cases ht
  ds := fun i j d e l hi _ _ _ => by
    unfold γ0 at hi
    by_cases h1 : i < ds.length
    · rw [List.getElem?_append_left (by rw [List.length_map]; exact h1), List.getElem?_map] at hi
      cases e : ds[i]? with
      | none => rw [e] at hi; cases hi
      | some d => rw [e] at hi; cases hi
    · rw [List.getElem?_append_right (by rw [List.length_map]; omega), List.getElem?_replicate] at hi
      split at hi <;> cases hi
/-- a def's body's contexts -/
abbrev bodyX (P : Program) (w : World) (K : PySem.W.Frag) (mg : Str → Option Value) (base : Heap) (N : List Str) (qual : Str) (scope : Scope) (f : Addr) (cdv : Value) (A : Around) (outer : List Env) (s : Shared) (H : Hp) (E : XK) : Unit → Cx := fun _ => (cxOf (L2.CX P w) P w K mg base N qual scope f cdv A outer s H E).nox
/-- THE RULE for a def by data -/
theorem fn_data {x qual : Str} {params : Arguments} {body : List Stmt} {scope : Scope} {dvs : List V} {kws : List (Str × V)} {f : Addr} {fd : FuncData} {N ps : List Str} {Pr : List D → Slot → Prop} (F : FunD K x qual params body scope dvs kws f fd) (Sc : FnScope N ps scope) (len : ∀ ds r, Pr ds r → ds.length = ps.length)
    (h : ∀ (cdv : Value) (A : Around) (outer : List Env) (s : Shared) (H : Hp) (E : XK), Fx (bodyX P w K mg base N qual scope f cdv A outer s H E) P w K mg base N k → ∀ ds r, Pr ds r → ∃ o, PSsD K (bodyX P w K mg base N qual scope f cdv A outer s H E) body (γ0 N ds) o ∧ FinO o r) : FnOk P w K mg base (L2.CX P w) (k + 1) f fd ps (spD K Pr) := by
  refine F.ok Sc (fun vs H Q E ⟨S, ds, r, _, hd, hp, _⟩ => hd.length.trans (len ds r hp)) fun cdv A outer s H vs Q E hr ⟨S, ds, r, hs, hd, hp, q⟩ => ?_
  have fx : Fx (bodyX P w K mg base N qual scope f cdv A outer s H E) P w K mg base N k := ⟨fun _ => rfl, fun _ => rfl, fun _ => rfl, fun _ => rfl, fun _ => rfl, fun _ => rfl, Sc.nd, fun _ => rfl, fun _ => hr⟩
  obtain ⟨o, ho, hf⟩ := h cdv A outer s H E fx ds r hp
  have hpl : ds.length ≤ N.length := by
    have h1 := congrArg List.length Sc.pre
    rw [List.length_take] at h1
    have h2 := len ds r hp
    omega
  refine ⟨_, (pss_any (Xs := fun _ : Unit => (cxOf (L2.CX P w) P w K mg base N qual scope f cdv A outer s H E).nox) body ()).nox, ho H S S H _ _ (ok_start hs hd hpl) ?_⟩
  cases hf with
  | rt =>
    refine fun v S' H' h1 h2 h3 h4 h5 => q v S' H' ⟨h2, h1, fun b o hb hn => h4 b o hb hn⟩ h3 ?_
    cases r with
    | un => trivial
    | tw _ _ => exact h5
    | sh d => exact h5
    | ow d => exact h5
  | nx => exact fun S' H' σ' k' => q .non S' H' ⟨k'.s0, k'.h0, k'.nw⟩ k'.sh .non
end
end Wd
namespace Wd
open PySem PySem.Spec L2
open PyProof.Rows hiding St
section
variable {ι : Type} {Xs : ι → Cx} {K : PySem.W.Frag} {γ : Gm} {r : Slot} {c : Expr} {sts rest : List Stmt} {pos : Pos} {tv : Bool}
/-- if c: .. return; rest -/
theorem pssd_ifret (hc : PTD K Xs c γ tv) (h1 : tv = true → PSsD K Xs sts γ (.rt r)) (h2 : tv = false → PSsD K Xs rest γ (.rt r)) : PSsD K Xs (.If c sts [] pos :: rest) γ (.rt r) := by
  cases tv with
  | true => exact pssd_rt (psd_ifT hc (h1 rfl))
  | false => exact pssd_cons (psd_ifF hc pssd_nil) (h2 rfl)
theorem rd_lt {i j : Int} : RD K (rI0 fun i j => .bl (decide (i < j))) (.int i) (.int j) (.sh (.bl (decide (i < j)))) := fun S H x y s h1 h2 Q q => by cases h1; cases h2; exact ⟨_, _, rfl, rfl, here s .bl q⟩
theorem rd_le {i j : Int} : RD K (rI0 fun i j => .bl (decide (i ≤ j))) (.int i) (.int j) (.sh (.bl (decide (i ≤ j)))) := fun S H x y s h1 h2 Q q => by cases h1; cases h2; exact ⟨_, _, rfl, rfl, here s .bl q⟩
theorem rd_gt {i j : Int} : RD K (rI0 fun i j => .bl (decide (j < i))) (.int i) (.int j) (.sh (.bl (decide (j < i)))) := fun S H x y s h1 h2 Q q => by cases h1; cases h2; exact ⟨_, _, rfl, rfl, here s .bl q⟩
theorem rd_ge {i j : Int} : RD K (rI0 fun i j => .bl (decide (j ≤ i))) (.int i) (.int j) (.sh (.bl (decide (j ≤ i)))) := fun S H x y s h1 h2 Q q => by cases h1; cases h2; exact ⟨_, _, rfl, rfl, here s .bl q⟩
end
end Wd
set_option Elab.async false
set_option linter.all false
set_option maxRecDepth 100000
set_option maxHeartbeats 1000000
/-! in, slices, isinstance, texts walked, own objects changed, __init__. -/
namespace Wd
open PySem PySem.Spec L2
open PyProof.Rows hiding St

/-- x in a list or tuple of flat data; one sign in a text; a key in a dict -/
inductive InD : D → D → Bool → Prop
  | lst {c ds d v vs} : IsL c ds → ds.map dV = vs.map some → dV d = some v → InD d c (inV v vs)
  | tup {c ds d v vs} : IsT c ds → ds.map dV = vs.map some → dV d = some v → InD d c (inV v vs)
  | sign {c : Nat} {z : Str} : InD (.str ⟨#[c]⟩) (.str z) (decide (c ∈ z.cps.toList))
  | dki {ds i} : InD (.int i) (.dk ds) (getK ds (Sum.inl i : Key)).isSome
  | dks {ds x} : InD (.str x) (.dk ds) (getK ds (Sum.inr x : Key)).isSome
  | dt {ds ks} {k : List Key} : ks = k.map keyD → InD (.tup ks) (.dt ds) (getK ds k).isSome
def cutD {α : Type} (xs : List α) (lo hi : Option Int) : List α := (xs.drop (HT.sIx xs.length 0 lo)).take (HT.sIx xs.length xs.length hi - HT.sIx xs.length 0 lo)
inductive SlD : D → Option Int → Option Int → Slot → Prop
  | lst {c ds lo hi} : IsL c ds → SlD c lo hi (.ow (.lst (cutD ds lo hi)))
  | tup {ds lo hi} : SlD (.tup ds) lo hi (.sh (.tup (cutD ds lo hi)))
section
variable {ι : Type} {Xs : ι → Cx} {P : Program} {w : World} {K : PySem.W.Frag} {mg : Str → Option Value} {base : Heap} {N : List Str} {k : Nat} {γ γ' γ1 γ2 : Gm} {d d1 d2 : D} {ds : List D} {rs r : Slot} {e a b c o : Expr} {es : List Expr} {pos pos' apos : Pos} {x : Str} {tv tw : Bool} {st : Stmt} {sts sts' rest : List Stmt} {ot : Out} {is js : List Nat} {tg : Expr} {tgs : List Expr}

/-! ### in, not in -/
def rInU (K : PySem.W.Frag) : R2 := fun x y H Q => rIn K false x y H Q ∨ ∃ (c : Nat) (z : Str), x = .str ⟨#[c]⟩ ∧ y = .str z ∧ Q (.bl (decide (c ∈ z.cps.toList))) H
def rInD (y x : V) (H2 : Hp) (Q : VK) : Prop := ∃ a o, x = .ref a ∧ DGet H2 a y o ∧ Q (.bl o.isSome) H2
theorem in_reads (h : InD d1 d2 tv) : RD K (rInU K) d1 d2 (.sh (.bl tv)) ∨ RD K rInD d1 d2 (.sh (.bl tv)) := by
  cases h with
  | lst hl hv hd =>
    refine .inl fun S H x y s h1 h2 Q q => .inl ?_
    obtain ⟨p, xs, rfl, hq, t⟩ := isL_of hl h2 s
    obtain ⟨rfl, fx⟩ := dV_of h1 hd
    obtain ⟨rfl, fs⟩ := dVs_of t hv
    exact ⟨p, _, rfl, .inl hq, fx, fs, here s .bl q⟩
  | tup hl hv hd =>
    refine .inl fun S H x y s h1 h2 Q q => .inl ?_
    obtain ⟨p, xs, rfl, hq, t⟩ := isT_of hl h2 s
    obtain ⟨rfl, fx⟩ := dV_of h1 hd
    obtain ⟨rfl, fs⟩ := dVs_of t hv
    exact ⟨p, _, rfl, .inr hq, fx, fs, here s .bl q⟩
  | sign => exact .inl fun S H x y s h1 h2 Q q => .inr (by cases h1; cases h2; exact ⟨_, _, rfl, rfl, here s .bl q⟩)
  | dki =>
    refine .inr fun S H x y s h1 h2 Q q => ?_
    cases h1
    cases h2 with
    | dk a1 k1 t1 => exact ⟨_, _, rfl, .inl ⟨_, Sum.inl _, s.rd (.inl a1), rfl, rfl⟩, by rw [getV_isSome k1 t1]; exact here s .bl q⟩
  | dks =>
    refine .inr fun S H x y s h1 h2 Q q => ?_
    cases h1
    cases h2 with
    | dk a1 k1 t1 => exact ⟨_, _, rfl, .inl ⟨_, Sum.inr _, s.rd (.inl a1), rfl, rfl⟩, by rw [getV_isSome k1 t1]; exact here s .bl q⟩
  | @dt ds ks kk hk =>
    refine .inr fun S H x y s h1 h2 Q q => ?_
    subst hk
    cases h1 with
    | tup a1 t1 =>
      cases h2 with
      | dt a2 k2 t2 =>
        have e := keys_of t1
        subst e
        exact ⟨_, _, rfl, .inr ⟨_, kk, _, s.rd (.inl a2), rfl, s.tup a1, rfl⟩, by rw [getV_isSome k2 t2]; exact here s .bl q⟩
theorem pd_in (fx : Fx Xs P w K mg base N k) (ha : PED K Xs a γ (.sh d1)) (hb : PED K Xs b γ (.sh d2)) (h : InD d1 d2 tv) (hm : behindInMarks .In b = false := by with_unfolding_all rfl) : PED K Xs (.Compare a [.In] [b] pos) γ (.sh (.bl tv)) := by
  refine .of (t := fun σ H Q => tOp (rInU K) (anyE Xs a) (anyE Xs b) σ H Q ∨ tDIn (anyE Xs a) (anyE Xs b) σ H Q) (fun i => pe_or2 ?_ (pe_cmp (pc_din (fx.hu i) (pe_any a i) (pe_any b i)) hm)) (evd_or ?_)
  · have z := pe_cmpR (pos := pos) (OpR.or (op_in_seq (X := Xs i)) op_in_sign) (pe_any a i) (pe_any b i) hm
    rw [fx.hK i] at z
    exact z
  · exact (in_reads h).imp (fun z => evd_op ha hb z) fun z => show EvD K (tOp rInD (anyE Xs a) (anyE Xs b)) γ _ from evd_op ha hb z
theorem ptd_in (fx : Fx Xs P w K mg base N k) (ha : PED K Xs a γ (.sh d1)) (hb : PED K Xs b γ (.sh d2)) (h : InD d1 d2 tv) (hm : behindInMarks .In b = false := by with_unfolding_all rfl) : PTD K Xs (.Compare a [.In] [b] pos) γ tv := by
  refine .of (t := fun σ H Q => tTest (tOp (rInU K) (anyE Xs a) (anyE Xs b)) σ H Q ∨ tB (tDIn (anyE Xs a) (anyE Xs b)) σ H Q) (fun i => ⟨fun pins s σ H Q I q => q.elim (fun q => PT.run ?_ pins s σ H Q I q) fun q => (pt_cmp (pc_din (fx.hu i) (pe_any a i) (pe_any b i)) hm).run pins s σ H Q I q⟩) fun H0 S0 S H σ k Q q => ?_
  · have z := pt_cmpR (pos := pos) (OpR.or (op_in_seq (X := Xs i)) op_in_sign) (pe_any a i) (pe_any b i) hm
    rw [fx.hK i] at z
    exact z
  · rcases in_reads h with z | z
    · exact .inl (evt_test (evd_op ha hb z) H0 S0 S H σ k Q q)
    · exact .inr (evt_B (show EvD K (tOp rInD (anyE Xs a) (anyE Xs b)) γ _ from evd_op ha hb z) H0 S0 S H σ k Q q)
def rNiU (K : PySem.W.Frag) : R2 := fun x y H Q => rIn K true x y H Q ∨ ∃ (c : Nat) (z : Str), x = .str ⟨#[c]⟩ ∧ y = .str z ∧ Q (.bl (!decide (c ∈ z.cps.toList))) H
def rNiD (y x : V) (H2 : Hp) (Q : VK) : Prop := ∃ a o, x = .ref a ∧ DGet H2 a y o ∧ Q (.bl (!o.isSome)) H2
theorem ni_reads (h : InD d1 d2 tv) : RD K (rNiU K) d1 d2 (.sh (.bl (!tv))) ∨ RD K rNiD d1 d2 (.sh (.bl (!tv))) := by
  cases h with
  | lst hl hv hd =>
    refine .inl fun S H x y s h1 h2 Q q => .inl ?_
    obtain ⟨p, xs, rfl, hq, t⟩ := isL_of hl h2 s
    obtain ⟨rfl, fx⟩ := dV_of h1 hd
    obtain ⟨rfl, fs⟩ := dVs_of t hv
    exact ⟨p, _, rfl, .inl hq, fx, fs, here s .bl q⟩
  | tup hl hv hd =>
    refine .inl fun S H x y s h1 h2 Q q => .inl ?_
    obtain ⟨p, xs, rfl, hq, t⟩ := isT_of hl h2 s
    obtain ⟨rfl, fx⟩ := dV_of h1 hd
    obtain ⟨rfl, fs⟩ := dVs_of t hv
    exact ⟨p, _, rfl, .inr hq, fx, fs, here s .bl q⟩
  | sign => exact .inl fun S H x y s h1 h2 Q q => .inr (by cases h1; cases h2; exact ⟨_, _, rfl, rfl, here s .bl q⟩)
  | dki =>
    refine .inr fun S H x y s h1 h2 Q q => ?_
    cases h1
    cases h2 with
    | dk a1 k1 t1 => exact ⟨_, _, rfl, .inl ⟨_, Sum.inl _, s.rd (.inl a1), rfl, rfl⟩, by rw [getV_isSome k1 t1]; exact here s .bl q⟩
  | dks =>
    refine .inr fun S H x y s h1 h2 Q q => ?_
    cases h1
    cases h2 with
    | dk a1 k1 t1 => exact ⟨_, _, rfl, .inl ⟨_, Sum.inr _, s.rd (.inl a1), rfl, rfl⟩, by rw [getV_isSome k1 t1]; exact here s .bl q⟩
  | @dt ds ks kk hk =>
    refine .inr fun S H x y s h1 h2 Q q => ?_
    subst hk
    cases h1 with
    | tup a1 t1 =>
      cases h2 with
      | dt a2 k2 t2 =>
        have e := keys_of t1
        subst e
        exact ⟨_, _, rfl, .inr ⟨_, kk, _, s.rd (.inl a2), rfl, s.tup a1, rfl⟩, by rw [getV_isSome k2 t2]; exact here s .bl q⟩
theorem ptd_ni (fx : Fx Xs P w K mg base N k) (ha : PED K Xs a γ (.sh d1)) (hb : PED K Xs b γ (.sh d2)) (h : InD d1 d2 tv) (hm : behindInMarks .NotIn b = false := by with_unfolding_all rfl) : PTD K Xs (.Compare a [.NotIn] [b] pos) γ (!tv) := by
  refine .of (t := fun σ H Q => tTest (tOp (rNiU K) (anyE Xs a) (anyE Xs b)) σ H Q ∨ tB (tDNotIn (anyE Xs a) (anyE Xs b)) σ H Q) (fun i => ⟨fun pins s σ H Q I q => q.elim (fun q => PT.run ?_ pins s σ H Q I q) fun q => (pt_cmp (pc_dnotin (fx.hu i) (pe_any a i) (pe_any b i)) hm).run pins s σ H Q I q⟩) fun H0 S0 S H σ k Q q => ?_
  · have z := pt_cmpR (pos := pos) (OpR.or (op_notIn_seq (X := Xs i)) op_notIn_sign) (pe_any a i) (pe_any b i) hm
    rw [fx.hK i] at z
    exact z
  · rcases ni_reads h with z | z
    · exact .inl (evt_test (evd_op ha hb z) H0 S0 S H σ k Q q)
    · exact .inr (evt_B (show EvD K (tOp rNiD (anyE Xs a) (anyE Xs b)) γ _ from evd_op ha hb z) H0 S0 S H σ k Q q)

/-! ### a[lo:hi] -/
def EvO (K : PySem.W.Frag) (to : TO) (γ : Gm) (oi : Option Int) : Prop := ∀ (H0 S0 S H : Hp) (σ : L2.St), Ok K H0 S0 S H σ γ → ∀ Q : Option Int → Hp → Prop, (∀ S' H', Gr S H S' H' → Sub S' H' → Q oi H') → to σ H Q
def anyO (Xs : ι → Cx) (e : Option Expr) : TO := fun σ H Q => ∃ t, (∀ i, PO (Xs i) e t) ∧ t σ H Q
theorem po_any (e : Option Expr) (i : ι) : PO (Xs i) e (anyO Xs e) := ⟨fun pins s σ H Q I ⟨t, h, q⟩ => (h i).run pins s σ H Q I q⟩
def POD (K : PySem.W.Frag) (Xs : ι → Cx) (e : Option Expr) (γ : Gm) (oi : Option Int) : Prop := EvO K (anyO Xs e) γ oi
theorem pod_none : POD K Xs none γ none := fun H0 S0 S H σ k Q q => ⟨tNoPart, fun _ => po_none, q S H (Gr.refl _ _) k.sh⟩
theorem pod_some {i : Int} (h : PED K Xs e γ (.sh (.int i))) : POD K Xs (some e) γ (some i) := fun H0 S0 S H σ k Q q => ⟨tPart (anyE Xs e), fun i => po_some (pe_any e i), h H0 S0 S H σ k _ fun v S' H' g s r => by cases r; exact ⟨i, rfl, q S' H' g s⟩⟩
theorem cut_d {S : Hp} {xs : List V} {lo hi : Option Int} (t : Dats K S xs ds) : Dats K S (cutV xs lo hi) (cutD ds lo hi) := by
  unfold cutV cutD
  rw [t.length]
  exact (t.drop _).take _
def rSlU (K : PySem.W.Frag) : V → Option Int → Option Int → Hp → VK → Prop := fun x lo hi H Q => rSlL K x lo hi H Q ∨ rSlA K x lo hi H Q
theorem pd_slice (fx : Fx Xs P w K mg base N k) {lo hi : Option Expr} {l u : Option Int} {p2 : Pos} (ha : PED K Xs a γ (.sh d)) (hl : POD K Xs lo γ l) (hu : POD K Xs hi γ u) (h : SlD d l u r) : PED K Xs (.Subscript a (.Slice lo hi none p2) pos) γ r := by
  refine .of (t := tSl (rSlU K) (anyE Xs a) (anyO Xs lo) (anyO Xs hi)) (fun i => ?_) fun H0 S0 S H σ k Q q => ha H0 S0 S H σ k _ fun v S1 H1 g1 s1 r1 => hl H0 S0 S1 H1 σ (k.grow g1 s1) _ fun S2 H2 g2 s2 => hu H0 S0 S2 H2 σ ((k.grow g1 s1).grow g2 s2) _ fun S3 H3 g3 s3 => ?_
  · have z := pe_slice (pos := pos) (p2 := p2) (SlR.or (sl_list (X := Xs i)) sl_tupA) (pe_any a i) (po_any lo i) (po_any hi i)
    rw [fx.hK i] at z
    exact z
  · have g := (g1.trans g2).trans g3
    have r3 := Dat.ex (Same.trans g2.ss g3.ss) r1
    cases h with
    | lst hl =>
      obtain ⟨p, xs, rfl, hq, t⟩ := isL_of hl r3 s3
      exact .inl ⟨p, xs, rfl, hq, fun p hp => new_lst s3 hp (cut_d t) (Q := Q) fun v S' H' g' s' r' => q v S' H' (g.trans g') s' (r'.back g.hh)⟩
    | @tup ds =>
      cases r3 with
      | tup a1 t1 =>
        refine .inr ⟨_, _, rfl, SqT.of (s3.tup a1), fun hw => ?_, fun _ p hp => new_tup s3 hp (cut_d t1) (Q := Q) fun v S' H' g' s' r' => q v S' H' (g.trans g') s' (r'.back g.hh)⟩
        have e : cutD ds l u = ds := by
          rw [t1.length] at hw
          unfold cutD
          rw [hw.1, hw.2, List.drop_zero, Nat.sub_zero, List.take_length]
        rw [e] at q
        exact q _ S3 H3 g s3 (.tup a1 t1)

/-! ### a text, sign by sign -/
theorem its_d {S1 : Hp} (z : Str) : ItD K (Its z) S1 (z.cps.toList.map fun c => D.str ⟨#[c]⟩) where
  go := fun i S H e s hi => by
    have h : i < z.cps.size := by simpa using hi
    exact h
  stop := fun S H e s => by
    show z.cps.size ≤ _
    simp
  yld := fun i S H x H' d e s hd y => by
    obtain ⟨rfl, c, hc, rfl⟩ := y
    rw [List.getElem?_map, Array.getElem?_toList, hc] at hd
    cases hd
    exact ⟨S, Gr.refl _ _, s, .str⟩
theorem pid_str {z : Str} (he : PED K Xs e γ (.sh (.str z))) : PID K Xs tg e γ (z.cps.toList.map fun c => D.str ⟨#[c]⟩) := fun H0 S0 S H σ k R q =>
  ⟨iStr (anyE Xs e), fun i => pi_str (pe_any e i), he H0 S0 S H σ k _ fun v S' H' g s r => by cases r; exact ⟨z, rfl, q _ S' H' g s (its_d z)⟩⟩

/-! ### names of the module -/
theorem pd_globI (fx : Fx Xs P w K mg base N k) {i : Int} {t : Tok} (hm : mg x = some (.int i t)) (hg : ∀ i, Gl (Xs i) x := by exact fun _ => rfl) (hd : (x == ("__debug__" : Str)) = false := by decide) : PED K Xs (.Name x pos) γ (.sh (.int i)) :=
  .of (fun j => pe_glob (v := .int i) (hg j) (by rw [fx.hmg j]; exact hm) ⟨t, rfl⟩ hd) (evd_c fun _ => .int)
theorem pd_globS (fx : Fx Xs P w K mg base N k) {z : Str} {t : Tok} (hm : mg x = some (.str z t)) (hg : ∀ i, Gl (Xs i) x := by exact fun _ => rfl) (hd : (x == ("__debug__" : Str)) = false := by decide) : PED K Xs (.Name x pos) γ (.sh (.str z)) :=
  .of (fun j => pe_glob (v := .str z) (hg j) (by rw [fx.hmg j]; exact hm) ⟨t, rfl⟩ hd) (evd_c fun _ => .str)
theorem pd_globR (fx : Fx Xs P w K mg base N k) {p : Addr} (hm : mg x = some (.ref p)) (hd' : ∀ S, Dat K S (.ref p) d) (hg : ∀ i, Gl (Xs i) x := by exact fun _ => rfl) (hd : (x == ("__debug__" : Str)) = false := by decide) : PED K Xs (.Name x pos) γ (.sh d) :=
  .of (fun j => pe_glob (v := .ref p) (hg j) (by rw [fx.hmg j]; exact hm) rfl hd) (evd_c hd')
theorem pd_ty (fx : Fx Xs P w K mg base N k) {n : String} (hm : mg x = none) (hv : bootBuiltins x = some (.type n) := by decide +kernel) (hg : ∀ i, Gl (Xs i) x := by exact fun _ => rfl) (hn : x ≠ "__name__" := by decide) (hd : (x == ("__debug__" : Str)) = false := by decide) : PED K Xs (.Name x pos) γ (.sh (.ty n)) :=
  .of (fun j => pe_bltn (v := .ty n) (hg j) (by rw [fx.hmg j]; exact hm) hv rfl hn hd) (evd_c fun _ => .ty)

end
/-! ### isinstance -/
def tyN : D → Option String
  | .non => some "NoneType"
  | .bl _ => some "bool"
  | .int _ => some "int"
  | .str _ => some "str"
  | .lst _ => some "list"
  | .ro _ => none
  | .tup _ => some "tuple"
  | .dk _ => some "dict"
  | _ => none
/-- what isinstance asks of an own class -/
structure OwnC (K : PySem.W.Frag) (C : Addr) : Prop where
  cl : Cls K C
  ha : PySem.W.findIn K (.ref C) "__class__" = some (some (.builtin "object.__class__"))
  hn : PySem.W.specialIn K (.builtin "object.__class__") "__get__" = some (some (.builtin "getset_descriptor.__get__"))
  htk : PySem.W.takesIn K (.builtin "object.__class__") = some true
  hm : PySem.W.mroIn K C (.type "object") = some true
inductive TyD (K : PySem.W.Frag) : D → Value → Prop
  | bt {d n} : tyN d = some n → TyD K d (.type n)
  | own {c fs} : OwnC K (He.ga K c) → TyD K (.obj c fs) (.ref (He.ga K c))
theorem tyx_of {K : PySem.W.Frag} {d : D} {S H : Hp} {v : V} {t : Value} (s : Sub S H) (h : Dat K S v d) (ht : TyD K d t) : TyX K H v t := by
  cases ht with
  | bt e =>
    cases h with
    | non => cases e; exact .base .non
    | bl => cases e; exact .base (.bl _)
    | int => cases e; exact .base (.int _)
    | str => cases e; exact .base (.str _)
    | lst a1 t1 => cases e; exact .base (.lst (s.lst a1))
    | tup a1 t1 => cases e; exact .base (.tup (s.tup a1))
    | dk a1 k1 t1 =>
      cases e
      rcases s _ _ a1 with z | ⟨ob, z, _⟩
      · exact .base (.dK z)
      · exact .fDict z
    | dt a1 k1 t1 => cases e
    | ro a1 t1 => cases e
    | rot a1 t1 => cases e
    | obj a1 k1 t1 => cases e
    | cls => cases e
    | ty => cases e
  | own C =>
    cases h with
    | obj a1 k1 t1 => exact .base (.ins (s.ins a1) C.cl C.ha C.hn C.htk C.hm)
/-- a class as data, as a value -/
def clsD (K : PySem.W.Frag) : D → Option Value
  | .ty n => some (.type n)
  | .cls c => some (.ref (He.ga K c))
  | _ => none
end Wd
set_option Elab.async false
set_option linter.all false
set_option maxRecDepth 100000
set_option maxHeartbeats 1000000
/-! isinstance; own lists and dicts changed; an __init__; a dict walked by its keys. -/
namespace Wd
open PySem PySem.Spec L2
open PyProof.Rows hiding St

theorem clsV_of {K : PySem.W.Frag} {S : Hp} {v : V} {d : D} {u : Value} (h : Dat K S v d) (e : clsD K d = some u) : ClsV v u := by
  cases h <;> (first | (cases e; first | exact .ty _ | exact .own _) | cases e)
theorem clsVs_of {K : PySem.W.Frag} {S : Hp} : ∀ {vs : List V} {ds : List D} {us : List Value}, Dats K S vs ds → ds.map (clsD K) = us.map some → Paired ClsV vs us
  | _, _, [], .nil, _ => .nil
  | _, _, _ :: _, .nil, e => nomatch e
  | _, _, [], .cons _ _, e => nomatch e
  | _, _, u :: us, .cons h t, e => by
    rw [List.map_cons, List.map_cons] at e
    obtain ⟨e1, e2⟩ := List.cons.inj e
    exact .cons (clsV_of h e1) (clsVs_of t e2)
inductive IsiD (K : PySem.W.Frag) : D → D → Bool → Prop
  | one {d c t u b} : TyD K d t → clsD K c = some u → PySem.W.kitOne K t u = some b → IsiD K d c b
  | tup {d cs t us b} : TyD K d t → cs.map (clsD K) = us.map some → PySem.W.kitAny K t us = some b → IsiD K d (.tup cs) b
def rIsiU (K : PySem.W.Frag) : List V → Hp → VK → Prop := fun xs H Q => rIsi K xs H Q ∨ rIsiT K xs H Q
theorem call_isiU {X : Cx} : CallR X (.builtin "isinstance") (rIsiU X.K) := CallR.or call_isi call_isiT
theorem rc_isi {K : PySem.W.Frag} {d c : D} {b : Bool} (h : IsiD K d c b) : RC K (rIsiU K) [d, c] (.sh (.bl b)) := by
  intro S H xs s t Q q
  cases t with
  | cons t1 t2 =>
    cases t2 with
    | cons t2 t3 =>
      cases t3
      cases h with
      | one h1 h2 h3 => exact .inl ⟨_, _, _, _, b, rfl, clsV_of t2 h2, tyx_of s t1 h1, h3, here s .bl q⟩
      | tup h1 h2 h3 =>
        cases t2 with
        | tup a1 t4 => exact .inr ⟨_, _, _, _, _, b, rfl, s.tup a1, clsVs_of t4 h2, tyx_of s t1 h1, h3, here s .bl q⟩

section
variable {ι : Type} {Xs : ι → Cx} {P : Program} {w : World} {K : PySem.W.Frag} {mg : Str → Option Value} {base : Heap} {N : List Str} {k : Nat} {γ γ' γ1 γ2 : Gm} {d d1 d2 : D} {ds : List D} {rs r : Slot} {e a b c o : Expr} {es : List Expr} {pos pos' apos tpos npos : Pos} {x : Str} {tv tw : Bool} {st : Stmt} {sts sts' rest : List Stmt} {ot : Out} {is js : List Nat} {tg : Expr} {tgs : List Expr}
theorem pd_isi (fx : Fx Xs P w K mg base N k) {p : Pos} (ha : PAD K Xs [a, b] γ [d1, d2]) (hm : mg "isinstance" = none) (h : IsiD K d1 d2 tv) (hg : ∀ i, Gl (Xs i) "isinstance" := by exact fun _ => rfl)
    (he : ∀ i, starEach [a, b] (Xs i).env = (false, eval a (Xs i).env) :: starEach [b] (Xs i).env := by exact fun _ => rfl) (hpl : ∀ i, (backTo pos (starEach [b] (Xs i).env)).any (·.1) = false := by exact fun _ => rfl) : PED K Xs (.Call (.Name "isinstance" p) [a, b] [] pos) γ (.sh (.bl tv)) :=
  pd_blt fx (r := rIsiU K) (fun i => by have z := call_isiU (X := Xs i); rw [fx.hK i] at z; exact z) hm ha (rc_isi h) (hg := hg) (he := he) (hpl := hpl)

theorem notIn {l : List Str} {f : Str} (h : l.contains f = false) : f ∉ l := fun z => by rw [List.contains_iff_mem.mpr z] at h; cases h
/-! ### own lists and dicts changed -/
theorem pe_self (i : Nat) (fx : Fx Xs P w K mg base N k) (hN : N[i]? = some x) (hv : ∀ j, Vis (Xs j).env.scope x) (hd : (x == ("__debug__" : Str)) = false) (hcd : (x == ("__classdict__" : Str)) = false) (j : ι) : PE (Xs j) (.Name x pos) (tVar i) := pe_var (by rw [fx.hN j]; exact hN) (hv j) hd hcd
/-- x.append(e) -/
theorem psd_append (fx : Fx Xs P w K mg base N k) (i : Nat) (hg : γ[i]? = some (.ow (.lst ds)) := by rfl) (he : PED K Xs e γ (.sh d)) (hl : ds.length < sizeLine) (hN : N[i]? = some x := by rfl) (hv : ∀ j, Vis (Xs j).env.scope x := by first | exact fun _ => Or.inl rfl | exact fun _ => Or.inr (Or.inl rfl) | exact fun _ => Or.inr (Or.inr rfl))
    (hd : (x == ("__debug__" : Str)) = false := by decide) (hcd : (x == ("__classdict__" : Str)) = false := by decide) (hbase : ∀ j, attributeBase (.Name x npos) "append" (Xs j).env (eval (.Name x npos) (Xs j).env) = eval (.Name x npos) (Xs j).env := by exact fun _ => rfl)
    (hfew : ∀ j, ((backTo pos (starEach [e] (Xs j).env)).all (fun x => !x.1) && (backToKw pos (keywordEach [] (Xs j).env)).all (fun x => x.1.isSome) && decide (([e] : List Expr).length + ([] : List Keyword).length + (if ([] : List Keyword).isEmpty then 0 else 1) < 30)) = true := by exact fun _ => rfl)
    (hline : (apos.endLine == pos.line) = true := by rfl) (hs : ∀ j, starEach [e] (Xs j).env = (false, eval e (Xs j).env) :: starEach [] (Xs j).env := by exact fun _ => rfl) (hplain : ∀ j, (backTo pos (starEach [] (Xs j).env)).any (·.1) = false := by exact fun _ => rfl)
    (hsw : ∀ j, swapsWith (.Call (.Attribute (.Name x npos) "append" apos) [e] [] pos) none pos'.line (Xs j).env = pure false := by exact fun _ => rfl) : PSD K Xs (.Expr (.Call (.Attribute (.Name x npos) "append" apos) [e] [] pos) pos') γ (.nx (γ.set i (.ow (.lst (ds ++ [d]))))) := by
  refine .of (t := tDrop (tBM K "list" rAppend (tVar i) (tCons (anyE Xs e) tNil))) (fun j => ps_expr ?_ (hsw j)) fun H0 S0 S H σ D k q => ?_
  · have z := pe_bm (X := Xs j) (r := rAppend) PySem.F.plainAttrs_list PySem.F.slot_list_append PySem.F.type_list_append mt_append (pe_self i fx hN hv hd hcd j) (pa_cons (pe_any e j) pa_nil (hs j)) (hbase j) (hfew j) hline (hs j) (hplain j)
    rw [fx.hK j] at z
    exact z
  · obtain ⟨l, hl1, h1, h2, xs, hx, t⟩ := k.en i _ hg
    refine ⟨_, hl1, .inl ⟨rfl, xs, SqL.of hx⟩, he H0 S0 S H σ k _ fun v S' H' g s r => ⟨l, xs, v, rfl, rfl, g.hh _ _ hx, by rw [t.length]; exact hl, ?_⟩⟩
    exact q S' _ σ ((k.grow g s).own hg hl1 ⟨xs ++ [v], upd_same, (t.ex g.ss).snoc r⟩)
/-- x[a] = e, x an own dict -/
theorem psd_dput (fx : Fx Xs P w K mg base N k) (i : Nat) {kvs : List (Key × D)} {key : Key} (hg : γ[i]? = some (.ow (.dk kvs)) := by rfl) (he : PED K Xs e γ (.sh d)) (ha : PED K Xs a γ (.sh (keyD key))) (hl : kvs.length < sizeLine) (nd : (kvs.map (·.1)).Nodup) (hN : N[i]? = some x := by rfl) (hv : ∀ j, Vis (Xs j).env.scope x := by first | exact fun _ => Or.inl rfl | exact fun _ => Or.inr (Or.inl rfl) | exact fun _ => Or.inr (Or.inr rfl))
    (hd : (x == ("__debug__" : Str)) = false := by decide) (hcd : (x == ("__classdict__" : Str)) = false := by decide)
    (hs : ∀ j, swapsWith e (some (.Subscript (.Name x npos) a tpos)) pos.line (Xs j).env = pure false := by exact fun _ => rfl) : PSD K Xs (.Assign [.Subscript (.Name x npos) a tpos] e pos) γ (.nx (γ.set i (.ow (.dk (putG kvs key d))))) := by
  refine .of (t := sDPut (tVar i) (anyE Xs a) (anyE Xs e)) (fun j => ps_dput (fx.hu j) (pe_self i fx hN hv hd hcd j) (pe_any a j) (pe_any e j) (hs j)) fun H0 S0 S H σ D k q => ?_
  obtain ⟨l, hl1, h1, h2, kv, hx, hk, t⟩ := k.en i _ hg
  refine he H0 S0 S H σ k _ fun v S1 H1 g1 s1 r1 => ⟨_, hl1, ha H0 S0 S1 H1 σ (k.grow g1 s1) _ fun y S2 H2 g2 s2 r2 => ?_⟩
  have g := g1.trans g2
  have ey := kV_of r2
  subst ey
  have hlen : kv.length = kvs.length := by simpa using congrArg List.length hk
  obtain ⟨e1, e2⟩ := putV_of hk nd (t.ex g.ss) (Dat.ex g2.ss r1)
  exact ⟨l, _, rfl, .k (g.hh _ _ hx) (by rw [hlen]; exact hl), q S2 _ σ ((k.grow g s2).own hg hl1 ⟨_, upd_same, e1, e2⟩)⟩
/-- x[a] = e, x an own dict of tuples' keys -/
theorem psd_dputT (fx : Fx Xs P w K mg base N k) (i : Nat) {kvs : List (List Key × D)} {key : List Key} (hg : γ[i]? = some (.ow (.dt kvs)) := by rfl) (he : PED K Xs e γ (.sh d)) (ha : PED K Xs a γ (.sh (.tup (key.map keyD)))) (hl : kvs.length < sizeLine) (nd : (kvs.map (·.1)).Nodup) (hN : N[i]? = some x := by rfl) (hv : ∀ j, Vis (Xs j).env.scope x := by first | exact fun _ => Or.inl rfl | exact fun _ => Or.inr (Or.inl rfl) | exact fun _ => Or.inr (Or.inr rfl))
    (hd : (x == ("__debug__" : Str)) = false := by decide) (hcd : (x == ("__classdict__" : Str)) = false := by decide)
    (hs : ∀ j, swapsWith e (some (.Subscript (.Name x npos) a tpos)) pos.line (Xs j).env = pure false := by exact fun _ => rfl) : PSD K Xs (.Assign [.Subscript (.Name x npos) a tpos] e pos) γ (.nx (γ.set i (.ow (.dt (putG kvs key d))))) := by
  refine .of (t := sDPut (tVar i) (anyE Xs a) (anyE Xs e)) (fun j => ps_dput (fx.hu j) (pe_self i fx hN hv hd hcd j) (pe_any a j) (pe_any e j) (hs j)) fun H0 S0 S H σ D k q => ?_
  obtain ⟨l, hl1, h1, h2, kv, hx, hk, t⟩ := k.en i _ hg
  refine he H0 S0 S H σ k _ fun v S1 H1 g1 s1 r1 => ⟨_, hl1, ha H0 S0 S1 H1 σ (k.grow g1 s1) _ fun y S2 H2 g2 s2 r2 => ?_⟩
  have g := g1.trans g2
  cases r2 with
  | tup a2 t2 =>
    have ey := keys_of t2
    subst ey
    have hlen : kv.length = kvs.length := by simpa using congrArg List.length hk
    obtain ⟨e1, e2⟩ := putV_of hk nd (t.ex g.ss) (Dat.ex g2.ss r1)
    exact ⟨l, _, rfl, .t (g.hh _ _ hx) (s2.tup a2) (by rw [hlen]; exact hl), q S2 _ σ ((k.grow g s2).own hg hl1 ⟨_, upd_same, e1, e2⟩)⟩
/-- x[a] = e, x an own list -/
theorem psd_lput (fx : Fx Xs P w K mg base N k) (i : Nat) {m : Int} {n : Nat} (hg : γ[i]? = some (.ow (.lst ds)) := by rfl) (he : PED K Xs e γ (.sh d)) (ha : PED K Xs a γ (.sh (.int m))) (hn : ixN ds.length m = some n) (hN : N[i]? = some x := by rfl) (hv : ∀ j, Vis (Xs j).env.scope x := by first | exact fun _ => Or.inl rfl | exact fun _ => Or.inr (Or.inl rfl) | exact fun _ => Or.inr (Or.inr rfl))
    (hd : (x == ("__debug__" : Str)) = false := by decide) (hcd : (x == ("__classdict__" : Str)) = false := by decide)
    (hs : ∀ j, swapsWithSole [.Subscript (.Name x npos) a tpos] e pos.line (Xs j).env = pure false := by exact fun _ => rfl) (hw : ∀ j, swappedStores [.Subscript (.Name x npos) a tpos] e (Xs j).env = pure none := by exact fun _ => rfl)
    (h1 : ∀ j, (assignEach [.Subscript (.Name x npos) a tpos] (Xs j).env).map (·.2) = [assign (.Subscript (.Name x npos) a tpos) (Xs j).env] := by exact fun _ => rfl)
    (h2 : ∀ j, ∀ v, assign (.Subscript (.Name x npos) a tpos) (Xs j).env v = (do
      let ov ← holding [v] (eval (.Name x npos) (Xs j).env)
      let iv ← holding [v, ov] (eval a (Xs j).env)
      standAt tpos
      holding [v, ov, iv] (setItem ov iv v)
      release [v, ov, iv] []) := by exact fun _ _ => rfl) : PSD K Xs (.Assign [.Subscript (.Name x npos) a tpos] e pos) γ (.nx (γ.set i (.ow (.lst (ds.set n d))))) := by
  refine .of (t := tAsg (anyE Xs e) (gSub (tVar i) (anyE Xs a) rSetL)) (fun j => ps_asg (pe_any e j) (pg_sub (pe_self i fx hN hv hd hcd j) (pe_any a j) set_list (h2 j)) (hs j) (hw j) (h1 j)) fun H0 S0 S H σ D k q => ?_
  obtain ⟨l, hl1, h1, h2, xs, hx, t⟩ := k.en i _ hg
  refine he H0 S0 S H σ k _ fun v S1 H1 g1 s1 r1 => ⟨_, hl1, ha H0 S0 S1 H1 σ (k.grow g1 s1) _ fun y S2 H2 g2 s2 r2 => ?_⟩
  have g := g1.trans g2
  cases r2
  exact ⟨l, xs, _, n, rfl, rfl, g.hh _ _ hx, by rw [t.length]; exact hn, q S2 _ σ ((k.grow g s2).own hg hl1 ⟨_, upd_same, Dats.set (Dat.ex g2.ss r1) n (t.ex g.ss)⟩)⟩
/-- x.f = e, x an own object -/
theorem psd_fput (fx : Fx Xs P w K mg base N k) (i : Nat) {cn f : Str} {fs : List (Str × D)} (hg : γ[i]? = some (.ow (.obj cn fs)) := by rfl) (he : PED K Xs e γ (.sh d)) (hc : Cls K (He.ga K cn)) (hn : NoAttr K (He.ga K cn) f) (hl : fs.length < 1000 := by exact Nat.le_of_ble_eq_true rfl) (hnew : f ∉ fs.map (·.1) := by exact notIn rfl) (hN : N[i]? = some x := by rfl) (hv : ∀ j, Vis (Xs j).env.scope x := by first | exact fun _ => Or.inl rfl | exact fun _ => Or.inr (Or.inl rfl) | exact fun _ => Or.inr (Or.inr rfl))
    (hd : (x == ("__debug__" : Str)) = false := by decide) (hcd : (x == ("__classdict__" : Str)) = false := by decide)
    (hs : ∀ j, swapsWith e (some (.Attribute (.Name x npos) f tpos)) pos.line (Xs j).env = pure false := by exact fun _ => rfl) : PSD K Xs (.Assign [.Attribute (.Name x npos) f tpos] e pos) γ (.nx (γ.set i (.ow (.obj cn (fs ++ [(f, d)]))))) := by
  refine .of (t := sFld K (tVar i) (anyE Xs e) f) (fun j => ?_) fun H0 S0 S H σ D k q => ?_
  · have z := ps_fld (pos := pos) (pos' := tpos) (f := f) (pe_self i fx hN hv hd hcd j) (pe_any e j) (hs j)
    rw [fx.hK j] at z
    exact z
  · obtain ⟨l, hl1, h1, h2, dx, xs, hx, hk, t⟩ := k.en i _ hg
    refine he H0 S0 S H σ k _ fun v S1 H1 g s r1 => ⟨_, hl1, l, _, dx, xs, rfl, g.hh _ _ hx, hc, hn, ?_, ?_⟩
    · have : xs.length = fs.length := by simpa using congrArg List.length hk
      omega
    · have e1 : ∀ ys : List (Str × V), f ∉ ys.map (·.1) → putF f v ys = ys ++ [(f, v)] := by
        intro ys
        induction ys with
        | nil => intro _; rfl
        | cons p r ih =>
          intro hn
          obtain ⟨g, y⟩ := p
          rw [List.map_cons, List.mem_cons, not_or] at hn
          show (if g = f then _ else (g, y) :: putF f v r) = _
          rw [if_neg (fun z => hn.1 z.symm), ih hn.2]
          rfl
      rw [e1 xs (by rw [hk]; exact hnew)]
      exact q S1 _ σ ((k.grow g s).own hg hl1 ⟨dx, _, upd_same, by rw [List.map_append, List.map_append, hk]; rfl, by rw [List.map_append, List.map_append]; exact (t.ex g.ss).snoc r1⟩)
/-- a call that changes nothing and gives nothing, in a statement -/
theorem psd_call (h : PED K Xs e γ (.sh .non)) (hs : ∀ j, swapsWith e none pos.line (Xs j).env = pure false := by exact fun _ => rfl) : PSD K Xs (.Expr e pos) γ (.nx γ) := psd_expr h hs
/-- del x[a], x an own list -/
theorem psd_ldel (fx : Fx Xs P w K mg base N k) (i : Nat) {m : Int} {n : Nat} (hg : γ[i]? = some (.ow (.lst ds)) := by rfl) (ha : PED K Xs a γ (.sh (.int m))) (h1 : -(2 ^ 63) ≤ m ∧ m < 2 ^ 63) (hn : seqIndex? m ds.length = some n) (hN : N[i]? = some x := by rfl) (hv : ∀ j, Vis (Xs j).env.scope x := by first | exact fun _ => Or.inl rfl | exact fun _ => Or.inr (Or.inl rfl) | exact fun _ => Or.inr (Or.inr rfl))
    (hd : (x == ("__debug__" : Str)) = false := by decide) (hcd : (x == ("__classdict__" : Str)) = false := by decide) : PSD K Xs (.Delete [.Subscript (.Name x npos) a tpos] pos) γ (.nx (γ.set i (.ow (.lst (ds.eraseIdx n))))) := by
  refine .of (t := tDelL (tVar i) (anyE Xs a)) (fun j => ps_delL (pe_self i fx hN hv hd hcd j) (pe_any a j)) fun H0 S0 S H σ En k q => ?_
  obtain ⟨l, hl1, hs1, hs2, xs, hx, t⟩ := k.en i _ hg
  refine ⟨_, hl1, ha H0 S0 S H σ k _ fun y S1 H1 g s r => ?_⟩
  cases r
  refine ⟨l, xs, m, n, rfl, rfl, g.hh _ _ hx, h1.1, h1.2, by rw [t.length]; exact hn, q S1 _ σ ((k.grow g s).own hg hl1 ⟨_, upd_same, ?_⟩)⟩
  have er : ∀ (n : Nat) (vs : List V) (ds : List D), Dats K S1 vs ds → Dats K S1 (vs.eraseIdx n) (ds.eraseIdx n) := by
    intro n
    induction n with
    | zero => intro vs ds h; cases h with | nil => exact .nil | cons _ t => exact t
    | succ n ih => intro vs ds h; cases h with | nil => exact .nil | cons h t => exact .cons h (ih _ _ t)
  exact er n _ _ (t.ex g.ss)
/-- x.m(e, ..), a list's method that changes x -/
theorem psd_insert (fx : Fx Xs P w K mg base N k) (i : Nat) {m : Nat} (hg : γ[i]? = some (.ow (.lst ds)) := by rfl) (ha : PAD K Xs [a, b] γ [.int m, d]) (hl : ds.length < sizeLine) (hm : (m : Int) < 2 ^ 63) (hN : N[i]? = some x := by rfl) (hv : ∀ j, Vis (Xs j).env.scope x := by first | exact fun _ => Or.inl rfl | exact fun _ => Or.inr (Or.inl rfl) | exact fun _ => Or.inr (Or.inr rfl))
    (hd : (x == ("__debug__" : Str)) = false := by decide) (hcd : (x == ("__classdict__" : Str)) = false := by decide) (hbase : ∀ j, attributeBase (.Name x npos) "insert" (Xs j).env (eval (.Name x npos) (Xs j).env) = eval (.Name x npos) (Xs j).env := by exact fun _ => rfl)
    (hfew : ∀ j, ((backTo pos (starEach [a, b] (Xs j).env)).all (fun x => !x.1) && (backToKw pos (keywordEach [] (Xs j).env)).all (fun x => x.1.isSome) && decide (([a, b] : List Expr).length + ([] : List Keyword).length + (if ([] : List Keyword).isEmpty then 0 else 1) < 30)) = true := by exact fun _ => rfl)
    (hline : (apos.endLine == pos.line) = true := by rfl) (hs : ∀ j, starEach [a, b] (Xs j).env = (false, eval a (Xs j).env) :: starEach [b] (Xs j).env := by exact fun _ => rfl) (hplain : ∀ j, (backTo pos (starEach [b] (Xs j).env)).any (·.1) = false := by exact fun _ => rfl)
    (hsw : ∀ j, swapsWith (.Call (.Attribute (.Name x npos) "insert" apos) [a, b] [] pos) none pos'.line (Xs j).env = pure false := by exact fun _ => rfl) : PSD K Xs (.Expr (.Call (.Attribute (.Name x npos) "insert" apos) [a, b] [] pos) pos') γ (.nx (γ.set i (.ow (.lst (ds.take m ++ [d] ++ ds.drop m))))) := by
  refine .of (t := tDrop (tBM K "list" (fun x vs H Q => ∃ (l : Addr) (xs : List V) (i : Int) (y : V), x = .ref l ∧ vs = [.int i, y] ∧ H l = some (.lst xs) ∧ xs.length < sizeLine ∧ 0 ≤ i ∧ i < 2 ^ 63 ∧ Q .non (upd H l (.lst (xs.take i.toNat ++ [y] ++ xs.drop i.toNat)))) (tVar i) (anyA Xs [a, b]))) (fun j => ps_expr ?_ (hsw j)) fun H0 S0 S H σ D k q => ?_
  · have z := pe_bm (X := Xs j) PySem.F.plainAttrs_list PySem.F.slot_list_insert PySem.F.type_list_insert mt_insert (pe_self i fx hN hv hd hcd j) (pa_any [a, b] j) (hbase j) (hfew j) hline (hs j) (hplain j)
    rw [fx.hK j] at z
    exact z
  · obtain ⟨l, hl1, h1, h2, xs, hx, t⟩ := k.en i _ hg
    refine ⟨_, hl1, .inl ⟨rfl, xs, SqL.of hx⟩, ha H0 S0 S H σ k _ fun vs S' H' g s r => ?_⟩
    cases r with
    | cons r1 r2 =>
      cases r1
      cases r2 with
      | cons r2 r3 =>
        cases r3
        refine ⟨l, xs, m, _, rfl, rfl, g.hh _ _ hx, by rw [t.length]; exact hl, by omega, hm, ?_⟩
        refine q S' _ σ ((k.grow g s).own hg hl1 ⟨_, upd_same, ?_⟩)
        have t' := t.ex g.ss
        rw [Int.toNat_natCast]
        exact ((t'.take m).append (.one r2)).append (t'.drop m)
end

/-! ### an __init__ -/
/-- statements that leave the first slot as it is -/
def StE (K : PySem.W.Frag) (ts : TS) (γ γ' : Gm) : Prop := ∀ (H0 S0 S H : Hp) (σ : L2.St) (En : Ends), Ok K H0 S0 S H σ γ → (∀ S' H' σ', Ok K H0 S0 S' H' σ' γ' → σ'[0]? = σ[0]? → En.nx σ' H') → ts En σ H
def PSE (K : PySem.W.Frag) {ι : Type} (Xs : ι → Cx) (st : Stmt) (γ γ' : Gm) : Prop := StE K (anyS Xs st) γ γ'
def PSsE (K : PySem.W.Frag) {ι : Type} (Xs : ι → Cx) (st : List Stmt) (γ γ' : Gm) : Prop := StE K (anySs Xs st) γ γ'
section
variable {ι : Type} {Xs : ι → Cx} {P : Program} {w : World} {K : PySem.W.Frag} {mg : Str → Option Value} {base : Heap} {N : List Str} {k : Nat} {γ γ' γ1 γ2 : Gm} {d d1 d2 : D} {ds : List D} {rs r : Slot} {e a b c o : Expr} {es : List Expr} {pos pos' apos tpos npos : Pos} {x : Str} {st : Stmt} {sts : List Stmt}
theorem psse_nil : PSsE K Xs [] γ γ := fun H0 S0 S H σ En k q => ⟨tNext, fun _ => pss_nil, q S H σ k rfl⟩
theorem psse_cons (h1 : PSE K Xs st γ γ1) (h2 : PSsE K Xs sts γ1 γ2) : PSsE K Xs (st :: sts) γ γ2 := fun H0 S0 S H σ En k q =>
  ⟨tSeq (anyS Xs st) (anySs Xs sts), fun i => pss_cons (ps_any st i) (pss_any sts i), h1 H0 S0 S H σ { En with nx := anySs Xs sts En } k fun S1 H1 σ1 k1 e1 => h2 H0 S0 S1 H1 σ1 En k1 fun S2 H2 σ2 k2 e2 => q S2 H2 σ2 k2 (e2.trans e1)⟩
theorem pse_expr (he : PED K Xs e γ rs) (hs : ∀ j, swapsWith e none pos.line (Xs j).env = pure false := by exact fun _ => rfl) : PSE K Xs (.Expr e pos) γ γ := fun H0 S0 S H σ En k q =>
  ⟨tDrop (anyE Xs e), fun j => ps_expr (pe_any e j) (hs j), he H0 S0 S H σ k _ fun v S' H' g s r => q S' H' σ (k.grow g s) rfl⟩
theorem pse_set (fx : Fx Xs P w K mg base N k) (i : Nat) (he : PED K Xs e γ rs) (hN : N[i]? = some x := by rfl) (hi : i < γ.length := by exact Nat.le_of_ble_eq_true rfl) (h0 : i ≠ 0 := by decide) (hx : ∀ j, Loc (Xs j).env.scope x := by first | exact fun _ => Or.inl rfl | exact fun _ => Or.inr rfl)
    (hs : ∀ j, swapsWith e (some (.Name x pos')) pos.line (Xs j).env = pure false := by exact fun _ => rfl) (hf : ∀ j, (Xs j).fn x = true ∨ (Xs j).env.scope.names.lookup x = some .local := by first | exact fun _ => Or.inl rfl | exact fun _ => Or.inr rfl) : PSE K Xs (.Assign [.Name x pos'] e pos) γ (γ.set i rs) := fun H0 S0 S H σ En k q =>
  ⟨tAsg (anyE Xs e) (gName i), fun j => ps_set (i := i) (by rw [fx.hN j]; exact fx.nd) (by rw [fx.hN j]; exact hN) (hx j) (pe_any e j) (hs j) (hf j), he H0 S0 S H σ k _ fun v S' H' g s r => q S' H' _ (k.res g s r hi) (List.getElem?_set_ne h0)⟩
theorem pse_fput (fx : Fx Xs P w K mg base N k) {cn f : Str} {fs : List (Str × D)} (hg : γ[0]? = some (.ow (.obj cn fs)) := by rfl) (he : PED K Xs e γ rs) (hr : rs = .sh d ∨ rs = .ow d := by first | exact Or.inl rfl | exact Or.inr rfl) (hc : Cls K (He.ga K cn)) (hn : NoAttr K (He.ga K cn) f) (hl : fs.length < 1000 := by exact Nat.le_of_ble_eq_true rfl) (hnew : f ∉ fs.map (·.1) := by exact notIn rfl) (hN : N[0]? = some x := by rfl) (hv : ∀ j, Vis (Xs j).env.scope x := by first | exact fun _ => Or.inl rfl | exact fun _ => Or.inr (Or.inl rfl) | exact fun _ => Or.inr (Or.inr rfl))
    (hd : (x == ("__debug__" : Str)) = false := by decide) (hcd : (x == ("__classdict__" : Str)) = false := by decide)
    (hs : ∀ j, swapsWith e (some (.Attribute (.Name x npos) f tpos)) pos.line (Xs j).env = pure false := by exact fun _ => rfl) : PSE K Xs (.Assign [.Attribute (.Name x npos) f tpos] e pos) γ (γ.set 0 (.ow (.obj cn (fs ++ [(f, d)])))) := by
  have he' : PED K Xs e γ (.sh d) := by
    rcases hr with z | z
    · rw [z] at he; exact he
    · rw [z] at he; exact he.share
  refine fun H0 S0 S H σ En k q => ⟨sFld K (tVar 0) (anyE Xs e) f, fun j => ?_, ?_⟩
  · have z := ps_fld (pos := pos) (pos' := tpos) (f := f) (pe_self 0 fx hN hv hd hcd j) (pe_any e j) (hs j)
    rw [fx.hK j] at z
    exact z
  · obtain ⟨l, hl1, h1, h2, dx, xs, hx, hk, t⟩ := k.en 0 _ hg
    refine he' H0 S0 S H σ k _ fun v S1 H1 g s r1 => ⟨_, hl1, l, _, dx, xs, rfl, g.hh _ _ hx, hc, hn, ?_, ?_⟩
    · have : xs.length = fs.length := by simpa using congrArg List.length hk
      omega
    · have e1 : ∀ ys : List (Str × V), f ∉ ys.map (·.1) → putF f v ys = ys ++ [(f, v)] := by
        intro ys
        induction ys with
        | nil => intro _; rfl
        | cons p r ih =>
          intro hn
          obtain ⟨g, y⟩ := p
          rw [List.map_cons, List.mem_cons, not_or] at hn
          show (if g = f then _ else (g, y) :: putF f v r) = _
          rw [if_neg (fun z => hn.1 z.symm), ih hn.2]
          rfl
      rw [e1 xs (by rw [hk]; exact hnew)]
      exact q S1 _ σ ((k.grow g s).own hg hl1 ⟨dx, _, upd_same, by rw [List.map_append, List.map_append, hk]; rfl, by rw [List.map_append, List.map_append]; exact (t.ex g.ss).snoc r1⟩) rfl
end
/-- THE RULE for an __init__ by data -/
theorem init_data {P : Program} {w : World} {K : PySem.W.Frag} {mg : Str → Option Value} {base : Heap} {k : Nat} {x qual : Str} {params : Arguments} {body : List Stmt} {scope : Scope} {dvs : List V} {kws : List (Str × V)} {f : Addr} {fd : FuncData} {n0 : Str} {N ps : List Str} {c : Str} {Pr : List D → List (Str × D) → Prop} (F : FunD K x qual params body scope dvs kws f fd) (Sc : FnScope (n0 :: N) ps scope) (len : ∀ ds r, Pr ds r → ds.length + 1 = ps.length)
    (h : ∀ (cdv : Value) (A : Around) (outer : List Env) (s : Shared) (H : Hp) (E : XK), Fx (bodyX P w K mg base (n0 :: N) qual scope f cdv A outer s H E) P w K mg base (n0 :: N) k → ∀ ds fs, Pr ds fs → ∃ γ, PSsE K (bodyX P w K mg base (n0 :: N) qual scope f cdv A outer s H E) body (.ow (.obj c []) :: γ0 N ds) γ ∧ γ[0]? = some (.ow (.obj c fs))) : FnOk P w K mg base (L2.CX P w) (k + 1) f fd ps (spI K c Pr) := by
  refine F.ok Sc (fun vs H Q E ⟨S, y, dx, us, ds, fs, e, _, _, _, hd, hp, _⟩ => by rw [e, List.length_cons, hd.length]; exact len ds fs hp) fun cdv A outer s H vs Q E hr ⟨S, y, dx, us, ds, fs, e, hs, hSy, hHy, hd, hp, q⟩ => ?_
  subst e
  have fx : Fx (bodyX P w K mg base (n0 :: N) qual scope f cdv A outer s H E) P w K mg base (n0 :: N) k := ⟨fun _ => rfl, fun _ => rfl, fun _ => rfl, fun _ => rfl, fun _ => rfl, fun _ => rfl, Sc.nd, fun _ => rfl, fun _ => hr⟩
  obtain ⟨γ, ho, hg⟩ := h cdv A outer s H E fx ds fs hp
  have hpl : ds.length ≤ N.length := by
    have h1 := congrArg List.length Sc.pre
    rw [List.length_take, List.length_cons] at h1
    have h2 := len ds fs hp
    omega
  let H0 : Hp := fun b => if b = y then none else H b
  have h0e : Ex H0 H := fun b u hb => by
    by_cases e : b = y
    · have : H0 b = none := if_pos e
      rw [this] at hb; cases hb
    · have : H0 b = H b := if_neg e
      rw [this] at hb; exact hb
  have hH0 : H0 y = none := if_pos rfl
  have hH1 : ∀ b, b ≠ y → H0 b = H b := fun b hb => if_neg hb
  have z := ok_start (K := K) (N := N) (H := H) hs hd hpl
  have k0 : Ok K H0 S S H (some (.ref y) :: L2.start N us) (.ow (.obj c []) :: γ0 N ds) := by
    refine ⟨h0e, Same.refl _, hs, fun b o h n => (by rw [n] at h; cases h), by rw [List.length_cons, List.length_cons, z.len], fun i t ht => ?_, fun i j d e l hi hj _ _ => ?_⟩
    · cases i with
      | zero => cases ht; exact ⟨y, rfl, hSy, hH0, dx, [], hHy, rfl, .nil⟩
      | succ i =>
        have q := z.en i t ht
        cases t with
        | un => trivial
        | tw _ _ => trivial
        | sh d => exact q
        | ow d =>
          exfalso
          have ht' : (γ0 N ds)[i]? = some (.ow d) := ht
          unfold γ0 at ht'
          by_cases h1 : i < ds.length
          · rw [List.getElem?_append_left (by rw [List.length_map]; exact h1), List.getElem?_map] at ht'
            cases e : ds[i]? with
            | none => rw [e] at ht'; cases ht'
            | some d => rw [e] at ht'; cases ht'
          · rw [List.getElem?_append_right (by rw [List.length_map]; omega), List.getElem?_replicate] at ht'
            split at ht' <;> cases ht'
    · have no : ∀ (i : Nat) (d : D), (γ0 N ds)[i]? ≠ some (.ow d) := fun i d ht' => by
        unfold γ0 at ht'
        by_cases h1 : i < ds.length
        · rw [List.getElem?_append_left (by rw [List.length_map]; exact h1), List.getElem?_map] at ht'
          cases e : ds[i]? with
          | none => rw [e] at ht'; cases ht'
          | some d => rw [e] at ht'; cases ht'
        · rw [List.getElem?_append_right (by rw [List.length_map]; omega), List.getElem?_replicate] at ht'
          split at ht' <;> cases ht'
      cases i with
      | zero =>
        cases j with
        | zero => rfl
        | succ j => exact absurd hj (no j e)
      | succ i => exact absurd hi (no i d)
  have est : L2.start (n0 :: N) (.ref y :: us) = some (.ref y) :: L2.start N us := by
    unfold L2.start
    simp
  refine ⟨_, (pss_any (Xs := bodyX P w K mg base (n0 :: N) qual scope f cdv A outer s H E) body ()).nox, ?_⟩
  rw [est]
  refine ho H0 S S H _ _ k0 fun S' H' σ' k' e' => ?_
  obtain ⟨l, hl, hl1, hl2, hl3⟩ := k'.en 0 _ hg
  rw [e'] at hl
  have hly : l = y := by
    have : some (some (V.ref y)) = some (some (V.ref l)) := hl
    cases this; rfl
  subst hly
  refine q S' H' k'.s0 (fun b o hb hne => k'.h0 b o (by rw [hH1 b hne]; exact hb)) (fun b o hb hn => ?_) k'.sh hl3
  by_cases e : b = l
  · subst e; rw [hl1] at hb; cases hb
  · rw [← hH1 b e]; exact k'.nw b o hb hn
end Wd
set_option Elab.async false
set_option linter.all false
set_option maxRecDepth 100000
set_option maxHeartbeats 1000000
/-! Displays of dicts: keys ints and texts, keys tuples of such. -/
namespace L2
open PySem PySem.Spec PyProof.Rows
def mergeT (kvs more : List (List Key × V)) : List (List Key × V) := more.foldl (fun acc kv => putK acc kv.1 kv.2) kvs
/-- a pair that was made, a key and a value -/
def KeyAt (H : Hp) (p : V × V) (kv : List Key × V) : Prop := (∃ a, p.1 = .ref a ∧ H a = some (.tup (kv.1.map kV))) ∧ p.2 = kv.2
theorem carriesT_of {P : Program} {w : World} {H : Hp} {h : Heap} (ok : HOk P w H h) : ∀ {ps : List (V × V)} {kvs : List (List Key × V)} {ws : List (Value × Value)}, Paired (KeyAt H) ps kvs → VV ps ws →
    ∃ rs : List (List Key × Addr × Value), CarriesH (tupleKind (mixKind P w)) h ws rs ∧ KT H kvs rs
  | _, _, _, .nil, .nil => ⟨[], True.intro, .nil⟩
  | _, _, _, .cons (a := p) (b := kv) q t, .cons (b := b) r t' => by
    obtain ⟨rs, c, k⟩ := carriesT_of (P := P) (w := w) ok t t'
    obtain ⟨⟨a, e1, e2⟩, e3⟩ := q
    obtain ⟨b1, b2⟩ := b
    obtain ⟨r1, r2⟩ := r
    rw [e1] at r1
    cases (show b1 = Value.ref a from r1)
    refine ⟨(kv.1, a, b2) :: rs, ⟨rfl, rfl, key_of ok e2, c⟩, .cons ⟨rfl, e2, ?_⟩ k⟩
    rw [← e3]
    exact r2
theorem KT.merge {H : Hp} : ∀ {more : List (List Key × V)} {rs : List (List Key × Addr × Value)} {kvs : List (List Key × V)} {xs : List (List Key × Addr × Value)}, KT H more rs → KT H kvs xs → KT H (mergeT kvs more) (storedAllH xs rs) := by
  intro more rs kvs xs r
  induction r generalizing kvs xs with
  | nil => intro q; exact q
  | @cons p q ps qs h t ih =>
    intro r0
    have e : KT H (putK kvs p.1 p.2) (storedH xs q.1 q.2.1 q.2.2) := by
      have := r0.put p.1 h.2.1 h.2.2
      rw [← h.1]; exact this
    exact ih e
theorem length_mergeT : ∀ (more kvs : List (List Key × V)), (mergeT kvs more).length ≤ kvs.length + more.length
  | [], kvs => by show kvs.length ≤ kvs.length + 0; omega
  | p :: r, kvs => by
    have h1 := length_mergeT r (putK kvs p.1 p.2)
    have h2 := length_putK kvs p.1 p.2
    show (mergeT (putK kvs p.1 p.2) r).length ≤ _
    rw [List.length_cons]; omega
/-- {(..): v, ..}: the new dict stands empty while the pairs are made -/
def tDispT (trs : List (TE × TE)) : TE := fun σ H Q => ∀ p, H p = none → tPairs trs σ (upd H p (.dT [])) fun ps H2 => H2 p = some (.dT []) ∧ ∃ kvs : List (List Key × V), Paired (KeyAt H2) ps kvs ∧ kvs.length ≤ 15 ∧ Q (.ref p) (upd H2 p (.dT (mergeT [] kvs)))
theorem pe_dispT {X : Cx} {pos : Pos} {keys : List (Option Expr)} {values : List Expr} {trs : List (TE × TE)} (hu : X.A.units + 1 < cLine) (h : PPs X pos keys values trs) (hall : keys.all (·.isSome) = true) (hl : keys.length = values.length) (h0 : keys ≠ [])
    (h15 : keys.length ≤ 15) : PE X (.Dict keys values pos) (tDispT trs) := by
  refine ⟨fun pins s σ H Q I q => ?_⟩
  have hn := I.hok.fresh (Nat.le_refl s.heap.objs.size)
  have I1 := I.laid (a := s.heap.objs.size) (o := .dT []) (h' := s.heap.push { cls := .type "dict", data := .dict #[] }) (t' := s.toks) (fun _ _ q => Heap.get?_push_of_some _ q) (Nat.le_refl _) (dt_empty s.heap I.big)
  have hlen := pairTrees_length keys values X.env pos hall hl
  have hne : pairTrees keys values X.env pos ≠ [] := fun e => by
    rw [e] at hlen
    exact h0 (List.length_eq_zero_iff.mp hlen.symm)
  rw [arm_eval_Dict, zip_pairTrees keys values X.env pos hall hl, dictDisplay_pairs _ hne (by rw [hlen]; omega)]
  refine wpAny_bind (wpAny_standAt (wpAny_bind (wpAny_subDictH (knd := tupleKind (mixKind X.prog X.w)) (show X.A.units < cLine by omega) (by rw [hlen]; exact h15) ?_)))
  refine thn (h.run pins _ σ _ _ I1 (q _ hn)) fun ws s2 ⟨ps, H2, I2, rel, e, kvs, ep, lk, q2⟩ => ?_
  obtain ⟨rs, c, rk⟩ := carriesT_of (P := X.prog) (w := X.w) I2.hok ep rel
  obtain ⟨z, hd, xs0, r0, dd⟩ := dt_of I2.hok e
  cases r0
  refine ⟨rs, c, dd, fun h' tk dd' hs => wpAny_pure ⟨.ref s.heap.objs.size, _, ?_, rfl, q2⟩⟩
  have hz : (mergeT [] kvs).length ≤ sizeLine := by
    have h1 := length_mergeT kvs []
    rw [List.length_nil] at h1
    rw [sizeLine_eq]; omega
  obtain ⟨ob, es, ep', hq, h2, h3, h4, _, h5⟩ := dd'
  refine d_write (t' := tk) I2 (by rw [e]; exact True.intro) hs ⟨ob, hq⟩ ⟨hz, hd, _, (rk.merge .nil).keeps fun c ys ec => ?_, ob, es, ep', hq, h2, h3, h4, h5⟩
  rw [upd_ne (ne_of ec e (fun z => nomatch z))]
  exact ec
end L2
namespace Wd
open PySem PySem.Spec L2
open PyProof.Rows hiding St
theorem merge_nodup {κ : Type} [DecidableEq κ] : ∀ (more acc : List (κ × V)), ((acc ++ more).map (·.1)).Nodup → more.foldl (fun acc kv => putK acc kv.1 kv.2) acc = acc ++ more
  | [], acc, _ => by simp
  | p :: r, acc, h => by
    have hn : p.1 ∉ acc.map (·.1) := by
      rw [List.map_append, List.nodup_append] at h
      exact fun z => h.2.2 _ z _ (by rw [List.map_cons]; exact List.mem_cons_self) rfl
    have e : putK acc p.1 p.2 = acc ++ [p] := by
      unfold putK
      rw [if_neg]
      rw [List.any_eq_true]
      rintro ⟨q, hq, e⟩
      exact hn (by rw [← of_decide_eq_true e]; exact List.mem_map_of_mem hq)
    show r.foldl _ (putK acc p.1 p.2) = _
    rw [e, merge_nodup r (acc ++ [p]) (by rw [List.append_assoc]; exact h), List.append_assoc]
    rfl
section
variable {ι : Type} {Xs : ι → Cx} {P : Program} {w : World} {K : PySem.W.Frag} {mg : Str → Option Value} {base : Heap} {N : List Str} {k : Nat} {γ : Gm} {d : D} {e a b : Expr} {pos : Pos} {ks : List (Option Expr)} {vs : List Expr}
def trsOf (Xs : ι → Cx) : List (Option Expr) → List Expr → List (TE × TE)
  | some k :: ks, v :: vs => (anyE Xs k, anyE Xs v) :: trsOf Xs ks vs
  | _, _ => []
theorem pps_trs : ∀ (ks : List (Option Expr)) (vs : List Expr), ks.all (·.isSome) = true → ks.length = vs.length → ∀ i, PPs (Xs i) pos ks vs (trsOf Xs ks vs)
  | [], [], _, _, _ => pps_nil
  | [], _ :: _, _, h, _ => nomatch h
  | _ :: _, [], _, h, _ => nomatch h
  | none :: ks, _ :: _, h, _, _ => by simp at h
  | some k :: ks, v :: vs, h, hl, i => pps_cons (pe_any k i) (pe_any v i) (pps_trs ks vs (by simpa using h) (by simpa using hl) i)
/-- the pairs as data: keys, values -/
def PPD (K : PySem.W.Frag) (Xs : ι → Cx) (ks : List (Option Expr)) (vs : List Expr) (γ : Gm) (kd vd : List D) : Prop := ∀ (H0 S0 S H : Hp) (σ : L2.St), Ok K H0 S0 S H σ γ → ∀ Q : List (V × V) → Hp → Prop,
  (∀ ps S' H', Gr S H S' H' → Sub S' H' → Dats K S' (ps.map (·.1)) kd → Dats K S' (ps.map (·.2)) vd → Q ps H') → tPairs (trsOf Xs ks vs) σ H Q
theorem ppd_nil : PPD K Xs [] [] γ [] [] := fun H0 S0 S H σ k Q q => q [] S H (Gr.refl _ _) k.sh .nil .nil
theorem ppd_cons {dk dv : D} {kd vd : List D} (h1 : PED K Xs a γ (.sh dk)) (h2 : PED K Xs b γ (.sh dv)) (h3 : PPD K Xs ks vs γ kd vd) : PPD K Xs (some a :: ks) (b :: vs) γ (dk :: kd) (dv :: vd) := fun H0 S0 S H σ k Q q =>
  h1 H0 S0 S H σ k _ fun x S1 H1 g1 s1 r1 => h2 H0 S0 S1 H1 σ (k.grow g1 s1) _ fun y S2 H2 g2 s2 r2 => h3 H0 S0 S2 H2 σ ((k.grow g1 s1).grow g2 s2) _ fun ps S3 H3 g3 s3 t1 t2 =>
    q ((x, y) :: ps) S3 H3 ((g1.trans g2).trans g3) s3 (.cons (Dat.ex (Same.trans g2.ss g3.ss) r1) t1) (.cons (Dat.ex g3.ss r2) t2)
theorem gr_new {S H : Hp} {p : Addr} {o : HO} (hp : H p = none) : Gr S H S (upd H p o) := ⟨Same.refl _, Ex.new hp, fun b u h n => by rw [n] at h; cases h⟩
theorem pairs_keys {S : Hp} : ∀ {ps : List (V × V)} {kvs : List (Key × D)}, Dats K S (ps.map (·.1)) (kvs.map fun p => keyD p.1) → ∃ kv : List (Key × V), ps = kv.map (fun kv => (kV kv.1, kv.2)) ∧ kv.map (·.1) = kvs.map (·.1) ∧ kv.map (·.2) = ps.map (·.2)
  | [], [], _ => ⟨[], rfl, rfl, rfl⟩
  | [], _ :: _, h => nomatch h
  | _ :: _, [], h => nomatch h
  | p :: ps, q :: kvs, .cons h t => by
    obtain ⟨kv, e1, e2, e3⟩ := pairs_keys t
    refine ⟨(q.1, p.2) :: kv, ?_, by rw [List.map_cons, List.map_cons, e2], by rw [List.map_cons, List.map_cons, e3]⟩
    rw [List.map_cons, ← e1]
    have := kV_of h
    obtain ⟨p1, p2⟩ := p
    rw [← this]
theorem pairs_keysT {S H : Hp} (s : Sub S H) : ∀ {ps : List (V × V)} {kvs : List (List Key × D)}, Dats K S (ps.map (·.1)) (kvs.map fun p => D.tup (p.1.map keyD)) → ∃ kv : List (List Key × V), Paired (KeyAt H) ps kv ∧ kv.map (·.1) = kvs.map (·.1) ∧ kv.map (·.2) = ps.map (·.2)
  | [], [], _ => ⟨[], .nil, rfl, rfl⟩
  | [], _ :: _, h => nomatch h
  | _ :: _, [], h => nomatch h
  | p :: ps, q :: kvs, h => by
    obtain ⟨p1, p2⟩ := p
    have h' : Dats K S (p1 :: ps.map (·.1)) (D.tup (q.1.map keyD) :: kvs.map fun p => D.tup (p.1.map keyD)) := h
    cases h' with
    | cons h t =>
      obtain ⟨kv, e1, e2, e3⟩ := pairs_keysT s t
      cases h with
      | tup a1 t1 =>
        have ex := keys_of t1
        subst ex
        exact ⟨(q.1, p2) :: kv, .cons ⟨⟨_, rfl, s.tup a1⟩, rfl⟩ e1, by rw [List.map_cons, List.map_cons, e2], by rw [List.map_cons, List.map_cons, e3]⟩
/-- {k: v, ..} -/
theorem pd_disp (fx : Fx Xs P w K mg base N k) (kvs : List (Key × D)) (h : PPD K Xs ks vs γ (kvs.map fun p => keyD p.1) (kvs.map (·.2))) (nd : (kvs.map (·.1)).Nodup) (h15 : kvs.length ≤ 15 := by decide) (hall : ks.all (·.isSome) = true := by rfl) (hl : ks.length = vs.length := by rfl) (h0 : ks ≠ [] := by exact fun z => nomatch z) (hk : ks.length ≤ 15 := by decide) :
    PED K Xs (.Dict ks vs pos) γ (.ow (.dk kvs)) := by
  refine .of (fun i => pe_disp (pps_trs (pos := pos) ks vs hall hl i) hall hl h0 hk) fun H0 S0 S H σ k Q q p hp => ?_
  have g0 := gr_new (S := S) (o := .dK []) hp
  refine h H0 S0 S _ σ (k.grow g0 (k.sh.ex g0.hh)) _ fun ps S' H' g s t1 t2 => ?_
  obtain ⟨kv, e1, e2, e3⟩ := pairs_keys t1
  have hp' : H' p = some (.dK []) := g.hh _ _ upd_same
  have hS' : S' p = none := g.out (k.sh.out hp) upd_same
  have hlen : kv.length = kvs.length := by simpa using congrArg List.length e2
  have em : mergeK [] kv = kv := merge_nodup kv [] (by rw [List.nil_append, e2]; exact nd)
  refine ⟨hp', kv, e1, by rw [hlen]; exact h15, ?_⟩
  rw [em]
  have gg := g0.trans g
  refine q (.ref p) S' _ ⟨gg.ss, fun b o hb => by rw [upd_ne (ne_of_none hb hp)]; exact gg.hh b o hb, gg.nw⟩ (s.mut hS') ⟨p, rfl, hS', hp, kv, upd_same, e2, by rw [e3]; exact t2⟩
/-- {(..): v, ..} -/
theorem pd_dispT (fx : Fx Xs P w K mg base N k) (kvs : List (List Key × D)) (h : PPD K Xs ks vs γ (kvs.map fun p => D.tup (p.1.map keyD)) (kvs.map (·.2))) (nd : (kvs.map (·.1)).Nodup) (h15 : kvs.length ≤ 15 := by decide) (hall : ks.all (·.isSome) = true := by rfl) (hl : ks.length = vs.length := by rfl) (h0 : ks ≠ [] := by exact fun z => nomatch z) (hk : ks.length ≤ 15 := by decide) :
    PED K Xs (.Dict ks vs pos) γ (.ow (.dt kvs)) := by
  refine .of (fun i => pe_dispT (fx.hu i) (pps_trs (pos := pos) ks vs hall hl i) hall hl h0 hk) fun H0 S0 S H σ k Q q p hp => ?_
  have g0 := gr_new (S := S) (o := .dT []) hp
  refine h H0 S0 S _ σ (k.grow g0 (k.sh.ex g0.hh)) _ fun ps S' H' g s t1 t2 => ?_
  obtain ⟨kv, e1, e2, e3⟩ := pairs_keysT s t1
  have hp' : H' p = some (.dT []) := g.hh _ _ upd_same
  have hS' : S' p = none := g.out (k.sh.out hp) upd_same
  have hlen : kv.length = kvs.length := by simpa using congrArg List.length e2
  have em : mergeT [] kv = kv := merge_nodup kv [] (by rw [List.nil_append, e2]; exact nd)
  refine ⟨hp', kv, e1, by rw [hlen]; exact h15, ?_⟩
  rw [em]
  have gg := g0.trans g
  refine q (.ref p) S' _ ⟨gg.ss, fun b o hb => by rw [upd_ne (ne_of_none hb hp)]; exact gg.hh b o hb, gg.nw⟩ (s.mut hS') ⟨p, rfl, hS', hp, kv, upd_same, e2, by rw [e3]; exact t2⟩
/-- {} that will have int and text keys; tuples' keys -/
theorem pd_newK : PED K Xs (.Dict [] [] pos) γ (.ow (.dk [])) := .of (fun _ => pe_dnewK) fun H0 S0 S H σ k Q q p hp => q _ S _ (gr_new hp) (k.sh.ex (Ex.new hp)) ⟨p, rfl, k.sh.out hp, hp, [], upd_same, rfl, .nil⟩
theorem pd_newT : PED K Xs (.Dict [] [] pos) γ (.ow (.dt [])) := .of (fun _ => pe_dnewT) fun H0 S0 S H σ k Q q p hp => q _ S _ (gr_new hp) (k.sh.ex (Ex.new hp)) ⟨p, rfl, k.sh.out hp, hp, [], upd_same, rfl, .nil⟩
end
end Wd
set_option Elab.async false
set_option linter.all false
set_option maxRecDepth 100000
set_option maxHeartbeats 1000000
/-! == of equal data: lists, tuples, dicts, dicts with tuple keys, one within another. -/
namespace WdEq
open PySem PySem.Spec
open PySem.SeqAt PySem.AutoSeq1
open MeetsSeq MeetsSeq2 MeetsSeq3 SeqRoads2
section
variable {prog : Program} {w : World}
theorem tup_eqIn (l b : Addr) (items items2 : Array Value) (n n2 : Nat) (dd dd2 : Option Addr) (sl sl2 : Array (Option Value)) (hsz : items.size = items2.size) :
    MeetsIn prog w (Builtin.«tuple.__eq__» ⟨[.ref l, .ref b], []⟩)
      (fun A R s => s.heap.get? l = some { cls := .type "tuple", dict := dd, data := .seq items n, slots := sl } ∧ s.heap.get? b = some { cls := .type "tuple", dict := dd2, data := .seq items2 n2, slots := sl2 } ∧
        (∀ j (h1 : j < items.size) (h2 : j < items2.size), EqP prog w A.in1 s items[j] items2[j] true) ∧
        R (.ok (.ret (.bool true))) s) :=
  .of_wp fun A R s h => by
    obtain ⟨hp, g, d, tk, os⟩ := s; obtain ⟨hl, hb, he, h⟩ := h
    have f2 := AutoSeq1.sub_tuple_tuple
    have hZ : (items.toList.zip items2.toList).length = items.size := by simp [hsz]
    wp_walk using wpAny_loadPart' hl, wpAny_loadPart' hb, wpAny_forIn_list _ (fun rest b s' => b.1 = none ∧ s' = ⟨hp, g, d, tk, os⟩ ∧ ∃ i, rest = (items.toList.zip items2.toList).drop i) _
    case turn =>
      rintro ⟨y, x⟩ rest b s' ⟨hb', rfl, i, hz⟩
      have hlt : i < (items.toList.zip items2.toList).length := by
        rcases Nat.lt_or_ge i (items.toList.zip items2.toList).length with h' | h'
        · exact h'
        · rw [List.drop_of_length_le h'] at hz; cases hz
      have h1 : i < items.size := hZ ▸ hlt
      have h2 : i < items2.size := hsz ▸ h1
      rw [List.drop_eq_getElem_cons hlt] at hz
      injection hz with hyx hrest
      have hy : y = items[i] := by have := congrArg Prod.fst hyx; simpa using this
      have hx : x = items2[i] := by have := congrArg Prod.snd hyx; simpa using this
      subst hy hx
      refine wpAny_bind (he i h1 h2 _ _ ?_)
      wp_walk
      exact ⟨rfl, rfl, i + 1, hrest⟩
    case fin =>
      rintro ⟨b1, b2⟩ s' ⟨hb', rfl, i, hz⟩
      simp only at hb'
      subst hb'
      wp_walk
      refine ⟨_, rfl, ?_⟩
      simpa [Builtin.Tuple.tupleCompareSizes, hsz] using h
    case h =>
      exact ⟨rfl, rfl, 0, rfl⟩
theorem rcP_tuples {A : Around} {s : Shared} {l b : Addr} {items items2 : Array Value} (hl : s.heap.IsTuple l items) (hb : s.heap.IsTuple b items2) (hsz : items.size = items2.size) (hu : A.units < cLine)
    (he : ∀ j (h1 : j < items.size) (h2 : j < items2.size), EqP prog w A.in1 s items[j] items2[j] true) (E Q : Value → Shared → Prop) (h : Q (.bool true) s) : wpAny (model prog w) A (richCompare .Eq (.ref l) (.ref b)) Q E s := by
  obtain ⟨⟨cls, dd, data, sl⟩, ho, hc, n, hd⟩ := id hl
  obtain ⟨⟨cls2, dd2, data2, sl2⟩, ho2, hc2, n2, hd2⟩ := id hb
  simp only at hc hd hc2 hd2
  subst hc hd hc2 hd2
  have ta : s.TypeIs (.ref l) "tuple" := ⟨_, ho, rfl⟩
  have tb : s.TypeIs (.ref b) "tuple" := ⟨_, ho2, rfl⟩
  exact wpAny_richCompare_same_room (op := .Eq) ta tb F.slot_tuple_eq (call_meetsIn F.slot_tuple_eq ta F.entry_tuple_eq (F.args_tuple_eq_2 _ _) (tup_eqIn l b items items2 n n2 dd dd2 sl sl2 hsz)
    ⟨ho, ho2, he, show Value.bool true ≠ Value.notImplemented ∧ Q (.bool true) s from ⟨(fun x => nomatch x), h⟩⟩) hu
end
section
variable {prog : Program} {w : World} {K : Type} [DecidableEq K] {knd : HeapKind prog w K} {A : Around} {E : Value → Shared → Prop} {s : Shared}
theorem samePairsH {nm : String} {a b : Addr} {ka kb : List (K × Addr × Value)} {Q : Bool → Shared → Prop} (hu : knd.room A) (ha : (a == sysModules) = false) (hb : (b == sysModules) = false)
    (da : s.heap.DictOfH knd a ka) (db : s.heap.DictOfH knd b kb) (hlen : ka.length = kb.length) (hits : ∀ x ∈ ka, ∃ (j : Nat) (p : Addr × Value), kb[j]? = some (x.1, p) ∧ EqP prog w A s x.2.2 p.2 true) (h : Q true s) :
    wpAny (model prog w) A (Builtin.Dict.samePairs nm a b) Q E s := by
  obtain ⟨oa, es, ep, hoa, _, hda, hea, hia, _⟩ := da
  obtain ⟨ob, es', ep', hob, _, hdb, heb, hib, hnb⟩ := db
  have hla : es.size = ka.length := size_of_entries hea
  have hlb : es'.size = kb.length := size_of_entries heb
  have hsz : es.size = es'.size := by rw [hla, hlb, hlen]
  unfold Builtin.Dict.samePairs Builtin.Dict.showsAll
  rw [if_neg (show ¬ (a == sysModules) = true by rw [ha]; exact Bool.false_ne_true), if_neg (show ¬ (b == sysModules) = true by rw [hb]; exact Bool.false_ne_true)]
  refine wpAny_bind (wpAny_pure (wpAny_bind (wpAny_pure ?_)))
  refine wpAny_bind (wpAny_dictEntries hoa hda ?_)
  dsimp only
  refine wpAny_bind (wpAny_dictEntries hob hdb ?_)
  rw [if_neg (by rw [hsz]; simp)]
  refine wpAny_bind (wpAny_dictEpoch hoa hda ?_)
  refine wpAny_bind ?_
  rw [Std.Legacy.Range.forIn_eq_forIn_range']
  simp only [Std.Legacy.Range.size, Nat.sub_zero, Nat.add_sub_cancel, Nat.div_one]
  refine wpAny_forIn_list _
    (fun rest q s' => s' = s ∧ q = (none, ()) ∧ ∃ i, rest = List.range' i (es.size - i) ∧ i ≤ es.size)
    _ ?_ ?_ _ _ ⟨rfl, rfl, 0, by simp, Nat.zero_le _⟩
  · rintro x rest q s' ⟨rfl, rfl, i, hr, hi⟩
    have hlt : i < es.size := by
      rcases Nat.lt_or_ge i es.size with h | h
      · exact h
      · rw [Nat.sub_eq_zero_of_le h] at hr; simp at hr
    obtain ⟨rfl, hrest⟩ : x = i ∧ rest = List.range' (i + 1) (es.size - (i + 1)) := by
      have e : es.size - i = (es.size - (i + 1)) + 1 := by omega
      rw [e, List.range'_succ] at hr
      injection hr with h1 h2
      exact ⟨h1, h2⟩
    refine wpAny_bind (wpAny_dictEntries hoa hda ?_)
    have hlt' : x < ka.length := by rw [← hla]; exact hlt
    obtain ⟨k, ad, v, hkv⟩ : ∃ k ad v, ka[x]? = some (k, ad, v) := ⟨_, _, _, List.getElem?_eq_getElem hlt'⟩
    have hmem : (k, ad, v) ∈ ka := List.mem_of_getElem? hkv
    have hex : es[x]? = some ⟨knd.hash k, .ref ad, v⟩ := by rw [entry_at hea x, hkv]; rfl
    rw [hex]
    show wpAny _ _ (holding _ _ >>= _) _ _ _
    obtain ⟨j, ⟨pa, pv⟩, hj, heq⟩ := hits _ hmem
    have hjl : j < es'.size := by
      rw [hlb]
      rcases Nat.lt_or_ge j kb.length with h | h
      · exact h
      · rw [List.getElem?_eq_none h] at hj; exact nomatch hj
    have hej : es'[j]? = some ⟨knd.hash k, .ref pa, pv⟩ := by rw [entry_at heb j, hj]; rfl
    refine wpAny_bind (wpAny_holding (wpAny_bind (wpAny_dictFind_heap hu (hia _ hmem) hob hdb heb hib hnb (fun no => absurd hj (no j _)) fun j2 p2 hj2 => ?_)))
    have ej : j2 = j := idxH_unique hnb hj2 hj
    subst ej
    refine wpAny_bind (wpAny_dictEntries hob hdb ?_)
    rw [hej]
    refine wpAny_holding (heq _ _ ?_)
    show wpAny _ _ (if (!true) = true then _ else _) _ _ _
    rw [if_neg (by decide)]
    refine wpAny_bind (wpAny_dictEpoch hoa hda ?_)
    rw [if_neg (by simp)]
    exact wpAny_pure ⟨rfl, rfl, x + 1, hrest, hlt⟩
  · rintro q s' ⟨rfl, rfl, i, hr, hi⟩
    exact wpAny_pure h
theorem rcP_dictsH {a b : Addr} {ka kb : List (K × Addr × Value)} (hr : knd.room A.in1) (ha : (a == sysModules) = false) (hb : (b == sysModules) = false)
    (da : s.heap.DictOfH knd a ka) (db : s.heap.DictOfH knd b kb) (hu : A.units < cLine) (hlen : ka.length = kb.length) (hits : ∀ x ∈ ka, ∃ (j : Nat) (p : Addr × Value), kb[j]? = some (x.1, p) ∧ EqP prog w A.in1 s x.2.2 p.2 true)
    (E Q : Value → Shared → Prop) (h : Q (.bool true) s) : wpAny (model prog w) A (richCompare .Eq (.ref a) (.ref b)) Q E s := by
  refine wpAny_richCompare_same_room (op := .Eq) da.typeIs db.typeIs PySem.F.slot_dict_eq (wpAny_call_entry PySem.F.slot_dict_eq da.typeIs PySem.F.entry_dict_eq ?_ (PySem.F.args_dict_eq_2 _ _)) hu
  show wpAny _ _ (Builtin.Dict.dictSlotArgs "__eq__" ⟨[.ref a, .ref b], []⟩ >>= _) _ _ s
  refine wpAny_bind ?_
  unfold Builtin.Dict.dictSlotArgs
  refine wpAny_bind (wpAny_notOrdered_dict da.typeIs ?_)
  show wpAny _ _ (pure (Value.ref a, Value.ref b)) _ _ s
  refine wpAny_pure ?_
  refine wpAny_bind (wpAny_isInstance (T := "dict") db.typeIs PySem.F.sub_dict_dict ?_)
  simp only [Bool.not_true, Bool.false_eq_true, if_false]
  refine wpAny_bind (wpAny_pure (wpAny_bind (wpAny_pure ?_)))
  refine wpAny_bind (samePairsH hr ha hb da db hlen hits ?_)
  refine wpAny_pure ⟨_, rfl, ?_, ?_⟩
  · exact fun x => nomatch x
  · simpa using h
end

section
variable {prog : Program} {w : World}
theorem ne_loopIn (l b : Addr) (items items2 : Array Value) (n n2 : Nat) (dd dd2 : Option Addr) (sl sl2 : Array (Option Value)) (hsz : items.size = items2.size) (k : Nat) :
    ∀ i : Nat, items.size - i = k → MeetsIn prog w (Builtin.«list.__eq__.loop» ⟨[.ref l, .ref b, rawInt i, rawInt 3], []⟩)
      (fun A R s => s.heap.get? l = some { cls := .type "list", dict := dd, data := .seq items n, slots := sl } ∧ s.heap.get? b = some { cls := .type "list", dict := dd2, data := .seq items2 n2, slots := sl2 } ∧
        (∀ j (h1 : j < items.size) (h2 : j < items2.size), EqP prog w A.in1 s items[j] items2[j] true) ∧
        R (.ok (.ret (.bool false))) s) := by
  induction k with
  | zero =>
    intro i hk A R s h
    obtain ⟨hp, g, d, tk, os⟩ := s; obtain ⟨hl, hb, he, h⟩ := h
    wp_walk using wpAny_loadPart' hl, wpAny_loadPart' hb
    have hi1 : items[((i : Nat) : Int).toNat]? = none := by simp; omega
    have hi2 : items2[((i : Nat) : Int).toNat]? = none := by simp; omega
    rw [hi1, hi2]
    wp_walk using wpAny_loadPart' hl, wpAny_loadPart' hb
    show R (.ok (.ret (.bool (items.size != items2.size)))) _
    rw [hsz]
    simpa using h
  | succ k ih =>
    intro i hk A R s h
    obtain ⟨hp, g, d, tk, os⟩ := s; obtain ⟨hl, hb, he, h⟩ := h
    wp_walk using wpAny_loadPart' hl, wpAny_loadPart' hb
    have hlt : i < items.size := by omega
    have hlt2 : i < items2.size := by omega
    have hi1 : items[((i : Nat) : Int).toNat]? = some items[i] := by simp [hlt]
    have hi2 : items2[((i : Nat) : Int).toNat]? = some items2[i] := by simp [hlt2]
    have hc : ((i : Int) + 1) = ((i + 1 : Nat) : Int) := by push_cast; rfl
    rw [hi1, hi2]
    refine wpAny_bind (he i hlt hlt2 _ _ ?_)
    wp_walk
    rw [hc]
    exact ⟨plainId_quiet plain_eq_loop _, codeAny_builtin entry_eq_loop (by
      rw [Around.under_plainId plain_eq_loop _]
      exact ih (i + 1) (by omega) A R _ ⟨hl, hb, he, h⟩)⟩
theorem list_neIn (l b : Addr) (items items2 : Array Value) (n n2 : Nat) (dd dd2 : Option Addr) (sl sl2 : Array (Option Value)) (hsz : items.size = items2.size) :
    MeetsIn prog w (Builtin.«list.__ne__» ⟨[.ref l, .ref b], []⟩)
      (fun A R s => s.heap.get? l = some { cls := .type "list", dict := dd, data := .seq items n, slots := sl } ∧ s.heap.get? b = some { cls := .type "list", dict := dd2, data := .seq items2 n2, slots := sl2 } ∧
        (∀ j (h1 : j < items.size) (h2 : j < items2.size), EqP prog w A.in1 s items[j] items2[j] true) ∧
        R (.ok (.ret (.bool false))) s) := by
  intro A R s h
  obtain ⟨hp, g, d, tk, os⟩ := s; obtain ⟨hl, hb, he, h⟩ := h
  have f3 := AutoSeq1.sub_list_list
  have hne : ¬ (items.size != items2.size) = true := by simp [hsz]
  wp_walk using wpAny_loadPart' hl, wpAny_loadPart' hb
  exact ⟨plainId_quiet plain_eq_loop _, codeAny_builtin entry_eq_loop (by
    rw [Around.under_plainId plain_eq_loop _]
    exact ne_loopIn l b items items2 n n2 dd dd2 sl sl2 hsz _ 0 rfl A R _ ⟨hl, hb, he, h⟩)⟩
theorem neP_lists {A : Around} {s : Shared} {l b : Addr} {items items2 : Array Value} (hl : s.heap.IsList l items) (hb : s.heap.IsList b items2) (hsz : items.size = items2.size) (hu : A.units < cLine)
    (he : ∀ j (h1 : j < items.size) (h2 : j < items2.size), EqP prog w A.in1 s items[j] items2[j] true) (E Q : Value → Shared → Prop) (h : Q (.bool false) s) : wpAny (model prog w) A (richCompare .NotEq (.ref l) (.ref b)) Q E s := by
  obtain ⟨⟨cls, dd, data, sl⟩, ho, hc, n, hd⟩ := id hl
  obtain ⟨⟨cls2, dd2, data2, sl2⟩, ho2, hc2, n2, hd2⟩ := id hb
  simp only at hc hd hc2 hd2
  subst hc hd hc2 hd2
  have ta : s.TypeIs (.ref l) "list" := ⟨_, ho, rfl⟩
  have tb : s.TypeIs (.ref b) "list" := ⟨_, ho2, rfl⟩
  exact wpAny_richCompare_same_room (op := .NotEq) ta tb F.slot_list_ne (call_meetsIn F.slot_list_ne ta F.entry_list_ne (F.args_list_ne_2 _ _) (list_neIn l b items items2 n n2 dd dd2 sl sl2 hsz)
    ⟨ho, ho2, he, show Value.bool false ≠ Value.notImplemented ∧ Q (.bool false) s from ⟨(fun x => nomatch x), h⟩⟩) hu
theorem tup_neIn (l b : Addr) (items items2 : Array Value) (n n2 : Nat) (dd dd2 : Option Addr) (sl sl2 : Array (Option Value)) (hsz : items.size = items2.size) :
    MeetsIn prog w (Builtin.«tuple.__ne__» ⟨[.ref l, .ref b], []⟩)
      (fun A R s => s.heap.get? l = some { cls := .type "tuple", dict := dd, data := .seq items n, slots := sl } ∧ s.heap.get? b = some { cls := .type "tuple", dict := dd2, data := .seq items2 n2, slots := sl2 } ∧
        (∀ j (h1 : j < items.size) (h2 : j < items2.size), EqP prog w A.in1 s items[j] items2[j] true) ∧
        R (.ok (.ret (.bool false))) s) :=
  .of_wp fun A R s h => by
    obtain ⟨hp, g, d, tk, os⟩ := s; obtain ⟨hl, hb, he, h⟩ := h
    have f2 := AutoSeq1.sub_tuple_tuple
    have hZ : (items.toList.zip items2.toList).length = items.size := by simp [hsz]
    wp_walk using wpAny_loadPart' hl, wpAny_loadPart' hb, wpAny_forIn_list _ (fun rest b s' => b.1 = none ∧ s' = ⟨hp, g, d, tk, os⟩ ∧ ∃ i, rest = (items.toList.zip items2.toList).drop i) _
    case turn =>
      rintro ⟨y, x⟩ rest b s' ⟨hb', rfl, i, hz⟩
      have hlt : i < (items.toList.zip items2.toList).length := by
        rcases Nat.lt_or_ge i (items.toList.zip items2.toList).length with h' | h'
        · exact h'
        · rw [List.drop_of_length_le h'] at hz; cases hz
      have h1 : i < items.size := hZ ▸ hlt
      have h2 : i < items2.size := hsz ▸ h1
      rw [List.drop_eq_getElem_cons hlt] at hz
      injection hz with hyx hrest
      have hy : y = items[i] := by have := congrArg Prod.fst hyx; simpa using this
      have hx : x = items2[i] := by have := congrArg Prod.snd hyx; simpa using this
      subst hy hx
      refine wpAny_bind (he i h1 h2 _ _ ?_)
      wp_walk
      exact ⟨rfl, rfl, i + 1, hrest⟩
    case fin =>
      rintro ⟨b1, b2⟩ s' ⟨hb', rfl, i, hz⟩
      simp only at hb'
      subst hb'
      wp_walk
      refine ⟨_, rfl, ?_⟩
      simpa [Builtin.Tuple.tupleCompareSizes, hsz] using h
    case h =>
      exact ⟨rfl, rfl, 0, rfl⟩
theorem neP_tuples {A : Around} {s : Shared} {l b : Addr} {items items2 : Array Value} (hl : s.heap.IsTuple l items) (hb : s.heap.IsTuple b items2) (hsz : items.size = items2.size) (hu : A.units < cLine)
    (he : ∀ j (h1 : j < items.size) (h2 : j < items2.size), EqP prog w A.in1 s items[j] items2[j] true) (E Q : Value → Shared → Prop) (h : Q (.bool false) s) : wpAny (model prog w) A (richCompare .NotEq (.ref l) (.ref b)) Q E s := by
  obtain ⟨⟨cls, dd, data, sl⟩, ho, hc, n, hd⟩ := id hl
  obtain ⟨⟨cls2, dd2, data2, sl2⟩, ho2, hc2, n2, hd2⟩ := id hb
  simp only at hc hd hc2 hd2
  subst hc hd hc2 hd2
  have ta : s.TypeIs (.ref l) "tuple" := ⟨_, ho, rfl⟩
  have tb : s.TypeIs (.ref b) "tuple" := ⟨_, ho2, rfl⟩
  exact wpAny_richCompare_same_room (op := .NotEq) ta tb F.slot_tuple_ne (call_meetsIn F.slot_tuple_ne ta F.entry_tuple_ne (F.args_tuple_ne_2 _ _) (tup_neIn l b items items2 n n2 dd dd2 sl sl2 hsz)
    ⟨ho, ho2, he, show Value.bool false ≠ Value.notImplemented ∧ Q (.bool false) s from ⟨(fun x => nomatch x), h⟩⟩) hu
end
end WdEq
set_option Elab.async false
set_option linter.all false
set_option maxRecDepth 100000
set_option maxHeartbeats 1000000
/-! == and != of data. -/
namespace Wd
open PySem PySem.Spec L2
open PyProof.Rows hiding St

/-! ### data that is equal to itself: no object, dict keys unlike -/
inductive Pl : Nat → D → Prop
  | flat {n d v} : dV d = some v → Pl (n + 1) d
  | lst {n d ds} : IsL d ds → (∀ x ∈ ds, Pl n x) → Pl (n + 1) d
  | tup {n d ds} : IsT d ds → (∀ x ∈ ds, Pl n x) → Pl (n + 1) d
  | dk {n} {ks : List (Key × D)} : (ks.map (·.1)).Nodup → (∀ p ∈ ks, Pl n p.2) → Pl (n + 1) (.dk ks)
  | dt {n} {ks : List (List Key × D)} : (∀ p ∈ ks, Pl n p.2) → Pl (n + 1) (.dt ks)
theorem getK_nodup {κ : Type} [DecidableEq κ] {α : Type} : ∀ {ks : List (κ × α)} {i : Nat} {p : κ × α}, (ks.map (·.1)).Nodup → ks[i]? = some p → getK ks p.1 = some p.2
  | [], _, _, _, e => by simp at e
  | q :: r, 0, p, _, e => by
    simp only [List.getElem?_cons_zero, Option.some.injEq] at e
    subst e
    unfold getK
    rw [if_pos rfl]
  | q :: r, i + 1, p, h, e => by
    simp only [List.getElem?_cons_succ] at e
    rw [List.map_cons, List.nodup_cons] at h
    unfold getK
    rw [if_neg (fun z => h.1 (by rw [z]; exact List.mem_map.mpr ⟨p, List.mem_of_getElem? e, rfl⟩))]
    exact getK_nodup h.2 e
theorem vals_get' {vs : List V} {us : List Value} (h : Vals vs us) {j : Nat} (hj : j < us.length) : ∃ v, vs[j]? = some v ∧ RelV v us[j] := by
  have hl : vs.length = us.length := h.length
  have h1 : vs[j]? = some (vs[j]'(by omega)) := List.getElem?_eq_getElem _
  obtain ⟨u, hu, ru⟩ := h.get h1
  rw [List.getElem?_eq_getElem hj] at hu
  cases hu
  exact ⟨_, h1, ru⟩
section
variable {X : Cx} {pins : List (Addr × Obj)} {σ : L2.St} {H S : Hp} {s : Shared}
def EqN (X : Cx) (S : Hp) (n : Nat) (A : Around) (s : Shared) : Prop := ∀ (d : D) (x y : V) (v u : Value), Pl n d → Dat X.K S x d → Dat X.K S y d → RelV x v → RelV y u → SeqAt.EqP X.prog X.w A s v u true
theorem items_eq {n : Nat} {A : Around} (ih : EqN X S n A s) {xs ys : List V} {us ws : List Value} {ds : List D} (hp : ∀ x ∈ ds, Pl n x) (t1 : Dats X.K S xs ds) (t2 : Dats X.K S ys ds) (r1 : Vals xs us) (r2 : Vals ys ws) :
    ∀ j (h1 : j < us.toArray.size) (h2 : j < ws.toArray.size), SeqAt.EqP X.prog X.w A s us.toArray[j] ws.toArray[j] true := by
  intro j h1 h2
  have h1' : j < us.length := by simpa using h1
  have h2' : j < ws.length := by simpa using h2
  obtain ⟨x, hx, rx⟩ := vals_get' r1 h1'
  obtain ⟨y, hy, ry⟩ := vals_get' r2 h2'
  obtain ⟨d, hd, dx⟩ := t1.getV hx
  obtain ⟨d', hd', dy⟩ := t2.getV hy
  rw [hd] at hd'
  cases hd'
  have z := ih d x y _ _ (hp d (List.mem_of_getElem? hd)) dx dy rx ry
  simpa using z
theorem len_eq {xs ys : List V} {us ws : List Value} {ds : List D} (t1 : Dats X.K S xs ds) (t2 : Dats X.K S ys ds) (r1 : Vals xs us) (r2 : Vals ys ws) : us.toArray.size = ws.toArray.size := by
  rw [List.size_toArray, List.size_toArray, ← r1.length, ← r2.length, t1.length, t2.length]
theorem pd_get {κ : Type} {kvs : List (κ × V)} {ds : List (κ × D)} {K : PySem.W.Frag} (hk : kvs.map (·.1) = ds.map (·.1)) (t : Dats K S (kvs.map (·.2)) (ds.map (·.2))) {i : Nat} {p : κ × V} (h : kvs[i]? = some p) : ∃ d, ds[i]? = some (p.1, d) ∧ Dat K S p.2 d := by
  have h1 : (kvs.map (·.2))[i]? = some p.2 := by rw [List.getElem?_map, h]; rfl
  obtain ⟨d, hd, hx⟩ := t.getV h1
  have h2 : (kvs.map (·.1))[i]? = some p.1 := by rw [List.getElem?_map, h]; rfl
  rw [hk, List.getElem?_map] at h2
  rw [List.getElem?_map] at hd
  cases e : ds[i]? with
  | none => rw [e] at hd; cases hd
  | some q =>
    obtain ⟨k, d'⟩ := q
    rw [e] at hd h2
    simp only [Option.map_some, Option.some.injEq] at hd h2
    subst hd h2
    exact ⟨_, rfl, hx⟩
theorem eqD_rc (I : Inv X pins σ H s) (sb : Sub S H) {n : Nat} {A : Around} (hu : A.units < cLine) (hu2 : A.in1.units < cLine) (ih : EqN X S n A.in1 s) {d : D} {a b : Addr} (hp : Pl (n + 1) d) (dx : Dat X.K S (.ref a) d) (dy : Dat X.K S (.ref b) d)
    (E Q : Value → Shared → Prop) (q : Q (.bool true) s) (q2 : (dV d).isNone = true) : wpAny (model X.prog X.w) A (richCompare .Eq (.ref a) (.ref b)) Q E s := by
  cases hp with
  | flat hf => rw [hf] at q2; cases q2
  | @lst _ _ ds hl hp =>
    obtain ⟨_, xs, e1, h1, t1⟩ := isL_of hl dx sb
    obtain ⟨_, ys, e2, h2, t2⟩ := isL_of hl dy sb
    cases e1
    cases e2
    obtain ⟨us, r1, p1, _⟩ := I.list h1
    obtain ⟨ws, r2, p2, _⟩ := I.list h2
    refine SeqAt.rcP_lists (e := fun _ => true) p1.isList p2.isList (len_eq t1 t2 r1 r2) hu (items_eq ih hp t1 t2 r1 r2) E Q ?_
    rw [show ((List.range us.toArray.size).all fun _ => true) = true from List.all_eq_true.mpr fun _ _ => rfl]
    exact q
  | @tup _ _ ds hl hp =>
    obtain ⟨_, xs, e1, h1, t1⟩ := isT_of hl dx sb
    obtain ⟨_, ys, e2, h2, t2⟩ := isT_of hl dy sb
    cases e1
    cases e2
    obtain ⟨us, r1, ⟨o1, g1, c1, n1, f1⟩, _⟩ := I.tuple h1
    obtain ⟨ws, r2, ⟨o2, g2, c2, n2, f2⟩, _⟩ := I.tuple h2
    exact WdEq.rcP_tuples ⟨_, g1, c1, _, f1⟩ ⟨_, g2, c2, _, f2⟩ (len_eq t1 t2 r1 r2) hu (items_eq ih hp t1 t2 r1 r2) E Q q
  | @dk _ ks hn hp =>
    cases dx with
    | @dk _ kx _ ax k1 t1 =>
      cases dy with
      | @dk _ ky _ ay k2 t2 =>
        obtain ⟨_, ya, va, ra, da⟩ := dk_rd I.hok (sb.rd (.inl ax))
        obtain ⟨_, yb, vb, rb, db⟩ := dk_rd I.hok (sb.rd (.inl ay))
        have hl : va.length = vb.length := by
          rw [← ra.length, ← rb.length]
          have e1 := congrArg List.length k1
          have e2 := congrArg List.length k2
          simp only [List.length_map] at e1 e2
          omega
        refine PySem.W.rcP_dicts (knd := mixKind X.prog X.w) (r := true) ya yb da db hu (fun _ => hits_run (F := fun x y => ∃ d, Pl n d ∧ Dat X.K S x d ∧ Dat X.K S y d) (fun x y v u ⟨d, g, g1, g2⟩ rx ry => ih d x y v u g g1 g2 rx ry) rb ra fun p hm => ?_) E Q ?_
        · obtain ⟨i, hi⟩ := List.mem_iff_getElem?.mp hm
          obtain ⟨d, hd, dp⟩ := pd_get k1 t1 hi
          obtain ⟨v, hv, dv⟩ := getV_of k2 t2 (getK_nodup hn hd)
          exact ⟨v, hv, d, hp _ (List.mem_of_getElem? hd), dp, dv⟩
        · rw [show (va.length == vb.length && true) = true from by rw [hl]; simp]
          exact q
  | @dt _ ks hp =>
    cases dx with
    | @dt _ kx _ ax k1 t1 =>
      cases dy with
      | @dt _ ky _ ay k2 t2 =>
        obtain ⟨_, ya, va, ra, da⟩ := dt_rd I.hok (sb.rd (.inl ax))
        obtain ⟨_, yb, vb, rb, db⟩ := dt_rd I.hok (sb.rd (.inl ay))
        have l1 : kx.length = va.length := Paired.length ra
        have l2 : ky.length = vb.length := Paired.length rb
        have e1 := congrArg List.length k1
        have e2 := congrArg List.length k2
        simp only [List.length_map] at e1 e2
        refine WdEq.rcP_dictsH (knd := tupleKind (mixKind X.prog X.w)) hu2 ya yb da db hu (by omega) (fun x hm => ?_) E Q q
        obtain ⟨i, hi⟩ := List.mem_iff_getElem?.mp hm
        have hi' : i < va.length := by
          rcases Nat.lt_or_ge i va.length with h | h
          · exact h
          · rw [List.getElem?_eq_none h] at hi; cases hi
        have hx : kx[i]? = some (kx[i]'(by omega)) := List.getElem?_eq_getElem _
        have hy : ky[i]? = some (ky[i]'(by omega)) := List.getElem?_eq_getElem _
        obtain ⟨b1, hb1, p1, _, p3⟩ := paired_get ra hx
        obtain ⟨b2, hb2, p4, _, p6⟩ := paired_get rb hy
        rw [hi] at hb1
        cases hb1
        obtain ⟨d, hd, dp⟩ := pd_get k1 t1 hx
        obtain ⟨d', hd', dp'⟩ := pd_get k2 t2 hy
        rw [hd] at hd'
        injection hd' with hd'
        injection hd' with ek ed
        subst ed
        refine ⟨i, b2.2, ?_, ih d _ _ _ _ (hp _ (List.mem_of_getElem? hd)) dp dp' p3 p6⟩
        rw [hb2, ← p1, ek, p4]
theorem eqD_run (I : Inv X pins σ H s) (sb : Sub S H) : ∀ (n : Nat) (A : Around), A.units + n < cLine → EqN X S n A s
  | 0, _, _ => fun _ _ _ _ _ h => nomatch h
  | n + 1, A, hu => fun d x y v u hp dx dy rx ry => by
    cases hd : dV d with
    | some z =>
      obtain ⟨rfl, f⟩ := dV_of dx hd
      obtain ⟨rfl, _⟩ := dV_of dy hd
      refine (eqAt_same rx ry ?_).eqP
      cases y <;> first | rfl | exact f
    | none =>
      obtain ⟨a, rfl⟩ : ∃ a, x = .ref a := by
        cases hp with
        | flat h => rw [hd] at h; cases h
        | lst h _ => obtain ⟨a, _, e, _⟩ := isL_of h dx sb; exact ⟨a, e⟩
        | tup h _ => obtain ⟨a, _, e, _⟩ := isT_of h dx sb; exact ⟨a, e⟩
        | dk _ _ => cases dx; exact ⟨_, rfl⟩
        | dt _ => cases dx; exact ⟨_, rfl⟩
      obtain ⟨b, rfl⟩ : ∃ a, y = .ref a := by
        cases hp with
        | flat h => rw [hd] at h; cases h
        | lst h _ => obtain ⟨a, _, e, _⟩ := isL_of h dy sb; exact ⟨a, e⟩
        | tup h _ => obtain ⟨a, _, e, _⟩ := isT_of h dy sb; exact ⟨a, e⟩
        | dk _ _ => cases dy; exact ⟨_, rfl⟩
        | dt _ => cases dy; exact ⟨_, rfl⟩
      cases (show v = Value.ref a from rx)
      cases (show u = Value.ref b from ry)
      by_cases e : a = b
      · subst e
        exact (SeqAt.EqAt.same _).eqP
      · have hu1 : A.in1.units + n < cLine := by show A.units + 1 + n < cLine; omega
        exact SeqAt.eqP_refs e fun E Q q => eqD_rc I sb (by omega) (by omega) (eqD_run I sb n A.in1 hu1) hp dx dy E Q q (by rw [hd]; rfl)
end
def SqD (d : D) : Prop := (∃ ds, IsL d ds) ∨ ∃ ds, IsT d ds
def rEqP (K : PySem.W.Frag) : R2 := fun x y H Q => ∃ S d n, Sub S H ∧ Pl (n + 1) d ∧ n ≤ 60 ∧ (dV d).isNone = true ∧ Dat K S x d ∧ Dat K S y d ∧ Q (.bl true) H
def rNeP (K : PySem.W.Frag) : R2 := fun x y H Q => ∃ S d n, Sub S H ∧ Pl (n + 1) d ∧ n ≤ 60 ∧ SqD d ∧ Dat K S x d ∧ Dat K S y d ∧ Q (.bl false) H
theorem dat_ref {K : PySem.W.Frag} {S : Hp} {n : Nat} {d : D} {x : V} (hp : Pl n d) (hd : (dV d).isNone = true) (dx : Dat K S x d) : ∃ a, x = .ref a := by
  cases hp with
  | flat h => rw [h] at hd; cases hd
  | lst h _ => obtain ⟨a, _, e, _⟩ := isL_of h dx (Sub.refl S); exact ⟨a, e⟩
  | tup h _ => obtain ⟨a, _, e, _⟩ := isT_of h dx (Sub.refl S); exact ⟨a, e⟩
  | dk _ _ => cases dx; exact ⟨_, rfl⟩
  | dt _ => cases dx; exact ⟨_, rfl⟩
section
variable {X : Cx}
theorem op_eqP (hu : X.A.units + 64 < cLine) : OpR X (compareOp .Eq) (rEqP X.K) := by
  intro pins s σ H x y v u Q I rx ry h
  obtain ⟨S, d, n, sb, hp, hn, hf, dx, dy, q⟩ := h
  obtain ⟨a, rfl⟩ := dat_ref hp hf dx
  obtain ⟨b, rfl⟩ := dat_ref hp hf dy
  cases (show v = Value.ref a from rx)
  cases (show u = Value.ref b from ry)
  exact eqD_rc I sb (A := X.A) (by omega) (by show X.A.units + 1 < cLine; omega) (eqD_run I sb n X.A.in1 (by show X.A.units + 1 + n < cLine; omega)) hp dx dy _ _ ⟨.bl true, H, I, rfl, q⟩ hf
theorem op_neP (hu : X.A.units + 64 < cLine) : OpR X (compareOp .NotEq) (rNeP X.K) := by
  intro pins s σ H x y v u Q I rx ry h
  obtain ⟨S, d, n, sb, hp, hn, hf, dx, dy, q⟩ := h
  have ih := eqD_run I sb n X.A.in1 (by show X.A.units + 1 + n < cLine; omega)
  rcases hf with ⟨ds, hl⟩ | ⟨ds, hl⟩
  · obtain ⟨a, xs, e1, h1, t1⟩ := isL_of hl dx sb
    obtain ⟨b, ys, e2, h2, t2⟩ := isL_of hl dy sb
    subst e1 e2
    cases (show v = Value.ref a from rx)
    cases (show u = Value.ref b from ry)
    obtain ⟨us, r1, p1, _⟩ := I.list h1
    obtain ⟨ws, r2, p2, _⟩ := I.list h2
    have hp' : ∀ x ∈ ds, Pl n x := by
      cases hp with
      | flat h => cases hl <;> cases h
      | lst h g => cases hl <;> cases h <;> exact g
      | tup h g => cases hl <;> cases h
      | dk _ _ => cases hl
      | dt _ => cases hl
    exact WdEq.neP_lists p1.isList p2.isList (len_eq t1 t2 r1 r2) (by omega) (items_eq ih hp' t1 t2 r1 r2) _ _ ⟨.bl false, H, I, rfl, q⟩
  · obtain ⟨a, xs, e1, h1, t1⟩ := isT_of hl dx sb
    obtain ⟨b, ys, e2, h2, t2⟩ := isT_of hl dy sb
    subst e1 e2
    cases (show v = Value.ref a from rx)
    cases (show u = Value.ref b from ry)
    obtain ⟨us, r1, ⟨o1, g1, c1, n1, f1⟩, _⟩ := I.tuple h1
    obtain ⟨ws, r2, ⟨o2, g2, c2, n2, f2⟩, _⟩ := I.tuple h2
    have hp' : ∀ x ∈ ds, Pl n x := by
      cases hp with
      | flat h => cases hl <;> cases h
      | lst h g => cases hl <;> cases h
      | tup h g => cases hl <;> cases h <;> exact g
      | dk _ _ => cases hl
      | dt _ => cases hl
    exact WdEq.neP_tuples ⟨_, g1, c1, _, f1⟩ ⟨_, g2, c2, _, f2⟩ (len_eq t1 t2 r1 r2) (by omega) (items_eq ih hp' t1 t2 r1 r2) _ _ ⟨.bl false, H, I, rfl, q⟩
end
end Wd
set_option Elab.async false
set_option linter.all false
set_option maxRecDepth 100000
set_option maxHeartbeats 1000000
/-! a == b, a != b: the rules. -/
namespace Wd
open PySem PySem.Spec L2
open PyProof.Rows hiding St
mutual
/-- data without dicts and objects, as the library tells it -/
inductive PyOf : D → PyData → Prop
  | non : PyOf .non .none
  | bl {b} : PyOf (.bl b) (.bool b)
  | int {i} : PyOf (.int i) (.int i)
  | str {x} : PyOf (.str x) (.str x)
  | lst {d ds ps} : IsL d ds → PysOf ds ps → PyOf d (.list ps)
  | tup {d ds ps} : IsT d ds → PysOf ds ps → PyOf d (.tuple ps)
inductive PysOf : List D → List PyData → Prop
  | nil : PysOf [] []
  | cons {d p ds ps} : PyOf d p → PysOf ds ps → PysOf (d :: ds) (p :: ps)
end
theorem PysOf.map {α : Type} {f : α → D} {g : α → PyData} (h : ∀ x, PyOf (f x) (g x)) : ∀ xs : List α, PysOf (xs.map f) (xs.map g)
  | [] => .nil
  | x :: r => .cons (h x) (PysOf.map h r)
section
variable {K : PySem.W.Frag} {S H : Hp}
mutual
theorem PyOf.dp (sb : Sub S H) : ∀ {d : D} {p : PyData} {v : V}, PyOf d p → Dat K S v d → Dp K H v p
  | _, _, _, .non, h => by cases h; exact .non
  | _, _, _, .bl, h => by cases h; exact .bl _
  | _, _, _, .int, h => by cases h; exact .int _
  | _, _, _, .str, h => by cases h; exact .str _
  | _, _, _, .lst hl g, h => by
    obtain ⟨a, xs, rfl, h1, t⟩ := isL_of hl h sb
    exact .lst h1 (PysOf.dp sb g t)
  | _, _, _, .tup hl g, h => by
    obtain ⟨a, xs, rfl, h1, t⟩ := isT_of hl h sb
    exact .tup h1 (PysOf.dp sb g t)
theorem PysOf.dp (sb : Sub S H) : ∀ {ds : List D} {ps : List PyData} {vs : List V}, PysOf ds ps → Dats K S vs ds → DpAll K H vs ps
  | _, _, _, .nil, h => by cases h; exact .nil
  | _, _, _, .cons h g, t => by cases t with | cons t1 t2 => exact .cons (PyOf.dp sb h t1) (PysOf.dp sb g t2)
end
end
mutual
theorem PyOf.plain : ∀ {d : D} {p : PyData}, PyOf d p → p.plain = true
  | _, _, .non => rfl
  | _, _, .bl => rfl
  | _, _, .int => rfl
  | _, _, .str => rfl
  | _, _, .lst _ g => by rw [PyData.plain]; exact PysOf.plain g
  | _, _, .tup _ g => by rw [PyData.plain]; exact PysOf.plain g
theorem PysOf.plain : ∀ {ds : List D} {ps : List PyData}, PysOf ds ps → PyData.plainAll ps = true
  | _, _, .nil => rfl
  | _, _, .cons h g => by rw [PyData.plainAll, PyOf.plain h, PysOf.plain g]; rfl
end
def rEqY (K : PySem.W.Frag) : R2 := fun x y H Q => ∃ d e, Dp K H x d ∧ Dp K H y e ∧ d.plain = true ∧ e.plain = true ∧ min d.depth e.depth ≤ 60 ∧ Q (.bl (PyData.eqv d e)) H
def rNeY (K : PySem.W.Frag) : R2 := fun x y H Q => ∃ d e, Dp K H x d ∧ Dp K H y e ∧ d.plain = true ∧ e.plain = true ∧ min d.depth e.depth ≤ 60 ∧ Q (.bl (!PyData.eqv d e)) H
section
variable {X : Cx}
theorem op_eqY (hu : X.A.units + 64 < cLine) : OpR X (compareOp .Eq) (rEqY X.K) := by
  intro pins s σ H x y v u Q I rx ry h
  obtain ⟨d, e, hd, he, sd, se, hm, q⟩ := h
  obtain ⟨as, r1⟩ := Dp.reads I d x v hd rx
  obtain ⟨bs, r2⟩ := Dp.reads I e y u he ry
  exact SeqAt.eq_plain r1 r2 sd se (by omega) ⟨.bl _, H, I, rfl, q⟩
theorem op_neY (hu : X.A.units + 64 < cLine) : OpR X (compareOp .NotEq) (rNeY X.K) := by
  intro pins s σ H x y v u Q I rx ry h
  obtain ⟨d, e, hd, he, sd, se, hm, q⟩ := h
  obtain ⟨as, r1⟩ := Dp.reads I d x v hd rx
  obtain ⟨bs, r2⟩ := Dp.reads I e y u he ry
  exact SeqAt.ne_plain r1 r2 sd se (by omega) ⟨.bl _, H, I, rfl, q⟩
end
/-- what == comes to -/
inductive EqD : D → D → Bool → Prop
  | flat {d e v u} : dV d = some v → dV e = some u → scal v u = true → EqD d e (decide (v = u))
  | py {d e p q} : PyOf d p → PyOf e q → min p.depth q.depth ≤ 60 → EqD d e (PyData.eqv p q)
  | same {d n} : Pl (n + 1) d → n ≤ 60 → SqD d → EqD d d true
section
variable {ι : Type} {Xs : ι → Cx} {P : Program} {w : World} {K : PySem.W.Frag} {mg : Str → Option Value} {base : Heap} {N : List Str} {k : Nat} {γ : Gm} {d1 d2 : D} {e a b : Expr} {pos : Pos} {tv : Bool}
theorem SqD.none {d : D} (h : SqD d) : (dV d).isNone = true := by
  rcases h with ⟨ds, h⟩ | ⟨ds, h⟩ <;> cases h <;> rfl
theorem eq_reads (h : EqD d1 d2 tv) : RD K rEq d1 d2 (.sh (.bl tv)) ∨ RD K (rEqY K) d1 d2 (.sh (.bl tv)) ∨ RD K (rEqP K) d1 d2 (.sh (.bl tv)) := by
  cases h with
  | flat h1 h2 h3 =>
    refine .inl fun S H x y s g1 g2 Q q => ?_
    obtain ⟨rfl, _⟩ := dV_of g1 h1
    obtain ⟨rfl, _⟩ := dV_of g2 h2
    exact ⟨h3, here s .bl q⟩
  | py h1 h2 hm => exact .inr (.inl fun S H x y s g1 g2 Q q => ⟨_, _, h1.dp s g1, h2.dp s g2, h1.plain, h2.plain, hm, here s .bl q⟩)
  | same hp hn hs => exact .inr (.inr fun S H x y s g1 g2 Q q => ⟨S, _, _, s, hp, hn, hs.none, g1, g2, here s .bl q⟩)
theorem ne_reads (h : EqD d1 d2 tv) : RD K rNe d1 d2 (.sh (.bl (!tv))) ∨ RD K (rNeY K) d1 d2 (.sh (.bl (!tv))) ∨ RD K (rNeP K) d1 d2 (.sh (.bl (!tv))) := by
  cases h with
  | flat h1 h2 h3 =>
    refine .inl fun S H x y s g1 g2 Q q => ?_
    obtain ⟨rfl, _⟩ := dV_of g1 h1
    obtain ⟨rfl, _⟩ := dV_of g2 h2
    exact ⟨h3, here s .bl q⟩
  | py h1 h2 hm => exact .inr (.inl fun S H x y s g1 g2 Q q => ⟨_, _, h1.dp s g1, h2.dp s g2, h1.plain, h2.plain, hm, here s .bl q⟩)
  | same hp hn hs => exact .inr (.inr fun S H x y s g1 g2 Q q => ⟨S, _, _, s, hp, hn, hs, g1, g2, here s .bl q⟩)
theorem pd_eq (fx : Fx Xs P w K mg base N k) (ha : PED K Xs a γ (.sh d1)) (hb : PED K Xs b γ (.sh d2)) (h : EqD d1 d2 tv) (hm : behindInMarks .Eq b = false := by exact nomark _) : PED K Xs (.Compare a [.Eq] [b] pos) γ (.sh (.bl tv)) := by
  rcases eq_reads (K := K) h with r | r | r
  · exact pd_cmp (fun _ => op_eq) hm ha hb r
  · exact pd_cmp (fun i => by have z := op_eqY (X := Xs i) (fx.hu64 i); rw [fx.hK i] at z; exact z) hm ha hb r
  · exact pd_cmp (fun i => by have z := op_eqP (X := Xs i) (fx.hu64 i); rw [fx.hK i] at z; exact z) hm ha hb r
theorem pd_ne (fx : Fx Xs P w K mg base N k) (ha : PED K Xs a γ (.sh d1)) (hb : PED K Xs b γ (.sh d2)) (h : EqD d1 d2 tv) (hm : behindInMarks .NotEq b = false := by exact nomark _) : PED K Xs (.Compare a [.NotEq] [b] pos) γ (.sh (.bl (!tv))) := by
  rcases ne_reads (K := K) h with r | r | r
  · exact pd_cmp (fun _ => op_ne) hm ha hb r
  · exact pd_cmp (fun i => by have z := op_neY (X := Xs i) (fx.hu64 i); rw [fx.hK i] at z; exact z) hm ha hb r
  · exact pd_cmp (fun i => by have z := op_neP (X := Xs i) (fx.hu64 i); rw [fx.hK i] at z; exact z) hm ha hb r
theorem ptd_eq (fx : Fx Xs P w K mg base N k) (ha : PED K Xs a γ (.sh d1)) (hb : PED K Xs b γ (.sh d2)) (h : EqD d1 d2 tv) (hm : behindInMarks .Eq b = false := by exact nomark _) : PTD K Xs (.Compare a [.Eq] [b] pos) γ tv := by
  rcases eq_reads (K := K) h with r | r | r
  · exact ptd_cmp (fun _ => op_eq) hm ha hb r
  · exact ptd_cmp (fun i => by have z := op_eqY (X := Xs i) (fx.hu64 i); rw [fx.hK i] at z; exact z) hm ha hb r
  · exact ptd_cmp (fun i => by have z := op_eqP (X := Xs i) (fx.hu64 i); rw [fx.hK i] at z; exact z) hm ha hb r
theorem ptd_ne (fx : Fx Xs P w K mg base N k) (ha : PED K Xs a γ (.sh d1)) (hb : PED K Xs b γ (.sh d2)) (h : EqD d1 d2 tv) (hm : behindInMarks .NotEq b = false := by exact nomark _) : PTD K Xs (.Compare a [.NotEq] [b] pos) γ (!tv) := by
  rcases ne_reads (K := K) h with r | r | r
  · exact ptd_cmp (fun _ => op_ne) hm ha hb r
  · exact ptd_cmp (fun i => by have z := op_neY (X := Xs i) (fx.hu64 i); rw [fx.hK i] at z; exact z) hm ha hb r
  · exact ptd_cmp (fun i => by have z := op_neP (X := Xs i) (fx.hu64 i); rw [fx.hK i] at z; exact z) hm ha hb r
end
end Wd
set_option Elab.async false
set_option linter.all false
set_option maxRecDepth 100000
set_option maxHeartbeats 1000000
/-! for over the keys of a dict; over the items of a dict with tuple keys. -/
namespace L2
open PySem PySem.Spec PyProof.Rows
section
variable {X : Cx} {pins : List (Addr × Obj)} {σ : St} {H : Hp} {s : Shared} {d : Addr} {o : Obj}
theorem frzTv {kvs : List (List Key × V)} (I : Inv X pins σ H s) (h : H d = some (.frz o (.dT kvs))) :
    (d == sysModules) = false ∧ s.heap.get? d = some o ∧ o.ExactDict ∧ ∃ (es : Array DictEntry) (ep : Nat), o.data = .dict es ep ∧ es.size = kvs.length ∧
      ∀ (i : Nat) (k : List Key) (v : V), kvs[i]? = some (k, v) → ∃ (en : DictEntry) (q : Addr), es[i]? = some en ∧ en.key = .ref q ∧ H q = some (.tup (k.map kV)) ∧ RelV v en.val := by
  obtain ⟨hd, z, hs, xs, pr, o', es, ep, ho, hx, hdt, he, _⟩ := I.hok d _ h
  rw [hd] at ho
  cases ho
  refine ⟨hs, hd, hx, es, ep, hdt, ?_, fun i k v e => ?_⟩
  · have l1 : es.size = xs.length := size_of_entries he
    have l2 : kvs.length = xs.length := Paired.length pr
    omega
  · obtain ⟨b, hb, e1, e2, e3⟩ := paired_get pr e
    have q := entry_at he i
    rw [hb] at q
    exact ⟨_, b.2.1, q, rfl, e2, e3⟩
end
/-- the pairs of the locked dict at d, tuple keys, each pair a new tuple -/
def Itit (d : Addr) (o : Obj) (kvs : List (List Key × V)) : It :=
  ⟨fun i H => H d = some (.frz o (.dT kvs)) ∧ i < kvs.length, fun i H x H' => ∃ T k v q, kvs[i]? = some (k, v) ∧ x = .ref T ∧ H T = none ∧ H' = upd H T (.tup [.ref q, v]) ∧ H q = some (.tup (k.map kV)), fun i H => H d = some (.frz o (.dT kvs)) ∧ kvs.length ≤ i⟩
section
variable {P : Program} {w : World} {K : PySem.W.Frag} {d : Addr} {o : Obj} {es : Array DictEntry} {ep : Nat}
theorem turn_itemsT {kvs : List (List Key × V)} {elts : List Expr} {kk : Nat} {tpos : Pos} (it : Addr) (hod : o.data = .dict es ep) :
    Turn P w K (.Tuple elts kk tpos) (Itit d o kvs) [it] it (fun i h => ∃ ok ov, IsItemIter h it d i kvs.length ep ok ov) where
  mem := by simp
  obj := fun i h st b hb => by
    have e : b = it := by simpa using hb
    subst e
    obtain ⟨ok, ov, e⟩ := st
    exact ⟨_, e, fun v z => nomatch z⟩
  keep := fun i h h' st k => let ⟨ok, ov, e⟩ := st; ⟨ok, ov, k it (by simp) _ e⟩
  item := by
    intro X hP hw hK hc i pins s σ H E I hf st hg
    subst hP hw hK
    obtain ⟨hd, hi⟩ := hg
    obtain ⟨hs, hgd, hx, es', ep', hdt, hsz, ent⟩ := frzTv I hd
    obtain ⟨rfl, rfl⟩ := dict_ep hod hdt
    obtain ⟨⟨k, v⟩, hkv⟩ : ∃ p, kvs[i]? = some p := ⟨kvs[i], List.getElem?_eq_getElem hi⟩
    obtain ⟨en, q, hen, hkey, hq, hval⟩ := ent i k v hkv
    obtain ⟨hlt', hen'⟩ := Array.getElem?_eq_some_iff.mp hen
    obtain ⟨ok, ov, he⟩ := st
    rw [← hsz] at he
    have hlt : it < s.heap.objs.size := Heap.lt_size he
    refine DT.nextI he ⟨o, hgd, hx, hdt⟩ hlt' fun h' ho hT hz hk => ?_
    rw [hen', hkey] at ho hT
    refine ⟨_, rfl, wpAny_letOwnedTupleGo_items (s := { s with heap := h' }) ho fun h'' he' sb => ?_⟩
    have hT2 : h''.get? s.heap.objs.size = some { cls := .type "tuple", data := .seq #[.ref q, en.val] } := (sb.2 _ (Nat.ne_of_gt hlt)).trans hT
    have new : ObjOk X.prog X.w (upd H s.heap.objs.size (.tup [.ref q, v])) h'' s.heap.objs.size (.tup [.ref q, v]) :=
      ⟨by show 2 ≤ sizeLine; decide, [.ref q, en.val], .cons rfl (.cons hval .nil), ⟨_, hT2, rfl, _, rfl⟩⟩
    have I1 : Inv X pins σ (upd H s.heap.objs.size (.tup [.ref q, v])) { s with heap := h'' } :=
      I.turnedNew (t' := s.toks) (ch := [it]) (fun b ob hb e => (sb.2 b (by simpa using hb)).trans (hk b ob (by simpa using hb) e)) hf (Nat.le_refl _) new
    refine ⟨.ref s.heap.objs.size, _, I1, rfl, ⟨_, k, v, q, hkv, rfl, I.hok.fresh (Nat.le_refl _), rfl, hq⟩, ⟨.ref q, en.val, ?_⟩, fun b hb => ?_⟩
    · rw [← hsz]; exact he'
    · have e : b = it := by simpa using hb
      rw [e, upd_ne (Nat.ne_of_lt hlt)]
      exact (hf it (by simp)).1
  done := by
    intro X hP hw hK hc i pins s σ H E I hf st hg
    subst hP hw hK
    obtain ⟨hd, hi⟩ := hg
    obtain ⟨f0, f1, f2, f3, f4, f5⟩ := hf it (by simp)
    obtain ⟨hs, hgd, hx, es', ep', hdt, hsz, ent⟩ := frzTv I hd
    obtain ⟨rfl, rfl⟩ := dict_ep hod hdt
    obtain ⟨ok, ov, he⟩ := st
    rw [← hsz] at he
    exact DT.endI (I.ok.hd hc) he ⟨o, hgd, hx, hdt⟩ (by omega) fun h' eb => ⟨rfl, I.turned (t' := s.toks) (fun b ob hb e => eb b ob hb e) f0 f1 f3 f4 f5⟩
  self := fun A i s Q E st h => let ⟨_, _, e⟩ := st; PySem.W.kcp_self e h
end
def iItemsT (td : TE) : TI := fun σ H R => td σ H fun x H1 => ∃ d o kvs, x = .ref d ∧ H1 d = some (.frz o (.dT kvs)) ∧ R (Itit d o kvs) H1
section
variable {X : Cx} {tg e : Expr} {td : TE} {apos cpos : Pos}
theorem pi_itemsT {elts : List Expr} {kk : Nat} {tpos : Pos} (he : PE X e td) (hbase : attributeBase e "items" X.env (eval e X.env) = eval e X.env := by rfl) (hline : (apos.endLine == cpos.line) = true := by rfl) :
    PI X (.Tuple elts kk tpos) (.Call (.Attribute e "items" apos) [] [] cpos) (iItemsT td) := by
  refine ⟨fun pins s σ H R I h => ?_⟩
  refine wpAny_Call_method (T := "dict") (id := "dict.items") hbase rfl hline F.plainAttrs_dict F.slot_dict_items F.type_dict_items (thn (he.run pins s σ H _ I h) fun u s1 ⟨x, H1, I1, rx, d, o, kvs, ex, hd, q⟩ => ?_)
  subst ex
  obtain rfl : u = Value.ref d := rx
  obtain ⟨hs, hgd, hx, es, ep, hdt, hsz, ent⟩ := frzTv I1 hd
  have raw : DT.Raw s1.heap d es ep := ⟨o, hgd, hx, hdt⟩
  refine ⟨raw.typeIs, fun a e => by cases e; exact ⟨o, hgd, hx.2.1⟩, ?_⟩
  have I2 : Inv X pins σ H1 { s1 with heap := s1.heap.push { cls := .type "dict_items", data := .fields #[.ref d] } } := I1.kept (t' := s1.toks) fun b ob q => Heap.get?_push_of_some _ q
  have fin : wpAny (model X.prog X.w) X.A (pyIter (.ref s1.heap.objs.size)) (PIE X pins σ (.Tuple elts kk tpos) R) X.xe { s1 with heap := s1.heap.push { cls := .type "dict_items", data := .fields #[.ref d] } } := by
    refine DT.iterI (d := d) ⟨_, Heap.get?_push_size _ rfl, rfl, rfl⟩ (raw.push _) (pi_one (tk := s1.toks) I2 _ (turn_itemsT _ hdt) ⟨.none, .none, ?_⟩ q)
    rw [← hsz]
    exact Heap.get?_push_size _ rfl
  show wpAny _ _ (callWith cpos (.builtin "dict.items") [.ref d] [] []) _ X.xe s1
  exact method_meetsIn F.slot_dict_items F.entry_dict_items rfl (PySem.evalArgs_none ⟨rfl, raw.typeIs, F.args_dict_items_1 _, _, DT.meetsItems (es := es) (ep := ep) hs, ⟨raw, fin⟩⟩)
end
end L2
set_option Elab.async false
set_option linter.all false
set_option maxRecDepth 100000
set_option maxHeartbeats 1000000
/-! for k in d; for (a, b), v in d.items(). -/
namespace Wd
open PySem PySem.Spec L2
open PyProof.Rows hiding St
theorem upd_self {H : Hp} {a : Addr} {o : HO} (h : H a = some o) : upd H a o = H := by
  funext b
  by_cases e : b = a
  · subst e; rw [upd_same, h]
  · rw [upd_ne e]
section
variable {K : PySem.W.Frag} {H0 S0 S H S1 H1 : Hp} {σ σ1 : St} {γ γ1 : Gm} {a : Addr} {u : HO} {o : Obj}
theorem OwnAt.upd {l : Addr} {d : D} {z : HO} (h : OwnAt K S H l d) (e : l ≠ a) : OwnAt K S (upd H a z) l d :=
  h.mono (Same.refl _) fun o q => by rw [upd_ne e]; exact q
/-- the dict at a is locked -/
theorem Ok.lockd (k : Ok K H0 S0 S H σ γ) (ha : S a = some u) (hu : IsDc u) : Ok K (upd H0 a (.frz o u)) (upd S0 a u) S (upd H a (.frz o u)) σ γ where
  h0 := fun b v e => by
    by_cases z : b = a
    · subst z; rw [upd_same] at e ⊢; exact e
    · rw [upd_ne z] at e ⊢; exact k.h0 b v e
  s0 := fun b v e => by
    by_cases z : b = a
    · subst z; rw [upd_same] at e; cases e; exact ha
    · rw [upd_ne z] at e; exact k.s0 b v e
  sh := fun b v e => by
    by_cases z : b = a
    · subst z
      rw [ha] at e
      cases e
      exact .inr ⟨o, upd_same, hu⟩
    · rw [upd_ne z]; exact k.sh b v e
  nw := fun b v e n => by
    by_cases z : b = a
    · subst z; rw [upd_same] at n; cases n
    · rw [upd_ne z] at n ⊢; exact k.nw b v e n
  len := k.len
  en := fun i s h => by
    have q := k.en i s h
    cases s with
    | un => trivial
    | tw _ _ => trivial
    | sh d => exact q
    | ow d =>
      obtain ⟨l, e, h1, h2, h3⟩ := q
      have ne : l ≠ a := fun z => by rw [z, ha] at h1; cases h1
      exact ⟨l, e, h1, by rw [upd_ne ne]; exact h2, h3.upd ne⟩
  ds := k.ds
theorem Ok.unlockd {y : HO} (k : Ok K H0 S0 S H σ γ) (ha : S a = some u) (hy : H a = some y) (hu : y = u ∨ ∃ ob, y = .frz ob u ∧ IsDc u) (k1 : Ok K (upd H0 a (.frz o u)) (upd S0 a u) S1 H1 σ1 γ1) : Ok K H0 S0 S1 (upd H1 a y) σ1 γ1 := by
  have s1 : S1 a = some u := k1.s0 a u upd_same
  refine ⟨fun b v e => ?_, fun b v e => ?_, fun b v e => ?_, fun b v e n => ?_, k1.len, fun i s h => ?_, k1.ds⟩
  · by_cases z : b = a
    · subst z; rw [upd_same]; rw [k.h0 _ _ e] at hy; exact hy.symm
    · rw [upd_ne z]; exact k1.h0 b v (by rw [upd_ne z]; exact e)
  · by_cases z : b = a
    · subst z; rw [s1]; rw [k.s0 _ _ e] at ha; exact ha.symm
    · exact k1.s0 b v (by rw [upd_ne z]; exact e)
  · by_cases z : b = a
    · subst z
      rw [s1] at e
      cases e
      rcases hu with rfl | ⟨ob, rfl, hc⟩
      · exact .inl upd_same
      · exact .inr ⟨ob, upd_same, hc⟩
    · rw [upd_ne z]; exact k1.sh b v e
  · by_cases z : b = a
    · subst z; exact k.nw b u ha n
    · have q := k1.nw b v e (by rw [upd_ne z]; exact n)
      rw [upd_ne z] at q
      exact q
  · have q := k1.en i s h
    cases s with
    | un => trivial
    | tw _ _ => trivial
    | sh d => exact q
    | ow d =>
      obtain ⟨l, e, h1, h2, h3⟩ := q
      have ne : l ≠ a := fun z => by rw [z, s1] at h1; cases h1
      rw [upd_ne ne] at h2
      exact ⟨l, e, h1, h2, h3.upd ne⟩
end
section
variable {ι : Type} {Xs : ι → Cx} {P : Program} {w : World} {K : PySem.W.Frag} {mg : Str → Option Value} {base : Heap} {N : List Str} {k : Nat} {γ : Gm} {e a b : Expr} {pos p : Pos} {tg : Expr} {sts : List Stmt} {x : Str}
/-- a walk's turns from a state on -/
theorem for_at {α : Type} {H0 S0 S H : Hp} {σ : St} {D : Ends} (xs : List α) (γs : Nat → Gm) (kk : Ok K H0 S0 S H σ γ) (h0 : Wk γ (γs 0)) (J : It)
    (hJ : ∀ R : It → Hp → Prop, R J H → anyI Xs tg a σ H R) (go : ∀ i H2, Ex H0 H2 → i < xs.length → J.go i H2) (stop : ∀ H2, Ex H0 H2 → J.stop xs.length H2)
    (step : ∀ (i : Nat) (x : α), xs[i]? = some x → ∃ γt γb, (∀ S2 H2 σ2 v H3, Ok K H0 S0 S2 H2 σ2 (γs i) → Ex S S2 → J.yld i H2 v H3 → ∀ Q : St → Hp → Prop, (∀ S4 σ4, Ok K H0 S0 S4 H3 σ4 γt → Ex S2 S4 → Q σ4 H3) → anyG Xs tg v σ2 H3 Q) ∧
      (PSsD K Xs sts γt (.nx γb) ∨ PSsD K Xs sts γt (.ct γb)) ∧ Wk γb (γs (i + 1))) (q : ∀ S1 H1 σ1, Ok K H0 S0 S1 H1 σ1 (γs xs.length) → D.nx σ1 H1) : tFor (anyI Xs tg a) (anyG Xs tg) (anySs Xs sts) D σ H := by
  refine hJ _ ?_
  refine ⟨fun i m σ H => m = xs.length - i ∧ i ≤ xs.length ∧ ∃ S1, Ok K H0 S0 S1 H σ (γs i) ∧ Ex S S1, ⟨_, rfl, Nat.zero_le _, S, kk.wk h0, Same.refl _⟩, ?_⟩
  rintro i m σ H ⟨rfl, hle, S1, k', e1⟩
  by_cases hlt : i < xs.length
  · refine .inr ⟨go i H k'.h0 hlt, fun σ' H' => ∃ S', Ok K H0 S0 S' H' σ' (γs (i + 1)) ∧ Ex S S', fun σ' H' ⟨S', k2, e2⟩ => ⟨xs.length - (i + 1), by omega, rfl, hlt, S', k2, e2⟩, fun x H' y => ?_⟩
    obtain ⟨γt, γb, ht, hb, hw⟩ := step i xs[i] (by simp [hlt])
    refine ht S1 H σ x H' k' e1 y _ fun S4 σ4 k3 e4 => ?_
    rcases hb with hb | hb
    · exact hb H0 S4 S4 H' σ4 _ k3.base fun S5 H5 σ5 k5 => ⟨S5, (k3.over k5).wk hw, Same.trans e1 (Same.trans e4 k5.s0)⟩
    · exact hb H0 S4 S4 H' σ4 _ k3.base fun S5 H5 σ5 k5 => ⟨S5, (k3.over k5).wk hw, Same.trans e1 (Same.trans e4 k5.s0)⟩
  · have e : i = xs.length := by omega
    subst e
    exact .inl ⟨stop H k'.h0, q S1 H σ k'⟩
/-- a for whose dict is locked meanwhile -/
theorem psd_forLock (fx : Fx Xs P w K mg base N k) (j : Nat) {d : D} {Do : V → HO → Prop} (hg : γ[j]? = some (.sh d)) (hd : ∀ S v, Dat K S v d → ∃ ad u, v = .ref ad ∧ S ad = some u ∧ IsDc u ∧ Do v u) {γ' : Gm}
    (hp : ∀ i, PassesOwn (model (Xs i).prog (Xs i).w) (Xs i).A (Xs i).env (Xs i).xe) (hs : ∀ i, ∀ x, foldedSetIterable a (Xs i).env x = pure x)
    (run : ∀ (ad : Addr) (u : HO) (o : Obj) (H0 S0 S H : Hp) (σ : St) (D : Ends), Ok K H0 S0 S H σ γ → Dat K S (.ref ad) d → σ[j]? = some (some (.ref ad)) → S ad = some u → H0 ad = some (.frz o u) → IsDc u → (∀ S1 H1 σ1, Ok K H0 S0 S1 H1 σ1 γ' → D.nx σ1 H1) → tFor (anyI Xs tg a) (anyG Xs tg) (anySs Xs sts) D σ H) :
    PSD K Xs (.For tg a sts [] pos) γ (.nx γ') := by
  have pf : ∀ i, PS (Xs i) (.For tg a sts [] pos) (tFor (anyI Xs tg a) (anyG Xs tg) (anySs Xs sts)) := fun i => ps_for (hp i) (fx.calm i) (pi_any tg a i) (pg_any tg i) (pss_any sts i) (hs i)
  intro H0 S0 S H σ D kk q
  obtain ⟨v, hv, dv⟩ := kk.en j _ hg
  obtain ⟨ad, u, rfl, hu, hc, _⟩ := hd S v dv
  rcases kk.sh ad u hu with h | ⟨ob, h, _⟩
  · refine ⟨_, fun i => ps_lock (pf i), ad, u, h, ?_, fun od => ?_⟩
    · cases u <;> first | trivial | exact (show False from hc).elim
    · refine run ad u od _ _ S _ σ _ (kk.lockd (o := od) hu hc) dv hv hu upd_same hc fun S1 H1 σ1 k1 => ⟨k1.h0 ad _ upd_same, ?_⟩
      exact q S1 _ σ1 (kk.unlockd hu h (.inl rfl) k1)
  · refine ⟨_, pf, ?_⟩
    have k2 := kk.lockd (o := ob) hu hc
    rw [upd_self h] at k2
    refine run ad u ob _ _ S _ σ _ k2 dv hv hu upd_same hc fun S1 H1 σ1 k1 => ?_
    have z := kk.unlockd hu h (.inr ⟨ob, rfl, hc⟩) k1
    rw [upd_self (k1.h0 ad _ upd_same)] at z
    exact q S1 _ σ1 z
/-- for tg in d -/
theorem psd_forK (fx : Fx Xs P w K mg base N k) (j : Nat) {ds : List (Key × D)} {α : Type} (xs : List α) (enc : α → Key) (he : ds.map (·.1) = xs.map enc) (γs : Nat → Gm) (h0 : Wk γ (γs 0))
    (turn : ∀ (i : Nat) (y : α), xs[i]? = some y → ∃ γt is γb, TgD K Xs tg (γs i) (keyD (enc y)) γt is ∧ (PSsD K Xs sts γt (.nx γb) ∨ PSsD K Xs sts γt (.ct γb)) ∧ Wk γb (γs (i + 1)))
    (hg : γ[j]? = some (.sh (.dk ds)) := by rfl) (hN : N[j]? = some x := by rfl) (hv : ∀ j, Vis (Xs j).env.scope x := by first | exact fun _ => Or.inl rfl | exact fun _ => Or.inr (Or.inl rfl) | exact fun _ => Or.inr (Or.inr rfl))
    (hdb : (x == ("__debug__" : Str)) = false := by decide) (hcd : (x == ("__classdict__" : Str)) = false := by decide)
    (hp : ∀ i, PassesOwn (model (Xs i).prog (Xs i).w) (Xs i).A (Xs i).env (Xs i).xe := by first | exact fun _ => PassesOwn.never | exact fun _ => passes_of rfl)
    (hs : ∀ i, ∀ y, foldedSetIterable (.Name x p) (Xs i).env y = pure y := by exact fun _ _ => rfl) : PSD K Xs (.For tg (.Name x p) sts [] pos) γ (.nx (γs xs.length)) := by
  refine psd_forLock fx j (Do := fun _ _ => True) hg (fun S v h => ?_) hp hs fun ad u o H0 S0 S H σ D kk dv hσ hu hf hc q => ?_
  · cases h with | dk a1 k1 t1 => exact ⟨_, _, rfl, a1, trivial, trivial⟩
  · cases dv with
    | @dk _ kvs _ a1 k1 t1 =>
      rw [hu] at a1
      cases a1
      have hl : kvs.length = xs.length := by have z := congrArg List.length (k1.trans he); simpa using z
      refine for_at (a := .Name x p) xs γs kk h0 (Itk ad o kvs) (fun R r => ⟨iKeys (tVar j), fun i => pi_keys (pe_var (by rw [fx.hN]; exact hN) (hv i) hdb hcd), _, hσ, ad, o, rfl, .inl ⟨kvs, kk.h0 _ _ hf, r⟩⟩) (fun i H2 e hi => ⟨e _ _ hf, by omega⟩) (fun H2 e => ⟨e _ _ hf, by omega⟩) (fun i y hy => ?_) q
      obtain ⟨γt, is, γb, ht, hb, hw⟩ := turn i y hy
      refine ⟨γt, γb, fun S2 H2 σ2 v H3 k2 e2 ⟨hy1, kx, vx, hkv, hvx⟩ Q q => ?_, hb, hw⟩
      subst hy1 hvx
      have ek : kx = enc y := by
        have z : (kvs.map (·.1))[i]? = some kx := by rw [List.getElem?_map, hkv]; rfl
        rw [k1, he, List.getElem?_map, hy] at z
        exact (Option.some.inj z).symm
      subst ek
      refine ht _ _ _ _ _ _ k2 ?_ _ fun σ' k3 _ _ => q S2 σ' k3 (Same.refl _)
      cases hk : enc y with
      | inl i => exact .int
      | inr x => exact .str
/-- for (na, nb), nc in d.items() -/
theorem psd_forIT (fx : Fx Xs P w K mg base N k) (j : Nat) {ds : List (List Key × D)} {α : Type} (xs : List α) (e1 e2 : α → Key) (ev : α → D) (he : ds = xs.map fun y => ([e1 y, e2 y], ev y)) (γs : Nat → Gm) (h0 : Wk γ (γs 0)) {na nb nc : Str} {pa pb pc pt pt2 pc2 pa2 : Pos} {z1 z2 : Nat} (ia ib ic : Nat)
    (turn : ∀ (i : Nat) (y : α), xs[i]? = some y → ∃ γb, (PSsD K Xs sts ((((γs i).set ia (.sh (keyD (e1 y)))).set ib (.sh (keyD (e2 y)))).set ic (.sh (ev y))) (.nx γb) ∨ PSsD K Xs sts ((((γs i).set ia (.sh (keyD (e1 y)))).set ib (.sh (keyD (e2 y)))).set ic (.sh (ev y))) (.ct γb)) ∧ Wk γb (γs (i + 1)))
    (hlen : ∀ i, ia < (γs i).length ∧ ib < (γs i).length ∧ ic < (γs i).length)
    (hNa : N[ia]? = some na := by rfl) (hNb : N[ib]? = some nb := by rfl) (hNc : N[ic]? = some nc := by rfl) (hla : ∀ j, Loc (Xs j).env.scope na := by exact fun _ => Or.inl rfl) (hlb : ∀ j, Loc (Xs j).env.scope nb := by exact fun _ => Or.inl rfl) (hlc : ∀ j, Loc (Xs j).env.scope nc := by exact fun _ => Or.inl rfl)
    (hfa : ∀ j, (Xs j).fn na = true ∨ (Xs j).env.scope.names.lookup na = some .local := by first | exact fun _ => Or.inl rfl | exact fun _ => Or.inr rfl) (hfb : ∀ j, (Xs j).fn nb = true ∨ (Xs j).env.scope.names.lookup nb = some .local := by first | exact fun _ => Or.inl rfl | exact fun _ => Or.inr rfl) (hfc : ∀ j, (Xs j).fn nc = true ∨ (Xs j).env.scope.names.lookup nc = some .local := by first | exact fun _ => Or.inl rfl | exact fun _ => Or.inr rfl)
    (hg : γ[j]? = some (.sh (.dt ds)) := by rfl) (hN : N[j]? = some x := by rfl) (hv : ∀ j, Vis (Xs j).env.scope x := by first | exact fun _ => Or.inl rfl | exact fun _ => Or.inr (Or.inl rfl) | exact fun _ => Or.inr (Or.inr rfl))
    (hdb : (x == ("__debug__" : Str)) = false := by decide) (hcd : (x == ("__classdict__" : Str)) = false := by decide)
    (hbase : ∀ i, attributeBase (.Name x p) "items" (Xs i).env (eval (.Name x p) (Xs i).env) = eval (.Name x p) (Xs i).env := by exact fun _ => rfl) (hline : (pa2.endLine == pc2.line) = true := by rfl)
    (hsi : ∀ i, (assignEach [.Name na pa, .Name nb pb] (Xs i).env).length = 2 ∧ (assignEach [.Name na pa, .Name nb pb] (Xs i).env).findIdx? (·.1) = none ∧ (assignEach [.Name na pa, .Name nb pb] (Xs i).env).map (·.2) = assign (.Name na pa) (Xs i).env :: (assignEach [.Name nb pb] (Xs i).env).map (·.2) ∧ (assignEach [.Name nb pb] (Xs i).env).map (·.2) = assign (.Name nb pb) (Xs i).env :: (assignEach [] (Xs i).env).map (·.2) := by exact fun _ => ⟨rfl, rfl, rfl, rfl⟩)
    (hso : ∀ i, (assignEach [.Tuple [.Name na pa, .Name nb pb] z1 pt, .Name nc pc] (Xs i).env).length = 2 ∧ (assignEach [.Tuple [.Name na pa, .Name nb pb] z1 pt, .Name nc pc] (Xs i).env).findIdx? (·.1) = none ∧ (assignEach [.Tuple [.Name na pa, .Name nb pb] z1 pt, .Name nc pc] (Xs i).env).map (·.2) = assign (.Tuple [.Name na pa, .Name nb pb] z1 pt) (Xs i).env :: (assignEach [.Name nc pc] (Xs i).env).map (·.2) ∧ (assignEach [.Name nc pc] (Xs i).env).map (·.2) = assign (.Name nc pc) (Xs i).env :: (assignEach [] (Xs i).env).map (·.2) := by exact fun _ => ⟨rfl, rfl, rfl, rfl⟩)
    (hp : ∀ i, PassesOwn (model (Xs i).prog (Xs i).w) (Xs i).A (Xs i).env (Xs i).xe := by first | exact fun _ => PassesOwn.never | exact fun _ => passes_of rfl)
    (hs : ∀ i, ∀ y, foldedSetIterable (.Call (.Attribute (.Name x p) "items" pa2) [] [] pc2) (Xs i).env y = pure y := by exact fun _ _ => rfl) :
    PSD K Xs (.For (.Tuple [.Tuple [.Name na pa, .Name nb pb] z1 pt, .Name nc pc] z2 pt2) (.Call (.Attribute (.Name x p) "items" pa2) [] [] pc2) sts [] pos) γ (.nx (γs xs.length)) := by
  refine psd_forLock fx j (Do := fun _ _ => True) hg (fun S v h => ?_) hp hs fun ad u o H0 S0 S H σ D kk dv hσ hu hf hc q => ?_
  · cases h with | dt a1 k1 t1 => exact ⟨_, _, rfl, a1, trivial, trivial⟩
  · cases dv with
    | @dt _ kvs _ a1 k1 t1 =>
      rw [hu] at a1
      cases a1
      subst he
      have hl : kvs.length = xs.length := by have z := congrArg List.length k1; simpa using z
      refine for_at xs γs kk h0 (Itit ad o kvs) (fun R r => ⟨iItemsT (tVar j), fun i => pi_itemsT (pe_var (by rw [fx.hN]; exact hN) (hv i) hdb hcd) (hbase i) hline, _, hσ, ad, o, kvs, rfl, kk.h0 _ _ hf, r⟩) (fun i H2 e hi => ⟨e _ _ hf, by omega⟩) (fun H2 e => ⟨e _ _ hf, by omega⟩) (fun i y hy => ?_) q
      obtain ⟨γb, hb, hw⟩ := turn i y hy
      refine ⟨_, γb, fun S2 H2 σ2 v H3 k2 ee ⟨T, kx, vx, qa, hkv, hvT, hT, hH3, hq⟩ Q q => ?_, hb, hw⟩
      subst hvT hH3
      obtain ⟨dd, hdd, dvx⟩ := pd_get k1 t1 hkv
      rw [List.getElem?_map, hy] at hdd
      simp only [Option.map_some, Option.some.injEq, Prod.mk.injEq] at hdd
      obtain ⟨rfl, rfl⟩ := hdd
      have hqT : qa ≠ T := fun z => by rw [z, hT] at hq; cases hq
      have g2 : Gr S2 H2 S2 (upd H2 T (.tup [.ref qa, vx])) := ⟨Same.refl _, Ex.new hT, fun b o h n => (by rw [n] at h; cases h)⟩
      have sT : Sub S2 (upd H2 T (.tup [.ref qa, vx])) := k2.sh.ex (Ex.new hT)
      have k3 := k2.grow g2 sT
      obtain ⟨la, lb, lc⟩ := hlen i
      have datK : ∀ kk : Key, Dat K S2 (kV kk) (keyD kk) := fun kk => by
        cases kk with
        | inl i => exact .int
        | inr x => exact .str
      have k4 := (((k3.sh_ la (datK (e1 y))).sh_ (i := ib) (by simpa using lb) (datK (e2 y))).sh_ (i := ic) (by simpa using lc) (dvx.ex ee))
      refine ⟨gTup K 2 (gCons (gTup K 2 (gCons (gName ia) (gCons (gName ib) gNil))) (gCons (gName ic) gNil)), fun i => ?_, T, _, rfl, .inl (.inl upd_same), rfl, _, _, rfl, ?_⟩
      · have nn : (Xs i).N.Nodup := by rw [fx.hN i]; exact fx.nd
        obtain ⟨s1, s2, s3, s4⟩ := hsi i
        obtain ⟨o1, o2, o3, o4⟩ := hso i
        have pin := pg_tup (k := z1) (pos := pt) (fx.calm i) (pgs_cons (pg_name nn (by rw [fx.hN i]; exact hNa) (hla i) (hfa i)) (pgs_cons (pg_name nn (by rw [fx.hN i]; exact hNb) (hlb i) (hfb i)) pgs_nil s4) s3) s1 s2
        have pout := pg_tup (k := z2) (pos := pt2) (fx.calm i) (pgs_cons pin (pgs_cons (pg_name nn (by rw [fx.hN i]; exact hNc) (hlc i) (hfc i)) pgs_nil o4) o3) o1 o2
        rw [fx.hK i] at pout
        exact pout
      · exact ⟨qa, [kV (e1 y), kV (e2 y)], rfl, .inl (.inl (by rw [upd_ne hqT]; exact hq)), rfl, _, _, rfl, _, _, rfl, rfl, _, _, rfl, rfl, q S2 _ k4 (Same.refl _)⟩
end
end Wd
set_option Elab.async false
set_option linter.all false
set_option maxRecDepth 100000
set_option maxHeartbeats 3200000
/-! len(set(xs)), xs a list of texts. -/
namespace WdSet
open PySem PySem.Spec PyProof.Rows
/-- how many unlike ones among the first i -/
def cnt (xs : List Str) : Nat → Nat
  | 0 => 0
  | i + 1 => if (xs.take i).any (· == xs.getD i Str.empty) then cnt xs i else cnt xs i + 1
theorem cnt_le (xs : List Str) : ∀ i, cnt xs i ≤ i
  | 0 => Nat.le_refl _
  | i + 1 => by
    have := cnt_le xs i
    unfold cnt
    split <;> omega
section
variable {prog : Program} {w : World} {A : Around} {R : Result → Shared → Prop} {I : Addr} {fp wr : List Addr} {G : Array GenState → Array GenState → Prop} {n : Nat} {P : Nat → Value → Prop} {Z : Nat → Shared → Prop}
theorem grow (W : WalksS prog w A.in1 I fp wr G n P Z) (S : Addr) (hSf : S ∉ fp) (xs : List Str) (hsz : xs.length = n) (hn1 : n + 1 < scanBound)
    (hval : ∀ i v, P i v → ∃ t, v = .str (xs.getD i Str.empty) t) (k : Nat) : ∀ (i : Nat) (s : Shared), n - i = k → i ≤ n → Z i s →
      s.heap.SetOf (PySem.strKind prog w) S (fun y => (xs.take i).any (· == y)) (cnt xs i) →
      (∀ s', Moved (S :: wr) G s s' → s'.heap.SetOf (PySem.strKind prog w) S (fun y => (xs.take n).any (· == y)) (cnt xs n) → R (.ok (.ret .none)) s') →
      codeAny (model prog w) A (.builtin "set.update.loop" ⟨[.ref S, .ref I], []⟩) R s := by
  have off : S ∉ wr := fun h => hSf (W.sub _ h)
  have more : ∀ b ∈ wr, b ∈ S :: wr := fun b hb => List.mem_cons_of_mem _ hb
  have move : ∀ {s s' : Shared} {T : Str → Bool} {m : Nat}, Moved wr G s s' → s.heap.SetOf (PySem.strKind prog w) S T m → s'.heap.SetOf (PySem.strKind prog w) S T m := fun hm hS => by
    obtain ⟨o, es, ep, t, ho, rest⟩ := hS
    exact ⟨o, es, ep, t, hm.heap S _ off ho, rest⟩
  induction k with
  | zero =>
    intro i s hk hi hst hS hR
    obtain rfl : i = n := by omega
    refine codeAny_builtin PyProof.Rows.F.entry_set_update_loop ?_
    rw [Around.under_plainId PyProof.Rows.F.plain_set_update_loop _]
    show wpAny _ A.in1 (pyNext (.ref I) >>= fun _ => _) _ _ s
    exact wpAny_bind (W.done s _ _ hst fun s' hm => wpAny_pure (hR s' (hm.mono more) (move hm hS)))
  | succ k ih =>
    intro i s hk hi hst hS hR
    have hlt : i < n := by omega
    refine codeAny_builtin PyProof.Rows.F.entry_set_update_loop ?_
    rw [Around.under_plainId PyProof.Rows.F.plain_set_update_loop _]
    show wpAny _ A.in1 (pyNext (.ref I) >>= fun _ => _) _ _ s
    refine wpAny_bind (W.item i s _ _ hlt hst fun v s' hP hst' hm => ?_)
    obtain ⟨t, rfl⟩ := hval i v hP
    show wpAny _ A.in1 (holding _ (setAdd S _) >>= fun _ => _) _ _ s'
    refine wpAny_bind (wpAny_holding ?_)
    unfold setAdd
    have small := cnt_le xs i
    refine wpAny_holding (wpAny_bind ((PySem.strKind prog w).pyHash (k := xs.getD i Str.empty) (strKind_is _ _ _ _) ?_))
    refine wpAny_setAddHashed_of (knd := PySem.strKind prog w) (s := { s' with toks := s'.toks + 1 }) (strKind_is _ _ _ _) rfl (show s'.heap.SetOf _ S _ _ from move hm hS) (by omega) fun h' hsb hS2 => ?_
    have next : h'.SetOf (PySem.strKind prog w) S (fun y => (xs.take (i + 1)).any (· == y)) (cnt xs (i + 1)) := by
      refine SetOf_congr hS2 (fun y => ?_) (by conv => rhs; unfold cnt)
      have e : xs.take (i + 1) = xs.take i ++ [xs.getD i Str.empty] := by
        rw [List.take_add_one, List.getD_eq_getElem?_getD, List.getElem?_eq_getElem (by omega)]
        rfl
      rw [e, List.any_append]
      congr 1
      rw [List.any_cons, List.any_nil, Bool.or_false]
      by_cases z : y = xs.getD i Str.empty
      · rw [decide_eq_true z, ← z, beq_self_eq_true]
      · rw [decide_eq_false z]
        exact (beq_eq_false_iff_ne.mpr fun q => z q.symm).symm
    refine wpAny_pure ⟨plainId_quiet PyProof.Rows.F.plain_set_update_loop _, ih (i + 1) _ (by omega) hlt (W.frame _ s' _ _ hst' (Nat.le_succ _) fun b hb o e => ?_) next fun s2 hm2 hS3 => ?_⟩
    · rw [hsb.2 b fun z : b = S => hSf (by rw [← z]; exact hb)]; exact e
    · exact hR s2 (Moved.trans W.gtrans ((hm.mono more).then_heap (Nat.le_succ _) fun b o hb e => (hsb.2 b fun z : b = S => hb (by rw [z]; exact List.mem_cons_self)).trans e) hm2) hS3
end
section
variable {prog : Program} {w : World} {A : Around} {E : Value → Shared → Prop} {s : Shared}
theorem call_set_strs {l : Addr} {items : Array Value} {xs : List Str} {Q : Value → Shared → Prop}
    (hh : A.handled = none) (hl : s.heap.IsList l items) (hi : PyProof.Rows.StrsAre items.toList xs) (hn1 : xs.length ≤ 4000)
    (h : ∀ (h' : Heap) (tk : Nat), h'.SetOf (PySem.strKind prog w) s.heap.objs.size (fun y => (xs.take items.size).any (· == y)) (cnt xs items.size) →
      (∀ b o, b < s.heap.objs.size → s.heap.get? b = some o → h'.get? b = some o) → Q (.ref s.heap.objs.size) { s with heap := h', toks := tk }) :
    wpAny (model prog w) A (call (.type "set") [.ref l]) Q E s := by
  have up := PySem.F.called_set
  obtain ⟨c, tl, hmro⟩ := up.mro
  have g1 := up.made
  have g2 := up.sub
  have g3 := up.notType
  have g4 := up.canCreate
  have g5 := PySem.F.typeCall_set_1 (.ref l)
  refine wpAny_call (codeAny_of_tree ?_)
  show wpAny _ _ (callAny (.type "set") _) _ _ _
  refine wpAny_pure ⟨Code.quiet_builtin _ (by decide +kernel), codeAny_builtin PySem.F.entry_type_call ?_⟩
  rw [Around.under_plain (weight_type_call_type "set" [.ref l] []) rfl]
  repeat (any_goals (first | assumption | wp_step))
  refine codeAny_mono (code_set_new_1 (.ref l) (E := E) (Q₁ := fun v s1 => ∃ led : Bool, v = .ref s.heap.objs.size ∧ s1 = { s with heap := s.heap.push { cls := .type "set", dict := none, data := .set #[] 0 (.fresh 0 0 led) } }) fun led => ⟨led, rfl, rfl⟩) fun r s1 hr => ?_
  rcases r with e | fl
  · exact hr
  cases fl with
  | ret v =>
    obtain ⟨led, rfl, rfl⟩ := hr
    have gS : (s.heap.push { cls := .type "set", dict := none, data := .set #[] 0 (.fresh 0 0 led) }).get? s.heap.objs.size = some { cls := .type "set", dict := none, data := .set #[] 0 (.fresh 0 0 led) } := Heap.get?_push_size _ rfl
    have gT : Shared.TypeIs { s with heap := s.heap.push { cls := .type "set", dict := none, data := .set #[] 0 (.fresh 0 0 led) } } (.ref s.heap.objs.size) "set" := ⟨_, gS, rfl⟩
    have g6 := up.init.lookup
    have g7 := up.init.bind (.ref s.heap.objs.size)
    repeat (any_goals (first | assumption | wp_step))
    refine codeAny_mono (codeAny_call_builtin (R := wants (fun r s2 => r = .none ∧ ∃ h' tk, s2 = { s with heap := h', toks := tk } ∧
        h'.SetOf (PySem.strKind prog w) s.heap.objs.size (fun y => (xs.take items.size).any (· == y)) (cnt xs items.size) ∧
        (∀ b o, b < s.heap.objs.size → s.heap.get? b = some o → h'.get? b = some o)) E) up.init.plain PySem.F.entry_set_init (check_set_init_1 gT ?_)) fun r2 s2 hr2 => ?_
    · obtain ⟨⟨oc, od, oz, osl⟩, hol, hcl, nl, hdl⟩ := hl
      simp only at hcl hdl
      subst hcl hdl
      have hol' : (s.heap.push { cls := .type "set", dict := none, data := .set #[] 0 (.fresh 0 0 led) }).get? l = some { cls := .type "list", dict := od, data := .seq items nl, slots := osl } := Heap.get?_push_of_some _ hol
      have hl1 : (s.heap.push { cls := .type "set", dict := none, data := .set #[] 0 (.fresh 0 0 led) }).IsList l items := ⟨_, hol', rfl, nl, rfl⟩
      have g8 := PySem.F.sub_list_set
      have g9 := PySem.F.sub_list_frozenset
      have g10 : (Value.type "list" == Value.type "dict") = false := by decide
      unfold Builtin.«set.__init__» noKeywords Builtin.Frozenset.updateFrom
      generalize hPI : pyIter = PI
      wp_walk
      subst hPI
      refine wpAny_pyIter_list hl1 (wpAny_bind (wpAny_runValue ?_))
      have low : l < s.heap.objs.size := Heap.lt_size hol
      have one : ∀ o : Obj, (s.heap.push o).objs.size = s.heap.objs.size + 1 := fun o => Heap.size_push ..
      have calm : A.in1.in1.in1.handled = none := by simp [hh]
      have all : xs.length = items.size := by rw [← StrsAre.len_eq hi, Array.length_toList]
      refine grow ((Walks.list calm _ l (by rw [one]; exact Nat.ne_of_lt (Nat.lt_succ_of_lt low)) items).toS) s.heap.objs.size (by rw [one]; simp only [List.mem_cons, List.not_mem_nil, or_false, not_or]; exact ⟨Nat.ne_of_lt (Nat.lt_succ_self _), Nat.ne_of_gt low⟩) xs all (by unfold scanBound; omega)
        (fun i v hv => SS.strs_at hi i v (by rw [Array.getElem?_toList]; exact hv)) (items.size - 0) 0 _ (by omega) (Nat.zero_le _) ⟨⟨_, Heap.get?_push_size _ rfl, rfl, rfl⟩, hl1.push _⟩ ?start ?fin
      case start => exact PyProof.Rows.SetOf_congr ((PyProof.Rows.setObjOf_fresh (knd := PySem.strKind prog w) led).setOf (Heap.get?_push_of_some _ gS) (by unfold scanBound; omega)) (fun _ => rfl) rfl
      case fin =>
        intro s' hm hS'
        obtain ⟨h', g', d', tk', os'⟩ := s'
        obtain rfl : g' = s.gens := hm.gens
        obtain rfl : d' = s.drawn := hm.drawn
        obtain rfl : os' = s.os := hm.os
        refine wpAny_pure ?_
        show wpAny _ _ (ret Value.none) _ _ _
        refine wpAny_pure ⟨rfl, h', tk', rfl, hS', fun b o hb e => hm.heap b o ?_ (Heap.get?_push_of_some _ (Heap.get?_push_of_some _ e))⟩
        rw [one]
        simp only [List.mem_cons, List.not_mem_nil, or_false, not_or]
        exact ⟨Nat.ne_of_lt hb, Nat.ne_of_lt (Nat.lt_succ_of_lt hb)⟩
    · rcases r2 with e | fl2
      · exact hr2
      cases fl2 with
      | ret r =>
        obtain ⟨rfl, h', tk, rfl, hS', hk'⟩ := hr2
        repeat (any_goals (first | assumption | wp_step))
        exact h _ _ hS' hk'
      | _ => exact hr2.elim
  | _ => exact hr.elim
end
end WdSet
set_option Elab.async false
set_option linter.all false
set_option maxRecDepth 100000
set_option maxHeartbeats 1000000
/-! len(set(texts)), .index, .append and .clear of what has just been made. -/
namespace Wd
open PySem PySem.Spec L2
open PyProof.Rows hiding St
def unlikes (xs : List Str) : Nat := WdSet.cnt xs xs.length
theorem cnt_lt {xs : List Str} : ∀ {i : Nat}, i ≤ xs.length → WdSet.cnt xs i = i → (xs.take i).Nodup
  | 0, _, _ => by simp
  | i + 1, hi, h => by
    unfold WdSet.cnt at h
    have z := WdSet.cnt_le xs i
    have hlt : i < xs.length := hi
    have e : xs.take (i + 1) = xs.take i ++ [xs[i]] := by
      rw [List.take_add_one, List.getElem?_eq_getElem hlt]
      rfl
    have g : xs.getD i Str.empty = xs[i] := by
      rw [List.getD_eq_getElem?_getD, List.getElem?_eq_getElem hlt]
      rfl
    split at h
    · omega
    · rename_i c
      rw [g] at c
      rw [e, List.nodup_append]
      refine ⟨cnt_lt (Nat.le_of_lt hlt) (by omega), by simp, fun a ha b hb => ?_⟩
      obtain rfl := List.mem_singleton.mp hb
      rintro rfl
      exact c (List.any_eq_true.mpr ⟨_, ha, beq_self_eq_true _⟩)
theorem cnt_eq {xs : List Str} (h : xs.Nodup) : ∀ {i : Nat}, i ≤ xs.length → WdSet.cnt xs i = i
  | 0, _ => rfl
  | i + 1, hi => by
    have hlt : i < xs.length := hi
    unfold WdSet.cnt
    have g : xs.getD i Str.empty = xs[i] := by
      rw [List.getD_eq_getElem?_getD, List.getElem?_eq_getElem hlt]
      rfl
    rw [g, cnt_eq h (Nat.le_of_lt hlt), if_neg]
    intro c
    obtain ⟨a, ha, hb⟩ := List.any_eq_true.mp c
    have e := eq_of_beq hb
    subst e
    obtain ⟨j, hj, hx⟩ := List.getElem_of_mem ha
    rw [List.length_take] at hj
    rw [List.getElem_take] at hx
    exact absurd hx (List.pairwise_iff_getElem.mp h j i (by omega) hlt (by omega))
theorem unlikes_iff (xs : List Str) : unlikes xs = xs.length ↔ xs.Nodup :=
  ⟨fun h => by have z := cnt_lt (Nat.le_refl _) h; rw [List.take_length] at z; exact z, fun h => cnt_eq h (Nat.le_refl _)⟩
end Wd
namespace L2
open PySem PySem.Spec PyProof.Rows
def tLenSetS (K : PySem.W.Frag) (ta : TE) : TE := fun σ H Q => ta σ H fun x H1 => ∃ (l : Addr) (xs : List Str), x = .ref l ∧ SqL K H1 l (xs.map V.str) ∧ xs.length ≤ 4000 ∧ Q (.int (Wd.unlikes xs : Nat)) H1
theorem pe_lenSetS {X : Cx} {a : Expr} {ta : TE} {p p2 q pos : Pos} (hc : X.calm = true) (hg : Gl X "len") (hm : X.mg "len" = none) (hg2 : Gl X "set") (hm2 : X.mg "set" = none) (ha : PE X a ta)
    (na : starEach [a] X.env = (false, eval a X.env) :: starEach [] X.env) : PE X (.Call (.Name "len" p) [.Call (.Name "set" p2) [a] [] q] [] pos) (tLenSetS X.K ta) := by
  refine ⟨fun pins s σ H Q I h => Call_ (ld_blt I hg hm PySem.boot_len (PyProof.Rows.callWith_builtin1 (PyProof.Rows.args_cons ?_ rfl) rfl rfl))⟩
  refine Call_ (ld_blt I hg2 hm2 PyProof.Rows.boot_set (PyProof.Rows.callWith_type1 (PyProof.Rows.args_cons (thn (ha.run pins s σ H _ I h) fun v s1 ⟨x, H1, I1, r1, l, xs, ex, hq, hn, q1⟩ => PyProof.Rows.args_nil ?_) na) na rfl))
  subst ex
  cases r1
  obtain ⟨its, r, pl, hz⟩ := I1.list hq
  have hlen : its.toArray.size = xs.length := by rw [List.size_toArray, ← r.length, List.length_map]
  refine WdSet.call_set_strs (I1.ok.hd hc) pl.isList (by simpa using strsAre_of r) hn fun h' tk hS hk => PyProof.Rows.args_nil ?_
  rw [hlen] at hS
  obtain ⟨o, es, ep, t, ho, hex, hd, _, _, _, hf, hn'⟩ := hS
  have I2 : Inv X pins σ H1 { s1 with heap := h', toks := tk } := I1.kept fun b o e => hk b o (Heap.lt_size e) e
  have small := WdSet.cnt_le xs xs.length
  exact call_len_set ho hex hd hf (by rw [hn'] <;> omega) ⟨.int (Wd.unlikes xs : Nat), H1, I2.tok _, ⟨_, by rw [hn'] <;> rfl⟩, q1⟩
end L2
namespace Wd
open PySem PySem.Spec L2
open PyProof.Rows hiding St
section
variable {ι : Type} {Xs : ι → Cx} {P : Program} {w : World} {K : PySem.W.Frag} {mg : Str → Option Value} {base : Heap} {N : List Str} {k : Nat} {γ : Gm} {d d1 d2 : D} {ds : List D} {rs : Slot} {e a b o : Expr} {es : List Expr} {pos pos' apos : Pos} {x : Str}
/-- len(set(a)) -/
theorem pd_lenSet (fx : Fx Xs P w K mg base N k) {p p2 q : Pos} {xs : List Str} (ha : PED K Xs a γ (.sh d)) (hd : IsL d (xs.map .str)) (hm : mg "len" = none) (hm2 : mg "set" = none) (hn : xs.length ≤ 4000) (hg : ∀ i, Gl (Xs i) "len" := by exact fun _ => rfl) (hg2 : ∀ i, Gl (Xs i) "set" := by exact fun _ => rfl)
    (na : ∀ i, starEach [a] (Xs i).env = (false, eval a (Xs i).env) :: starEach [] (Xs i).env := by exact fun _ => rfl) : PED K Xs (.Call (.Name "len" p) [.Call (.Name "set" p2) [a] [] q] [] pos) γ (.sh (.int (unlikes xs : Nat))) := by
  refine .of (t := tLenSetS K (anyE Xs a)) (fun i => ?_) fun H0 S0 S H σ k Q q => ha H0 S0 S H σ k _ fun v S' H' g s r => ?_
  · have z := pe_lenSetS (p := p) (p2 := p2) (q := q) (pos := pos) (fx.calm i) (hg i) (by rw [fx.hmg i]; exact hm) (hg2 i) (by rw [fx.hmg i]; exact hm2) (pe_any a i) (na i)
    rw [fx.hK i] at z
    exact z
  · obtain ⟨l, vs, rfl, hq, t⟩ := isL_of hd r s
    obtain rfl := t.strs
    exact ⟨l, xs, rfl, hq, hn, q _ S' H' g s .int⟩
/-- the first place of x in xs -/
def firstAt {α : Type} (xs : List α) (x : α) (j : Nat) : Prop := xs[j]? = some x ∧ ∀ m, m < j → xs[m]? ≠ some x
/-- o.index(e), texts in a list -/
theorem pd_index (fx : Fx Xs P w K mg base N k) {xs : List Str} {z : Str} {j : Nat} (ho : PED K Xs o γ (.sh d)) (hd : IsL d (xs.map .str)) (he : PED K Xs e γ (.sh (.str z))) (hj : firstAt xs z j)
    (hbase : ∀ i, attributeBase o "index" (Xs i).env (eval o (Xs i).env) = eval o (Xs i).env := by exact fun _ => rfl)
    (hfew : ∀ j, ((backTo pos (starEach [e] (Xs j).env)).all (fun x => !x.1) && (backToKw pos (keywordEach [] (Xs j).env)).all (fun x => x.1.isSome) && decide (([e] : List Expr).length + ([] : List Keyword).length + (if ([] : List Keyword).isEmpty then 0 else 1) < 30)) = true := by exact fun _ => rfl)
    (hline : (apos.endLine == pos.line) = true := by rfl) (hs : ∀ j, starEach [e] (Xs j).env = (false, eval e (Xs j).env) :: starEach [] (Xs j).env := by exact fun _ => rfl) (hplain : ∀ j, (backTo pos (starEach [] (Xs j).env)).any (·.1) = false := by exact fun _ => rfl) :
    PED K Xs (.Call (.Attribute o "index" apos) [e] [] pos) γ (.sh (.int (j : Nat))) := by
  refine .of (t := tBM K "list" (rIndex K) (anyE Xs o) (tCons (anyE Xs e) tNil)) (fun i => ?_) fun H0 S0 S H σ k Q q => ho H0 S0 S H σ k _ fun v S1 H1 g1 s1 r1 => ?_
  · have z := pe_bm (X := Xs i) (r := rIndex (Xs i).K) PySem.F.plainAttrs_list PySem.F.slot_list_index PySem.F.type_list_index mt_index (pe_any o i) (pa_cons (pe_any e i) pa_nil (hs i)) (hbase i) (hfew i) hline (hs i) (hplain i)
    rw [fx.hK i] at z
    exact z
  · obtain ⟨l, vs, rfl, hq, t⟩ := isL_of hd r1 s1
    obtain rfl := t.strs
    refine ⟨.inl ⟨rfl, _, hq⟩, he H0 S0 S1 H1 σ (k.grow g1 s1) _ fun u S2 H2 g2 s2 r2 => ?_⟩
    cases r2
    obtain ⟨l2, vs2, e2, hq2, t2⟩ := isL_of hd (Dat.ex g2.ss r1) s2
    cases e2
    obtain rfl := t2.strs
    refine ⟨l, _, .str z, j, .str z, rfl, rfl, hq2, rfl, flat_strs xs, by rw [List.getElem?_map, hj.1]; rfl, beq_self_eq_true z, fun m y hm hy => ?_, q _ S2 H2 (g1.trans g2) s2 .int⟩
    rw [List.getElem?_map] at hy
    cases hx : xs[m]? with
    | none => rw [hx] at hy; cases hy
    | some z' =>
      rw [hx] at hy
      cases hy
      exact beq_eq_false_iff_ne.mpr fun q => hj.2 m hm (by rw [hx, q])
def rIxT (K : PySem.W.Frag) : V → List V → Hp → VK → Prop := fun x xs H Q => ∃ p, ∃ ys : List Str, ∃ z j, x = .ref p ∧ xs = [.str z] ∧ SqT K H p (ys.map V.str) ∧ ys[j]? = some z ∧ (∀ m, m < j → ys[m]? ≠ some z) ∧ Q (.int (j : Nat)) H
/-- G.index(e), G a written tuple of texts -/
theorem pd_indexG (fx : Fx Xs P w K mg base N k) {p : Pos} {pa : Addr} {ob : Obj} {its : Array Value} {n : Nat} {xs : List Str} {z : Str} {j : Nat} (hm : mg x = some (.ref pa)) (hk : K.lookup pa = some ob ∧ ob.cls = .type "tuple" ∧ ob.dict = none ∧ ob.data = .seq its n ∧ its.size ≤ sizeLine) (hv : Vals (xs.map V.str) its.toList) (he : PED K Xs e γ (.sh (.str z))) (hj : firstAt xs z j)
    (hg : ∀ i, Gl (Xs i) x := by exact fun _ => rfl) (hd : (x == ("__debug__" : Str)) = false := by decide)
    (hbase : ∀ i, attributeBase (.Name x p) "index" (Xs i).env (eval (.Name x p) (Xs i).env) = eval (.Name x p) (Xs i).env := by exact fun _ => rfl)
    (hfew : ∀ j, ((backTo pos (starEach [e] (Xs j).env)).all (fun x => !x.1) && (backToKw pos (keywordEach [] (Xs j).env)).all (fun x => x.1.isSome) && decide (([e] : List Expr).length + ([] : List Keyword).length + (if ([] : List Keyword).isEmpty then 0 else 1) < 30)) = true := by exact fun _ => rfl)
    (hline : (apos.endLine == pos.line) = true := by rfl) (hs : ∀ j, starEach [e] (Xs j).env = (false, eval e (Xs j).env) :: starEach [] (Xs j).env := by exact fun _ => rfl) (hplain : ∀ j, (backTo pos (starEach [] (Xs j).env)).any (·.1) = false := by exact fun _ => rfl) :
    PED K Xs (.Call (.Attribute (.Name x p) "index" apos) [e] [] pos) γ (.sh (.int (j : Nat))) := by
  refine .of (t := tBM K "tuple" (rIxT K) (tC (.ref pa)) (tCons (anyE Xs e) tNil)) (fun i => ?_) fun H0 S0 S H σ k Q q => ⟨.inr (.inl ⟨rfl, ob, hk.1, hk.2.1, hk.2.2.1⟩), he H0 S0 S H σ k _ fun u S2 H2 g2 s2 r2 => ?_⟩
  · have z := pe_bm (X := Xs i) (r := rIxT (Xs i).K) PySem.F.plainAttrs_tuple PySem.F.slot_tuple_index PySem.F.type_tuple_index mt_tup_index (pe_glob (v := .ref pa) (hg i) (by rw [fx.hmg i]; exact hm) rfl hd) (pa_cons (pe_any e i) pa_nil (hs i)) (hbase i) (hfew i) hline (hs i) (hplain i)
    rw [fx.hK i] at z
    exact z
  · cases r2
    exact ⟨pa, xs, z, j, rfl, rfl, .inr ⟨ob, its, n, hk.1, hk.2.1, hk.2.2.2.1, hk.2.2.2.2, hv⟩, hj.1, hj.2, q _ S2 H2 g2 s2 .int⟩
/-- o.append(e), o just made, then forgotten -/
theorem psd_appendNew (fx : Fx Xs P w K mg base N k) (ho : PED K Xs o γ (.ow (.lst ds))) (he : PED K Xs e γ (.sh d)) (hl : ds.length < sizeLine)
    (hbase : ∀ i, attributeBase o "append" (Xs i).env (eval o (Xs i).env) = eval o (Xs i).env := by exact fun _ => rfl)
    (hfew : ∀ j, ((backTo pos (starEach [e] (Xs j).env)).all (fun x => !x.1) && (backToKw pos (keywordEach [] (Xs j).env)).all (fun x => x.1.isSome) && decide (([e] : List Expr).length + ([] : List Keyword).length + (if ([] : List Keyword).isEmpty then 0 else 1) < 30)) = true := by exact fun _ => rfl)
    (hline : (apos.endLine == pos.line) = true := by rfl) (hs : ∀ j, starEach [e] (Xs j).env = (false, eval e (Xs j).env) :: starEach [] (Xs j).env := by exact fun _ => rfl) (hplain : ∀ j, (backTo pos (starEach [] (Xs j).env)).any (·.1) = false := by exact fun _ => rfl)
    (hsw : ∀ j, swapsWith (.Call (.Attribute o "append" apos) [e] [] pos) none pos'.line (Xs j).env = pure false := by exact fun _ => rfl) : PSD K Xs (.Expr (.Call (.Attribute o "append" apos) [e] [] pos) pos') γ (.nx γ) := by
  refine .of (t := tDrop (tBM K "list" rAppend (anyE Xs o) (tCons (anyE Xs e) tNil))) (fun j => ps_expr ?_ (hsw j)) fun H0 S0 S H σ D kk q => ho H0 S0 S H σ kk _ fun v S1 H1 g1 s1 ⟨l, hv, h1, h2, xs, hx, t⟩ => ?_
  · have z := pe_bm (X := Xs j) (r := rAppend) PySem.F.plainAttrs_list PySem.F.slot_list_append PySem.F.type_list_append mt_append (pe_any o j) (pa_cons (pe_any e j) pa_nil (hs j)) (hbase j) (hfew j) hline (hs j) (hplain j)
    rw [fx.hK j] at z
    exact z
  · subst hv
    refine ⟨.inl ⟨rfl, xs, SqL.of hx⟩, he H0 S0 S1 H1 σ (kk.grow g1 s1) _ fun y S2 H2 g2 s2 r2 => ⟨l, xs, y, rfl, rfl, g2.hh _ _ hx, by rw [t.length]; exact hl, ?_⟩⟩
    have n2 : S2 l = none := g2.out h1 hx
    have g := g1.trans g2
    have k2 := kk.grow ⟨g.ss, fun b u z => (by rw [upd_ne (ne_of_none z h2)]; exact g.hh b u z), g.nw⟩ (s2.mut (o := .lst (xs ++ [y])) n2)
    exact q S2 _ σ k2
/-- o.clear(), o a list just made, then forgotten -/
theorem psd_clearNew (fx : Fx Xs P w K mg base N k) (ho : PED K Xs o γ (.ow (.lst ds)))
    (hbase : ∀ i, attributeBase o "clear" (Xs i).env (eval o (Xs i).env) = eval o (Xs i).env := by exact fun _ => rfl) (hline : (apos.endLine == pos.line) = true := by rfl)
    (hsw : ∀ j, swapsWith (.Call (.Attribute o "clear" apos) [] [] pos) none pos'.line (Xs j).env = pure false := by exact fun _ => rfl) : PSD K Xs (.Expr (.Call (.Attribute o "clear" apos) [] [] pos) pos') γ (.nx γ) := by
  refine .of (t := tDrop (tBM0 K "list" rClear (anyE Xs o))) (fun j => ps_expr ?_ (hsw j)) fun H0 S0 S H σ D kk q => ho H0 S0 S H σ kk _ fun v S1 H1 g1 s1 ⟨l, hv, h1, h2, xs, hx, t⟩ => ?_
  · have z := pe_bm0 (X := Xs j) (r := rClear) PySem.F.plainAttrs_list PySem.F.slot_list_clear PySem.F.type_list_clear mt_clear (pe_any o j) (hbase j) hline
    rw [fx.hK j] at z
    exact z
  · subst hv
    refine ⟨.inl ⟨rfl, xs, SqL.of hx⟩, l, xs, rfl, rfl, hx, ?_⟩
    have k2 := kk.grow ⟨g1.ss, fun b u z => (by rw [upd_ne (ne_of_none z h2)]; exact g1.hh b u z), g1.nw⟩ (s1.mut (o := .lst []) h1)
    exact q S1 _ σ k2
end
end Wd
set_option Elab.async false
set_option linter.all false
set_option maxRecDepth 100000
set_option maxHeartbeats 1000000
/-! a <= b <= c. -/
namespace Wd
open PySem PySem.Spec L2
open PyProof.Rows hiding St
section
variable {ι : Type} {Xs : ι → Cx} {P : Program} {w : World} {K : PySem.W.Frag} {mg : Str → Option Value} {base : Heap} {N : List Str} {k : Nat} {γ : Gm} {d1 d2 d3 : D} {e a b c : Expr} {pos : Pos} {tv tw : Bool}
theorem evd_chain {ta tb tc : TE} {r r' : R2} (ha : EvD K ta γ (.sh d1)) (hb : EvD K tb γ (.sh d2)) (hc : EvD K tc γ (.sh d3)) (h1 : RD K r d1 d2 (.sh (.bl tv))) (h2 : tv = true → RD K r' d2 d3 (.sh (.bl tw))) : EvD K (tChain r r' ta tb tc) γ (.sh (.bl (tv && tw))) := fun H0 S0 S H σ k Q q =>
  ha H0 S0 S H σ k _ fun x S1 H1 g1 s1 r1 => hb H0 S0 S1 H1 σ (k.grow g1 s1) _ fun y S2 H2 g2 s2 r2 => h1 S2 H2 x y s2 (Dat.ex g2.ss r1) r2 _ fun u S3 H3 g3 s3 r3 => by
    cases r3
    have g := (g1.trans g2).trans g3
    cases tv with
    | true => refine ⟨true, rfl, ?_⟩; rw [if_pos rfl]; exact hc H0 S0 S3 H3 σ (k.grow g s3) _ fun z S4 H4 g4 s4 r4 => h2 rfl S4 H4 y z s4 (Dat.ex (g3.trans g4).ss r2) r4 _ fun u S5 H5 g5 s5 r5 => q u S5 H5 ((g.trans g4).trans g5) s5 r5
    | false => exact ⟨false, rfl, q _ S3 H3 g s3 .bl⟩
theorem pd_chain {op op' : CmpOp} {r r' : R2} (ho : ∀ i, OpR (Xs i) (compareOp op) r) (ho' : ∀ i, OpR (Xs i) (compareOp op') r') (ha : PED K Xs a γ (.sh d1)) (hb : PED K Xs b γ (.sh d2)) (hc : PED K Xs c γ (.sh d3)) (h1 : RD K r d1 d2 (.sh (.bl tv))) (h2 : tv = true → RD K r' d2 d3 (.sh (.bl tw)))
    (hm : lastMarks [op, op'] [b, c] = false := by with_unfolding_all rfl) : PED K Xs (.Compare a [op, op'] [b, c] pos) γ (.sh (.bl (tv && tw))) :=
  .of (fun i => pe_chain (ho i) (ho' i) (pe_any a i) (pe_any b i) (pe_any c i) hm) (evd_chain ha hb hc h1 h2)
theorem ptd_chain {op op' : CmpOp} {r r' : R2} (ho : ∀ i, OpR (Xs i) (compareOp op) r) (ho' : ∀ i, OpR (Xs i) (compareOp op') r') (ha : PED K Xs a γ (.sh d1)) (hb : PED K Xs b γ (.sh d2)) (hc : PED K Xs c γ (.sh d3)) (h1 : RD K r d1 d2 (.sh (.bl tv))) (h2 : tv = true → RD K r' d2 d3 (.sh (.bl tw)))
    (hm : lastMarks [op, op'] [b, c] = false := by with_unfolding_all rfl) : PTD K Xs (.Compare a [op, op'] [b, c] pos) γ (tv && tw) :=
  .of (fun i => pt_chain (ho i) (ho' i) (pe_any a i) (pe_any b i) (pe_any c i) hm) (evt_test (evd_chain ha hb hc h1 h2))
/-- i <= j <= l -/
theorem pd_within {i j l : Int} (ha : PED K Xs a γ (.sh (.int i))) (hb : PED K Xs b γ (.sh (.int j))) (hc : PED K Xs c γ (.sh (.int l))) (hm : lastMarks [.LtE, .LtE] [b, c] = false := by with_unfolding_all rfl) : PED K Xs (.Compare a [.LtE, .LtE] [b, c] pos) γ (.sh (.bl (decide (i ≤ j) && decide (j ≤ l)))) :=
  pd_chain (fun _ => op_le) (fun _ => op_le) ha hb hc rd_le (fun _ => rd_le) hm
theorem ptd_within {i j l : Int} (ha : PED K Xs a γ (.sh (.int i))) (hb : PED K Xs b γ (.sh (.int j))) (hc : PED K Xs c γ (.sh (.int l))) (hm : lastMarks [.LtE, .LtE] [b, c] = false := by with_unfolding_all rfl) : PTD K Xs (.Compare a [.LtE, .LtE] [b, c] pos) γ (decide (i ≤ j) && decide (j ≤ l)) :=
  ptd_chain (fun _ => op_le) (fun _ => op_le) ha hb hc rd_le (fun _ => rd_le) hm
end
end Wd
set_option Elab.async false
set_option linter.all false
set_option maxRecDepth 100000
set_option maxHeartbeats 1000000
/-! comprehensions without a test; all and sum of one. -/
namespace Wd
open PySem PySem.Spec L2
open PyProof.Rows hiding St
theorem Wk.n : Wk [] [] := Wk.refl _
theorem Wk.s {t : Slot} {γ γ' : Gm} (h : Wk γ γ') : Wk (t :: γ) (t :: γ') := ⟨by rw [List.length_cons, List.length_cons, h.1], fun i u e => by
  cases i with
  | zero => exact .inr e
  | succ i => exact h.2 i u e⟩
theorem Wk.u {t : Slot} {γ γ' : Gm} (h : Wk γ γ') : Wk (t :: γ) (.un :: γ') := ⟨by rw [List.length_cons, List.length_cons, h.1], fun i u e => by
  cases i with
  | zero => exact .inl (Option.some.inj e).symm
  | succ i => exact h.2 i u e⟩
section
variable {ι : Type} {Xs : ι → Cx} {P : Program} {w : World} {K : PySem.W.Frag} {mg : Str → Option Value} {base : Heap} {N : List Str} {k : Nat} {γ : Gm} {d : D} {e a b c : Expr} {pos p : Pos} {tg elt : Expr} {scope : Scope}
theorem pd_cast {r r' : Slot} (h : r = r') (p : PED K Xs e γ r) : PED K Xs e γ r' := h ▸ p
theorem ptd_cast {tv tw : Bool} (h : tv = tw) (p : PTD K Xs e γ tv) : PTD K Xs e γ tw := h ▸ p
/-- -e -/
theorem pd_neg {i : Int} (h : PED K Xs e γ (.sh (.int i))) : PED K Xs (.UnaryOp .USub e pos) γ (.sh (.int (-i))) :=
  pd_un (fun _ => un_neg) h fun S H x s h1 Q q => by cases h1; exact ⟨_, rfl, here s .int q⟩
/-- e * f -/
theorem pd_mul {i j : Int} (ha : PED K Xs a γ (.sh (.int i))) (hb : PED K Xs b γ (.sh (.int j))) (h : CMul i j) : PED K Xs (.BinOp a .Mult b pos) γ (.sh (.int (i * j))) := pd_op (fun _ => op_mul) ha hb (rd_mul h)
theorem pd_plus {i j : Int} (ha : PED K Xs a γ (.sh (.int i))) (hb : PED K Xs b γ (.sh (.int j))) : PED K Xs (.BinOp a .Add b pos) γ (.sh (.int (i + j))) := pd_op (fun _ => op_add) ha hb fun S H x y s h1 h2 Q q => by cases h1; cases h2; exact ⟨_, _, rfl, rfl, here s .int q⟩
theorem pd_minus {i j : Int} (ha : PED K Xs a γ (.sh (.int i))) (hb : PED K Xs b γ (.sh (.int j))) : PED K Xs (.BinOp a .Sub b pos) γ (.sh (.int (i - j))) := pd_op (fun _ => op_sub) ha hb rd_sub
theorem Fx.bk (fx : Fx Xs P w K mg base N k) {scope : Scope} : Fx (blkF Xs scope) P w K mg base N k := fx.blk scope
/-- [elt for tg in a] -/
theorem pd_lcA (fx : Fx Xs P w K mg base N k) (own : List (Str × Nat)) {α : Type} (xs : List α) (enc : α → D) (v : α → D) (hi : PID K Xs tg a γ (xs.map enc)) (hl : xs.length < sizeLine)
    (turn : ∀ x ∈ xs, ∃ γt is, TgD K (blkF Xs scope) tg (wipeG γ (own.map (·.2))) (enc x) γt is ∧ (∀ j ∈ is, j ∈ own.map (·.2)) ∧ PED K (blkF Xs scope) elt γt (.sh (v x)))
    (ok : ∀ i, BlkOk N (Xs i).env.scope scope own := by exact fun _ => blkOk_by rfl) (hvs : ∀ v ∈ own.map (·.2), v < γ.length := by exact allLt rfl) (hs : ∀ i, ∀ x, foldedSetIterable a (Xs i).env x = pure x := by exact fun _ _ => rfl) :
    PED K Xs (.ListComp elt [⟨tg, a, [], 0⟩] scope pos) γ (.ow (.lst (xs.map v))) := by
  have z := pd_lc (pos := pos) (ifs := []) fx own xs enc (fun _ => true) v hi hl (fun x hx => by
    obtain ⟨γt, is, h1, h2, h3⟩ := turn x hx
    exact ⟨γt, is, h1, h2, ptsd_nil, fun _ => h3⟩) ok hvs hs
  rw [List.filter_eq_self.mpr fun _ _ => rfl] at z
  exact z
/-- all([elt for tg in a]) -/
theorem pd_allC (fx : Fx Xs P w K mg base N k) {q : Pos} (own : List (Str × Nat)) {α : Type} (xs : List α) (enc : α → D) (g : α → Bool) (hm : mg "all" = none) (hi : PID K Xs tg a γ (xs.map enc)) (hl : xs.length < sizeLine)
    (turn : ∀ x ∈ xs, ∃ γt is, TgD K (blkF Xs scope) tg (wipeG γ (own.map (·.2))) (enc x) γt is ∧ (∀ j ∈ is, j ∈ own.map (·.2)) ∧ PED K (blkF Xs scope) elt γt (.sh (.bl (g x))))
    (ok : ∀ i, BlkOk N (Xs i).env.scope scope own := by exact fun _ => blkOk_by rfl) (hvs : ∀ v ∈ own.map (·.2), v < γ.length := by exact allLt rfl) (hs : ∀ i, ∀ x, foldedSetIterable a (Xs i).env x = pure x := by exact fun _ _ => rfl)
    (hg : ∀ i, Gl (Xs i) "all" := by exact fun _ => rfl) (he : ∀ i, starEach [.ListComp elt [⟨tg, a, [], 0⟩] scope q] (Xs i).env = (false, eval (.ListComp elt [⟨tg, a, [], 0⟩] scope q) (Xs i).env) :: starEach [] (Xs i).env := by exact fun _ => rfl) (hpl : ∀ i, (backTo pos (starEach [] (Xs i).env)).any (·.1) = false := by exact fun _ => rfl) :
    PED K Xs (.Call (.Name "all" p) [.ListComp elt [⟨tg, a, [], 0⟩] scope q] [] pos) γ (.sh (.bl (xs.all g))) := by
  have z := rc_all (K := K) (d := .lst (xs.map fun x => D.bl (g x))) (bs := xs.map g) (by rw [List.map_map]; exact .lst)
  rw [List.all_map] at z
  exact pd_blt fx (r := rAll K) (fun i => by have z := cr_all (X := Xs i) (fx.calm i); rw [fx.hK i] at z; exact z) hm (pad_cons (PED.share (pd_lcA fx own xs enc (fun x => D.bl (g x)) hi hl turn ok hvs hs)) pad_nil he) z (hg := hg) (he := he) (hpl := hpl)
/-- sum([elt for tg in a]) -/
theorem pd_sumC (fx : Fx Xs P w K mg base N k) {q : Pos} (own : List (Str × Nat)) {α : Type} (xs : List α) (enc : α → D) (g : α → Int) (hm : mg "sum" = none) (hi : PID K Xs tg a γ (xs.map enc)) (hl : xs.length < sizeLine)
    (turn : ∀ x ∈ xs, ∃ γt is, TgD K (blkF Xs scope) tg (wipeG γ (own.map (·.2))) (enc x) γt is ∧ (∀ j ∈ is, j ∈ own.map (·.2)) ∧ PED K (blkF Xs scope) elt γt (.sh (.int (g x))))
    (ok : ∀ i, BlkOk N (Xs i).env.scope scope own := by exact fun _ => blkOk_by rfl) (hvs : ∀ v ∈ own.map (·.2), v < γ.length := by exact allLt rfl) (hs : ∀ i, ∀ x, foldedSetIterable a (Xs i).env x = pure x := by exact fun _ _ => rfl)
    (hg : ∀ i, Gl (Xs i) "sum" := by exact fun _ => rfl) (he : ∀ i, starEach [.ListComp elt [⟨tg, a, [], 0⟩] scope q] (Xs i).env = (false, eval (.ListComp elt [⟨tg, a, [], 0⟩] scope q) (Xs i).env) :: starEach [] (Xs i).env := by exact fun _ => rfl) (hpl : ∀ i, (backTo pos (starEach [] (Xs i).env)).any (·.1) = false := by exact fun _ => rfl) :
    PED K Xs (.Call (.Name "sum" p) [.ListComp elt [⟨tg, a, [], 0⟩] scope q] [] pos) γ (.sh (.int (xs.map g).sum)) := by
  have z := rc_sum (K := K) (d := .lst (xs.map fun x => D.int (g x))) (ns := xs.map g) (by rw [List.map_map]; exact .lst)
  exact pd_blt fx (r := rSum K) (fun i => by have z := cr_sum (X := Xs i) (fx.calm i); rw [fx.hK i] at z; exact z) hm (pad_cons (PED.share (pd_lcA fx own xs enc (fun x => D.int (g x)) hi hl turn ok hvs hs)) pad_nil he) z (hg := hg) (he := he) (hpl := hpl)
/-- f() of a condition: if c: raise ..; the rest, where c is false -/
theorem pssd_ifF {sts rest : List Stmt} {o : Out} (hc : PTD K Xs c γ false) (h2 : PSsD K Xs rest γ o) : PSsD K Xs (.If c sts [] pos :: rest) γ o := pssd_cons (psd_ifF hc pssd_nil) h2
theorem pssd_ifT {sts sts2 rest : List Stmt} {o : Out} (hc : PTD K Xs c γ true) (h : PSsD K Xs sts γ o) (ho : ∀ γ', o ≠ .nx γ') : PSsD K Xs (.If c sts sts2 pos :: rest) γ o := pssd_end (psd_ifT hc h) ho
end
end Wd
set_option Elab.async false
set_option linter.all false
set_option maxRecDepth 100000
set_option maxHeartbeats 1000000
/-! a new tuple of a new dict and a datum. -/
namespace Wd
open PySem PySem.Spec L2
open PyProof.Rows hiding St
section
variable {K : PySem.W.Frag} {ta tb te : TE} {γ : Gm} {d : D} {ks : List (List Key × D)}
theorem evd_tw (ha : EvD K ta γ (.ow (.dt ks))) (hb : EvD K tb γ (.sh d)) : EvD K (tTup (tCons ta (tCons tb tNil))) γ (.tw ks d) := fun H0 S0 S H σ k Q q =>
  ha H0 S0 S H σ k _ fun v S1 H1 g1 s1 ⟨p, e1, n1, n2, kvs, hp, hk, t⟩ => hb H0 S0 S1 H1 σ (k.grow g1 s1) _ fun y S2 H2 g2 s2 r2 => by
    subst e1
    refine ⟨by show 2 ≤ sizeLine; decide, fun l hl => ?_⟩
    have hp2 : H2 p = some (.dT kvs) := g2.hh _ _ hp
    have np : S2 p = none := g2.out n1 hp
    have nl : S2 l = none := s2.out hl
    have ne : l ≠ p := fun z => by rw [z, hp2] at hl; cases hl
    refine q _ S2 _ ((g1.trans g2).trans ⟨Same.refl _, Ex.new hl, fun b o h n => (by rw [n] at h; cases h)⟩) (s2.ex (Ex.new hl)) ⟨l, p, kvs, y, rfl, ne, ⟨nl, Ex.back (g1.trans g2).hh hl⟩, ⟨np, n2⟩, upd_same, ?_, hk, t.ex g2.ss, r2⟩
    rw [upd_ne (fun z => ne z.symm)]
    exact hp2
/-- what is new may be shared -/
theorem TwAt.share {S S' H H' : Hp} {v : V} (h : TwAt K S' H' v ks d fun a => S' a = none ∧ H a = none) (g : Gr S H S' H') (s : Sub S' H') : ∃ S2, Gr S H S2 H' ∧ Sub S2 H' ∧ Dat K S2 v (.tup [.dt ks, d]) := by
  obtain ⟨l, p, kvs, y, rfl, ne, ⟨l1, l2⟩, ⟨p1, p2⟩, hl, hp, hk, t, r⟩ := h
  have e1 : Ex S' (upd S' p (.dT kvs)) := Ex.new p1
  have l3 : (upd S' p (.dT kvs)) l = none := by rw [upd_ne ne]; exact l1
  have e2 : Ex (upd S' p (.dT kvs)) (upd (upd S' p (.dT kvs)) l (.tup [.ref p, y])) := Ex.new l3
  refine ⟨upd (upd S' p (.dT kvs)) l (.tup [.ref p, y]), ⟨Same.trans g.ss (Same.trans e1 e2), g.hh, fun b o hb hn => ?_⟩, (s.add hp).add hl, .tup upd_same (.cons (.dt (e2 _ _ upd_same) hk (t.ex (Same.trans e1 e2))) (.cons (r.ex (Same.trans e1 e2)) .nil))⟩
  by_cases z : b = l
  · subst z; exact l2
  · rw [upd_ne z] at hb
    by_cases z2 : b = p
    · subst z2; exact p2
    · rw [upd_ne z2] at hb; exact g.nw b o hb hn
theorem EvD.shareT (h : EvD K te γ (.tw ks d)) : EvD K te γ (.sh (.tup [.dt ks, d])) := fun H0 S0 S H σ k Q q => h H0 S0 S H σ k Q fun v S' H' g s r => by
  obtain ⟨S2, g2, s2, x⟩ := TwAt.share r g s
  exact q v S2 H' g2 s2 x
end
section
variable {ι : Type} {Xs : ι → Cx} {P : Program} {w : World} {K : PySem.W.Frag} {mg : Str → Option Value} {base : Heap} {N : List Str} {k : Nat} {γ : Gm} {d : D} {ks : List (List Key × D)} {e a b : Expr} {pos : Pos} {x : Str}
/-- (a, b), a a new dict -/
theorem pd_tupTw {z} (ha : PED K Xs a γ (.ow (.dt ks))) (hb : PED K Xs b γ (.sh d)) (h1 : ∀ i, starEach [a, b] (Xs i).env = (false, eval a (Xs i).env) :: starEach [b] (Xs i).env := by exact fun _ => rfl) (h2 : ∀ i, starEach [b] (Xs i).env = (false, eval b (Xs i).env) :: starEach [] (Xs i).env := by exact fun _ => rfl) : PED K Xs (.Tuple [a, b] z pos) γ (.tw ks d) :=
  .of (fun i => pe_tup (pa_cons (pe_any a i) (pa_cons (pe_any b i) pa_nil (h2 i)) (h1 i))) (evd_tw ha hb)
theorem PED.shareT (h : PED K Xs e γ (.tw ks d)) : PED K Xs e γ (.sh (.tup [.dt ks, d])) := EvD.shareT h
end
end Wd
set_option Elab.async false
set_option linter.all false
set_option maxRecDepth 100000
set_option maxHeartbeats 1000000
/-! written dicts of the module: d[k], list(d); clear() of a dict in a new tuple. -/
namespace L2
open PySem PySem.Spec PyProof.Rows
/-- the written dict at a has these keys, in this order -/
def WKeys (K : PySem.W.Frag) (a : Addr) (ks : List Str) : Prop := ∃ es n, K.lookup a = some ⟨.type "dict", none, .dict es n, #[]⟩ ∧ (a == sysModules) = false ∧ Vals (ks.map V.str) (es.toList.map (·.key))
def rListW (K : PySem.W.Frag) : List V → Hp → VK → Prop := fun xs H Q => ∃ (a : Addr) (ks : List Str), xs = [.ref a] ∧ WKeys K a ks ∧ ks.length ≤ 1000 ∧ ∀ p, H p = none → Q (.ref p) (upd H p (.lst (ks.map V.str)))
theorem call_listW {X : Cx} (hcalm : X.calm = true) : CallR X (.type "list") (rListW X.K) := by
  intro pins s σ H xs us Q I r q
  obtain ⟨a, ks, ex, ⟨es, n, lk, lo, vk⟩, hn, q⟩ := q
  subst ex
  obtain ⟨u, eu, rx⟩ := vals1 r
  subst eu
  cases rx
  have hlen : es.size = ks.length := by
    have z := vk.length
    simp only [List.length_map, Array.length_toList] at z
    exact z.symm
  have raw : s.heap.DictRaw a es n := ⟨_, I.kIn a _ lk, ⟨rfl, rfl, rfl⟩, rfl⟩
  refine PySem.W.kdl_call (KdlSrc.rawDict (es := es) (ep := n) lo) (I.ok.hd hcalm) raw (by rw [sizeLine_eq]; omega) fun h' tk acc c' hk hD hacc => ?_
  have hv : Vals (ks.map V.str) acc.toList := by
    have e : acc.toList = es.toList.map (·.key) := by
      apply List.ext_getElem
      · rw [List.length_map, Array.length_toList, Array.length_toList]; exact hacc.1
      · intro j h1 h2
        rw [Array.length_toList] at h1
        obtain ⟨hi, e⟩ := hacc.2 j acc[j] (by rw [Array.getElem?_eq_getElem h1])
        simp only [List.getElem_map, Array.getElem_toList]
        exact e
    rw [e]
    exact vk
  exact ⟨.ref s.heap.objs.size, upd H s.heap.objs.size (.lst (ks.map V.str)), I.laid (t' := tk) hk (Nat.le_refl _)
    (show ObjOk X.prog X.w _ _ _ (.lst (ks.map V.str)) from ⟨by rw [List.length_map, sizeLine_eq]; omega, acc.toList, c', hv, by rw [Array.toArray_toList]; exact hD⟩), rfl, q _ (I.hok.fresh (Nat.le_refl _))⟩
end L2
namespace Wd
open PySem PySem.Spec L2
open PyProof.Rows hiding St
section
variable {ι : Type} {Xs : ι → Cx} {P : Program} {w : World} {K : PySem.W.Frag} {mg : Str → Option Value} {base : Heap} {N : List Str} {k : Nat} {γ : Gm} {d : D} {e a b : Expr} {pos p : Pos} {x : Str}
/-- D[e], D a written dict -/
theorem pd_subW (fx : Fx Xs P w K mg base N k) {pa : Addr} {z : Str} {v : V} (hm : mg x = some (.ref pa)) (he : PED K Xs e γ (.sh (.str z))) (kd : KDct K w pa z v) (hd : ∀ S, Dat K S v d) (hg : ∀ i, Gl (Xs i) x := by exact fun _ => rfl) (hdb : (x == ("__debug__" : Str)) = false := by decide) (hs : PlainIx e := by exact fun _ _ => rfl) :
    PED K Xs (.Subscript (.Name x p) e pos) γ (.sh d) := by
  refine .of (t := tOp (rIxD K w) (tC (.ref pa)) (anyE Xs e)) (fun i => ?_) fun H0 S0 S H σ k Q q => he H0 S0 S H σ k _ fun u S1 H1 g1 s1 r1 => ?_
  · have y := pe_ix (pos := pos) (ix_kdict (X := Xs i)) (pe_glob (pos := p) (v := .ref pa) (hg i) (by rw [fx.hmg i]; exact hm) rfl hdb) (pe_any e i) hs
    rw [fx.hK i, fx.hw i] at y
    exact y
  · cases r1
    exact ⟨pa, z, v, rfl, rfl, kd, q v S1 H1 g1 s1 (hd S1)⟩
/-- list(D) -/
theorem pd_listW (fx : Fx Xs P w K mg base N k) {q : Pos} {pa : Addr} {ks : List Str} (hl : mg "list" = none) (hm : mg x = some (.ref pa)) (hk : WKeys K pa ks) (hn : ks.length ≤ 1000) (hg : ∀ i, Gl (Xs i) x := by exact fun _ => rfl) (hdb : (x == ("__debug__" : Str)) = false := by decide) (hg2 : ∀ i, Gl (Xs i) "list" := by exact fun _ => rfl)
    (he : ∀ i, starEach [.Name x p] (Xs i).env = (false, eval (.Name x p) (Xs i).env) :: starEach [] (Xs i).env := by exact fun _ => rfl) (hpl : ∀ i, (backTo pos (starEach [] (Xs i).env)).any (·.1) = false := by exact fun _ => rfl) : PED K Xs (.Call (.Name "list" q) [.Name x p] [] pos) γ (.ow (.lst (ks.map .str))) := by
  refine .of (t := tCB (rListW K) (tCons (tC (.ref pa)) tNil)) (fun i => ?_) fun H0 S0 S H σ k Q q => ⟨pa, ks, rfl, hk, hn, fun l hl => ?_⟩
  · have y := pe_callTy (pos := pos) (p := q) (call_listW (X := Xs i) (fx.calm i)) (hg2 i) (by rw [fx.hmg i]; exact hl) (by decide +kernel) (pa_cons (pe_glob (pos := p) (v := .ref pa) (hg i) (by rw [fx.hmg i]; exact hm) rfl hdb) pa_nil (he i)) (by decide) (by decide) (he i) (hpl i)
    rw [fx.hK i] at y
    exact y
  · exact new_lst k.sh hl (by
      have : ∀ ns : List Str, Dats K S (ns.map V.str) (ns.map D.str) := fun ns => by
        induction ns with
        | nil => exact .nil
        | cons _ _ ih => exact .cons .str ih
      exact this ks) q
end
end Wd
namespace Wd
open PySem PySem.Spec L2
open PyProof.Rows hiding St
theorem putG_new {κ α : Type} [DecidableEq κ] : ∀ (l : List (κ × α)) (k : κ) (v : α), k ∉ l.map (·.1) → putG l k v = l ++ [(k, v)]
  | [], _, _, _ => rfl
  | p :: r, k, v, h => by
    rw [List.map_cons, List.mem_cons, not_or] at h
    unfold putG
    rw [if_neg (fun z => h.1 z.symm), putG_new r k v h.2]
    rfl
section
variable {ι : Type} {Xs : ι → Cx} {P : Program} {w : World} {K : PySem.W.Frag} {mg : Str → Option Value} {base : Heap} {N : List Str} {k : Nat} {γ : Gm} {d : D} {ks : List (List Key × D)} {e a b : Expr} {pos p pt : Pos} {x : Str}
/-- return (x, e), x an own dict -/
theorem psd_retTw (fx : Fx Xs P w K mg base N k) (i : Nat) {z : Nat} (he : PED K Xs e γ (.sh d)) (hg : γ[i]? = some (.ow (.dt ks)) := by rfl) (hN : N[i]? = some x := by rfl) (hv : ∀ j, Vis (Xs j).env.scope x := by first | exact fun _ => Or.inl rfl | exact fun _ => Or.inr (Or.inl rfl) | exact fun _ => Or.inr (Or.inr rfl))
    (hd : (x == ("__debug__" : Str)) = false := by decide) (hcd : (x == ("__classdict__" : Str)) = false := by decide)
    (h1 : ∀ i, starEach [.Name x p, e] (Xs i).env = (false, eval (.Name x p) (Xs i).env) :: starEach [e] (Xs i).env := by exact fun _ => rfl) (h2 : ∀ i, starEach [e] (Xs i).env = (false, eval e (Xs i).env) :: starEach [] (Xs i).env := by exact fun _ => rfl) : PSD K Xs (.Return (some (.Tuple [.Name x p, e] z pt)) pos) γ (.rt (.tw ks d)) := by
  refine .of (t := tRet (tTup (tCons (tVar i) (tCons (anyE Xs e) tNil)))) (fun j => ps_ret (pe_tup (pa_cons (pe_self i fx hN hv hd hcd j) (pa_cons (pe_any e j) pa_nil (h2 j)) (h1 j)))) fun H0 S0 S H σ D k q => ?_
  obtain ⟨p, hp, n1, n2, kvs, hx, hk, t⟩ := k.en i _ hg
  refine ⟨_, hp, he H0 S0 S H σ k _ fun y S2 H2 g2 s2 r2 => ⟨by show 2 ≤ sizeLine; decide, fun l hl => ?_⟩⟩
  have k2 := k.grow g2 s2
  have hp2 : H2 p = some (.dT kvs) := g2.hh _ _ hx
  have ne : l ≠ p := fun z => by rw [z, hp2] at hl; cases hl
  refine q _ S2 _ (Same.trans k2.h0 (Ex.new hl)) k2.s0 (s2.ex (Ex.new hl)) k2.nw ⟨l, p, kvs, y, rfl, ne, ⟨s2.out hl, Ex.back k2.h0 hl⟩, ⟨g2.out n1 hx, n2⟩, upd_same, ?_, hk, t.ex g2.ss, r2⟩
  rw [upd_ne (fun z => ne z.symm)]
  exact hp2
/-- return x, x an own object -/
theorem psd_retOw (fx : Fx Xs P w K mg base N k) (i : Nat) (hg : γ[i]? = some (.ow d) := by rfl) (hN : N[i]? = some x := by rfl) (hv : ∀ j, Vis (Xs j).env.scope x := by first | exact fun _ => Or.inl rfl | exact fun _ => Or.inr (Or.inl rfl) | exact fun _ => Or.inr (Or.inr rfl))
    (hd : (x == ("__debug__" : Str)) = false := by decide) (hcd : (x == ("__classdict__" : Str)) = false := by decide) : PSD K Xs (.Return (some (.Name x p)) pos) γ (.rt (.ow d)) := by
  refine .of (t := tRet (tVar i)) (fun j => ps_ret (pe_self i fx hN hv hd hcd j)) fun H0 S0 S H σ D k q => ?_
  obtain ⟨l, hl, h1, h2, h3⟩ := k.en i _ hg
  exact ⟨_, hl, q _ S H k.h0 k.s0 k.sh k.nw ⟨l, rfl, h1, h2, h3⟩⟩
end
end Wd
set_option Elab.async false
set_option linter.all false
set_option maxRecDepth 100000
set_option maxHeartbeats 1000000
/-! a, b = e, f with plain names. -/
namespace Wd
open PySem PySem.Spec L2
open PyProof.Rows hiding St
section
variable {ι : Type} {Xs : ι → Cx} {P : Program} {w : World} {K : PySem.W.Frag} {mg : Str → Option Value} {base : Heap} {N : List Str} {k : Nat} {γ : Gm} {d1 d2 : D} {e a b : Expr} {pos px py pt pt2 : Pos} {x y : Str}
theorem psd_par (fx : Fx Xs P w K mg base N k) (i j : Nat) {kt k2 : Nat} (ha : PAD K Xs [a, b] γ [d1, d2]) (hij : i ≠ j := by decide) (hN : N[i]? = some x := by rfl) (hM : N[j]? = some y := by rfl) (hi : i < γ.length := by exact Nat.le_of_ble_eq_true rfl) (hj : j < γ.length := by exact Nat.le_of_ble_eq_true rfl)
    (hx : ∀ q, (Xs q).env.scope.names.lookup x = some .local := by exact fun _ => rfl) (hy : ∀ q, (Xs q).env.scope.names.lookup y = some .local := by exact fun _ => rfl)
    (hw : ∀ q, swappedStores [.Tuple [.Name x px, .Name y py] kt pt] (.Tuple [a, b] k2 pt2) (Xs q).env = pure (some [x, y]) := by exact fun _ => rfl)
    (hs : ∀ q, swapsWithSole [.Tuple [.Name x px, .Name y py] kt pt] (.Tuple [a, b] k2 pt2) pos.line (Xs q).env = pure false := by exact fun _ => rfl) :
    PSD K Xs (.Assign [.Tuple [.Name x px, .Name y py] kt pt] (.Tuple [a, b] k2 pt2) pos) γ (.nx ((γ.set i (.sh d1)).set j (.sh d2))) :=
  .of (fun q => ps_par (i := i) (j := j) (fx.calm q) (by rw [fx.hN q]; exact fx.nd) (by rw [fx.hN q]; exact hN) (by rw [fx.hN q]; exact hM) hij (hx q) (hy q) (pa_any [a, b] q) (hw q) (hs q)) fun H0 S0 S H σ D k q => ha H0 S0 S H σ k _ fun vs S1 H1 g1 s1 r1 => by
    cases r1 with
    | cons r1 r2 =>
      cases r2 with
      | cons r2 r3 =>
        cases r3
        exact ⟨_, _, rfl, q S1 H1 _ (((k.grow g1 s1).sh_ hi r1).sh_ (i := j) (by rw [List.length_set]; exact hj) r2)⟩
end
end Wd
set_option Elab.async false
set_option linter.all false
set_option maxRecDepth 100000
set_option maxHeartbeats 1000000
/-! d.update(e) of two dicts; d.clear() of a dict with tuples' keys. -/
namespace L2
open PySem PySem.Spec PyProof.Rows
def mrgK (kvs more : List (Key × V)) : List (Key × V) := more.foldl (fun a p => putK a p.1 p.2) kvs
theorem KV.mrg : ∀ {more : List (Key × V)} {ms : List (Key × Value)}, KV more ms → ∀ {kvs : List (Key × V)} {vs : List (Key × Value)}, KV kvs vs → KV (mrgK kvs more) (merged vs ms) := by
  intro more ms r2
  unfold KV at r2
  induction r2 with
  | nil => exact fun r => r
  | @cons p q ps qs h t ih =>
    intro kvs vs r
    obtain ⟨h1, h2⟩ := h
    have z := ih (r.put p.1 h2)
    rw [show merged vs (q :: qs) = merged (stored vs q.1 q.2) qs from rfl, ← h1]
    exact z
theorem mrgK_len : ∀ (more kvs : List (Key × V)), (mrgK kvs more).length ≤ kvs.length + more.length
  | [], kvs => Nat.le_refl _
  | p :: r, kvs => by
    have z := mrgK_len r (putK kvs p.1 p.2)
    have z2 := length_putK kvs p.1 p.2
    rw [List.length_cons]
    show (mrgK (putK kvs p.1 p.2) r).length ≤ _
    omega
def rDUpd : V → List V → Hp → VK → Prop := fun x vs H Q => ∃ (a b : Addr) (kvs more : List (Key × V)), x = .ref a ∧ vs = [.ref b] ∧ a ≠ b ∧ H a = some (.dK kvs) ∧ H b = some (.dK more) ∧ kvs.length + more.length ≤ sizeLine ∧ Q .non (upd H a (.dK (mrgK kvs more)))
theorem mtd_upd {X : Cx} : MtR X "dict.update" rDUpd := by
  intro pins s σ H x vs v us Q I rx rv h
  obtain ⟨a, b, kvs, more, rfl, rfl, hab, ea, eb, hl, q⟩ := h
  obtain rfl : v = Value.ref a := rx
  obtain ⟨u, rfl, ru⟩ := vals1 rv
  obtain rfl : u = Value.ref b := ru
  obtain ⟨z1, hd1, vs1, rel1, dd1⟩ := dk_of I.hok ea
  obtain ⟨z2, hd2, vs2, rel2, dd2⟩ := dk_of I.hok eb
  refine call_meetsIn PySem.F.slot_dict_update dd1.typeIs PySem.F.entry_dict_update (PySem.F.args_dict_update_2 _ _) (meets_dict_update (mixKind X.prog X.w) a b hab hd2) ⟨vs1, vs2, dd1, dd2, by rw [← rel1.length, ← rel2.length]; exact hl, fun h' dd' _ hs => ?_⟩
  have he : ∃ q, h'.get? a = some q := let ⟨q, _, _, hq, _⟩ := dd'; ⟨q, hq⟩
  exact ⟨.non, _, d_write (t' := s.toks) I (by rw [ea]; exact True.intro) hs he (dk_new (Nat.le_trans (mrgK_len _ _) hl) hd1 (KV.mrg rel2 rel1) dd'), rfl, q⟩
def rDClrT : V → List V → Hp → VK → Prop := fun x vs H Q => ∃ (a : Addr) (kvs : List (List Key × V)), x = .ref a ∧ vs = [] ∧ H a = some (.dT kvs) ∧ Q .non (upd H a (.dT []))
theorem mtd_clrT {X : Cx} : MtR X "dict.clear" rDClrT := by
  intro pins s σ H x vs v us Q I rx rv h
  obtain ⟨a, kvs, rfl, rfl, ea, q⟩ := h
  obtain rfl : v = Value.ref a := rx
  have hus := rv.zero
  subst hus
  obtain ⟨z, hd, xs, rel, o, es, ep, ho, hx, hdat, he, hi, hn⟩ := dt_of I.hok ea
  have hes : es.size ≤ sizeLine := by rw [size_of_entries he, ← Paired.length rel]; exact z
  refine call_meetsIn PySem.F.slot_dict_clear ⟨o, ho, hx.1⟩ PySem.F.entry_dict_clear (PySem.F.args_dict_clear_1 _) (meets_dict_clear_raw a) ⟨es, ep, ⟨o, ho, hx, hdat⟩, hes, fun h' dr hs => ?_⟩
  obtain ⟨o', ho', hx', hdat'⟩ := dr
  exact ⟨.non, _, d_write (t' := s.toks) (ob := .dT []) I (by rw [ea]; exact True.intro) hs ⟨o', ho'⟩ ⟨Nat.zero_le _, hd, [], .nil, o', #[], ep + 1, ho', hx', hdat', rfl, List.nodup_nil⟩, rfl, q⟩
end L2
set_option Elab.async false
set_option linter.all false
set_option maxRecDepth 100000
set_option maxHeartbeats 1000000
/-! Objects that a def alone holds, with parts that it alone holds, too: a heap F of its own beside the region. -/
namespace Wd
open PySem PySem.Spec L2
open PyProof.Rows hiding St
def noOw (γ : Gm) : Prop := ∀ (i : Nat) (d : D), γ[i]? ≠ some (.ow d)
def uni (S F : Hp) : Hp := fun a => match F a with | some o => some o | none => S a
theorem uni_F {S F : Hp} {a : Addr} {o : HO} (h : F a = some o) : uni S F a = some o := by unfold uni; rw [h]
theorem uni_S {S F : Hp} {a : Addr} (h : F a = none) : uni S F a = S a := by unfold uni; rw [h]
structure Pv (K : PySem.W.Frag) (γ : Gm) (F H0 S0 S H : Hp) (σ : St) : Prop where
  ok : Ok K H0 S0 S H σ γ
  no : noOw γ
  fh : ∀ a o, F a = some o → H a = some o
  fs : ∀ a o, F a = some o → S a = none
  f0 : ∀ a o, F a = some o → H0 a = none
section
variable {K : PySem.W.Frag} {H0 S0 S H F S' H' : Hp} {σ : St} {γ : Gm} {i j : Nat} {d : D} {v : V} {dl : Addr} {o u : HO}
theorem uni_ex (h : ∀ a o, F a = some o → S a = none) : Ex S (uni S F) := fun a u e => by
  cases q : F a with
  | none => rw [uni_S q]; exact e
  | some z => have z1 := h a z q; rw [z1] at e; cases e
theorem uni_sub (fh : ∀ a o, F a = some o → H a = some o) (s : Sub S H) : Sub (uni S F) H := fun a u e => by
  cases q : F a with
  | none => rw [uni_S q] at e; exact s a u e
  | some z => rw [uni_F q] at e; exact .inl (fh a u (q.trans e))
theorem noOw.set {s : Slot} (h : noOw γ) (hs : ∀ d, s ≠ .ow d) : noOw (γ.set j s) := fun i d e => by
  by_cases q : i = j
  · subst q
    have hl : i < (γ.set i s).length := (List.getElem?_eq_some_iff.mp e).1
    rw [List.length_set] at hl
    rw [List.getElem?_set_self hl] at e
    exact hs d (Option.some.inj e)
  · rw [List.getElem?_set_ne (fun z => q z.symm)] at e
    exact h i d e
theorem wk_un (i : Nat) : Wk γ (γ.set i .un) := ⟨by rw [List.length_set], fun j s e => by
  by_cases q : j = i
  · subst q
    have hl : j < (γ.set j .un).length := (List.getElem?_eq_some_iff.mp e).1
    rw [List.length_set] at hl
    rw [List.getElem?_set_self hl] at e
    exact .inl (Option.some.inj e).symm
  · rw [List.getElem?_set_ne (fun z => q z.symm)] at e
    exact .inr e⟩
theorem Pv.grow (p : Pv K γ F H0 S0 S H σ) (g : Gr S H S' H') (s : Sub S' H') : Pv K γ F H0 S0 S' H' σ :=
  ⟨p.ok.grow g s, p.no, fun a o h => g.hh _ _ (p.fh a o h), fun a o h => g.out (p.fs a o h) (p.fh a o h), p.f0⟩
/-- the private object, seen as known -/
theorem Pv.froz (p : Pv K γ F H0 S0 S H σ) (hi : i < γ.length) (hσ : σ[i]? = some (some v)) (hd : Dat K (uni S F) v d) : Ok K H0 S0 (uni S F) H σ (γ.set i (.sh d)) where
  h0 := p.ok.h0
  s0 := Same.trans p.ok.s0 (uni_ex p.fs)
  sh := uni_sub p.fh p.ok.sh
  nw := fun b o h n => by
    cases q : F b with
    | none => rw [uni_S q] at h; exact p.ok.nw b o h n
    | some z => exact p.f0 b z q
  len := by rw [List.length_set]; exact p.ok.len
  en := fun j s h => by
    by_cases e : j = i
    · subst e
      rw [List.getElem?_set_self hi] at h
      cases h
      exact ⟨v, hσ, hd⟩
    · rw [List.getElem?_set_ne (fun z => e z.symm)] at h
      have q := p.ok.en j s h
      cases s with
      | un => trivial
      | tw _ _ => trivial
      | sh d => obtain ⟨v, a, b⟩ := q; exact ⟨v, a, b.ex (uni_ex p.fs)⟩
      | ow d => exact absurd h (p.no j d)
  ds := fun a b da db l ha => absurd ha ((p.no.set (fun d z => by cases z)) a da)
/-- behind an expression: the region as before -/
theorem Pv.back (p : Pv K γ F H0 S0 S H σ) (e : Ex H H') : Pv K γ F H0 S0 S H' σ :=
  p.grow ⟨Same.refl _, e, fun b o h n => by rw [n] at h; cases h⟩ (p.ok.sh.ex e)
theorem Pv.mut (p : Pv K γ F H0 S0 S H σ) {a : Addr} (ha : F a = some u) (o : HO) : Pv K γ (upd F a o) H0 S0 S (upd H a o) σ where
  ok := p.ok.mut (p.f0 a u ha) (p.fs a u ha) fun i d h => absurd h (p.no i d)
  no := p.no
  fh := fun b z h => by
    by_cases e : b = a
    · subst e; rw [upd_same] at h ⊢; exact h
    · rw [upd_ne e] at h ⊢; exact p.fh b z h
  fs := fun b z h => by
    by_cases e : b = a
    · subst e; exact p.fs b u ha
    · rw [upd_ne e] at h; exact p.fs b z h
  f0 := fun b z h => by
    by_cases e : b = a
    · subst e; exact p.f0 b u ha
    · rw [upd_ne e] at h; exact p.f0 b z h
theorem Pv.add (p : Pv K γ F H0 S0 S H σ) {a : Addr} (h1 : H a = some o) (h2 : S a = none) (h3 : H0 a = none) : Pv K γ (upd F a o) H0 S0 S H σ where
  ok := p.ok
  no := p.no
  fh := fun b z h => by
    by_cases e : b = a
    · subst e; rw [upd_same] at h; cases h; exact h1
    · rw [upd_ne e] at h; exact p.fh b z h
  fs := fun b z h => by
    by_cases e : b = a
    · subst e; exact h2
    · rw [upd_ne e] at h; exact p.fs b z h
  f0 := fun b z h => by
    by_cases e : b = a
    · subst e; exact h3
    · rw [upd_ne e] at h; exact p.f0 b z h
/-- a name is given a known value -/
theorem Pv.sets (p : Pv K γ F H0 S0 S H σ) (hj : j < γ.length) (h : Dat K S v d) : Pv K (γ.set j (.sh d)) F H0 S0 S H (σ.set j (some v)) :=
  ⟨p.ok.sh_ hj h, p.no.set (fun d z => by cases z), p.fh, p.fs, p.f0⟩
theorem Pv.setu (p : Pv K γ F H0 S0 S H σ) (hj : j < γ.length) {ov : Option V} : Pv K (γ.set j .un) F H0 S0 S H (σ.set j ov) :=
  ⟨p.ok.un_ hj, p.no.set (fun d z => by cases z), p.fh, p.fs, p.f0⟩
/-- an own object becomes private -/
theorem Pv.enter (k : Ok K H0 S0 S H σ γ) (hg : γ[i]? = some (.ow d)) (no : noOw (γ.set i .un)) : ∃ l o, σ[i]? = some (some (.ref l)) ∧ H l = some o ∧ OwnAt K S H l d ∧ Pv K (γ.set i .un) (upd (fun _ => none) l o) H0 S0 S H σ := by
  obtain ⟨l, e, h1, h2, h3⟩ := k.en i _ hg
  obtain ⟨o, ho⟩ := h3.there
  refine ⟨l, o, e, ho, h3, ⟨k.wk (wk_un i), no, fun a z h => ?_, fun a z h => ?_, fun a z h => ?_⟩⟩ <;>
  · by_cases q : a = l
    · subst q; rw [upd_same] at h; cases h; assumption
    · rw [upd_ne q] at h; cases h
/-- the private object is own again, its parts known -/
theorem Pv.exit (p : Pv K γ F H0 S0 S H σ) {F' : Hp} (sub : ∀ a o, F' a = some o → F a = some o) (hl : F' dl = none) (hF : F dl = some o) (hi : i < γ.length) (hσ : σ[i]? = some (some (.ref dl))) (ow : OwnAt K (uni S F') H dl d) : Ok K H0 S0 (uni S F') H σ (γ.set i (.ow d)) where
  h0 := p.ok.h0
  s0 := Same.trans p.ok.s0 (uni_ex fun a o h => p.fs a o (sub a o h))
  sh := uni_sub (fun a o h => p.fh a o (sub a o h)) p.ok.sh
  nw := fun b o h n => by
    cases q : F' b with
    | none => rw [uni_S q] at h; exact p.ok.nw b o h n
    | some z => exact p.f0 b z (sub b z q)
  len := by rw [List.length_set]; exact p.ok.len
  en := fun j s h => by
    by_cases e : j = i
    · subst e
      rw [List.getElem?_set_self hi] at h
      cases h
      exact ⟨dl, hσ, by rw [uni_S hl]; exact p.fs dl o hF, p.f0 dl o hF, ow⟩
    · rw [List.getElem?_set_ne (fun z => e z.symm)] at h
      have q := p.ok.en j s h
      cases s with
      | un => trivial
      | tw _ _ => trivial
      | sh d => obtain ⟨v, a, b⟩ := q; exact ⟨v, a, b.ex (uni_ex fun a o h => p.fs a o (sub a o h))⟩
      | ow d => exact absurd h (p.no j d)
  ds := fun a b da db l ha hb _ _ => by
    have one : ∀ (c : Nat) (x : D), (γ.set i (.ow d))[c]? = some (.ow x) → c = i := fun c x hc => by
      by_cases e : c = i
      · exact e
      · rw [List.getElem?_set_ne (fun z => e z.symm)] at hc; exact absurd hc (p.no c x)
    rw [one a da ha, one b db hb]
end
section
variable {ι : Type} {Xs : ι → Cx} {P : Program} {w : World} {K : PySem.W.Frag} {mg : Str → Option Value} {base : Heap} {N : List Str} {k : Nat} {γ : Gm} {d : D} {e a b c : Expr} {pos pos' : Pos} {x : Str} {H0 S0 S H F : Hp} {σ : St} {r : Slot} {i : Nat} {v : V} {tv : Bool}
theorem Pv.eval (p : Pv K γ F H0 S0 S H σ) (he : PED K Xs e γ r) {Q : VK} (q : ∀ v S' H', Pv K γ F H0 S0 S' H' σ → Gr S H S' H' → Sub S' H' → ResOk K S' H H' v r → Q v H') : anyE Xs e σ H Q :=
  he _ _ _ _ σ p.ok _ fun v S' H' g s r => q v S' H' (p.grow g s) g s r
theorem Pv.evalF (p : Pv K γ F H0 S0 S H σ) (hi : i < γ.length) (hσ : σ[i]? = some (some v)) (hd : Dat K (uni S F) v d) (he : PED K Xs e (γ.set i (.sh d)) r) {Q : VK}
    (q : ∀ u S' H', Pv K γ F H0 S0 S H' σ → Gr (uni S F) H S' H' → Sub S' H' → ResOk K S' H H' u r → Q u H') : anyE Xs e σ H Q :=
  he _ _ _ _ σ (p.froz hi hσ hd) _ fun u S' H' g s r => q u S' H' (p.back g.hh) g s r
theorem Pv.testF (p : Pv K γ F H0 S0 S H σ) (hi : i < γ.length) (hσ : σ[i]? = some (some v)) (hd : Dat K (uni S F) v d) (hc : PTD K Xs c (γ.set i (.sh d)) tv) {Q : Bool → Hp → Prop}
    (q : ∀ H', Pv K γ F H0 S0 S H' σ → Q tv H') : anyT Xs c σ H Q :=
  hc _ _ _ _ σ (p.froz hi hσ hd) _ fun S' H' g s => q H' (p.back g.hh)
theorem rs_cons {st : Stmt} {sts : List Stmt} {D : Ends} (h : anyS Xs st { D with nx := anySs Xs sts D } σ H) : anySs Xs (st :: sts) D σ H :=
  ⟨tSeq (anyS Xs st) (anySs Xs sts), fun i => pss_cons (ps_any st i) (pss_any sts i), h⟩
theorem as_set (fx : Fx Xs P w K mg base N k) (i : Nat) {D : Ends} (h : anyE Xs e σ H fun v H1 => D.nx (σ.set i (some v)) H1) (hN : N[i]? = some x := by rfl) (hx : ∀ j, Loc (Xs j).env.scope x := by first | exact fun _ => Or.inl rfl | exact fun _ => Or.inr rfl)
    (hs : ∀ j, swapsWith e (some (.Name x pos')) pos.line (Xs j).env = pure false := by exact fun _ => rfl) (hf : ∀ j, (Xs j).fn x = true ∨ (Xs j).env.scope.names.lookup x = some .local := by first | exact fun _ => Or.inl rfl | exact fun _ => Or.inr rfl) : anyS Xs (.Assign [.Name x pos'] e pos) D σ H :=
  ⟨tAsg (anyE Xs e) (gName i), fun j => ps_set (i := i) (by rw [fx.hN j]; exact fx.nd) (by rw [fx.hN j]; exact hN) (hx j) (pe_any e j) (hs j) (hf j), h⟩
theorem as_ifF {sts sts' : List Stmt} {D : Ends} {R : Hp → Prop} (h : ∀ Q : Bool → Hp → Prop, (∀ H1, R H1 → Q false H1) → anyT Xs c σ H Q) (q : ∀ H1, R H1 → anySs Xs sts' D σ H1) : anyS Xs (.If c sts sts' pos) D σ H :=
  ⟨_, fun i => ps_if (pt_any c i) pss_never (pss_any sts' i), h _ fun H1 r => iteF (q H1 r)⟩
end
end Wd
set_option Elab.async false
set_option linter.all false
set_option maxRecDepth 100000
set_option maxHeartbeats 1000000
/-! x[a] = {..}; x[a].update({..}), x an own dict. -/
namespace Wd
open PySem PySem.Spec L2
open PyProof.Rows hiding St
def mrgG (a b : List (Key × D)) : List (Key × D) := b.foldl (fun a p => putG a p.1 p.2) a
theorem nodup_put {l : List (Key × D)} (nd : (l.map (·.1)).Nodup) (k : Key) (v : D) : ((putG l k v).map (·.1)).Nodup := by
  rw [keys_put]
  split
  · exact nd
  · rename_i h
    rw [List.nodup_append]
    exact ⟨nd, by simp, fun a ha b hb z => h (by rw [← List.mem_singleton.mp hb, ← z]; exact ha)⟩
theorem mrg_of {K : PySem.W.Frag} {S : Hp} : ∀ {more : List (Key × V)} {ms : List (Key × D)} {kvs : List (Key × V)} {ds : List (Key × D)}, more.map (·.1) = ms.map (·.1) → Dats K S (more.map (·.2)) (ms.map (·.2)) → kvs.map (·.1) = ds.map (·.1) → (ds.map (·.1)).Nodup → Dats K S (kvs.map (·.2)) (ds.map (·.2)) →
    (mrgK kvs more).map (·.1) = (mrgG ds ms).map (·.1) ∧ Dats K S ((mrgK kvs more).map (·.2)) ((mrgG ds ms).map (·.2))
  | [], [], _, _, _, _, h, _, t => ⟨h, t⟩
  | [], _ :: _, _, _, e, _, _, _, _ => by simp at e
  | _ :: _, [], _, _, e, _, _, _, _ => by simp at e
  | p :: more, q :: ms, kvs, ds, e, tm, h, nd, t => by
    rw [List.map_cons, List.map_cons] at e
    injection e with e1 e2
    rw [List.map_cons, List.map_cons] at tm
    cases tm with
    | cons t1 t2 =>
      obtain ⟨z1, z2⟩ := putV_of (k := q.1) h nd t t1
      have z := mrg_of e2 t2 z1 (nodup_put nd q.1 q.2) z2
      show (mrgK (putK kvs p.1 p.2) more).map (·.1) = (mrgG (putG ds q.1 q.2) ms).map (·.1) ∧ Dats K S ((mrgK (putK kvs p.1 p.2) more).map (·.2)) ((mrgG (putG ds q.1 q.2) ms).map (·.2))
      rw [e1]
      exact z
section
variable {ι : Type} {Xs : ι → Cx} {P : Program} {w : World} {K : PySem.W.Frag} {mg : Str → Option Value} {base : Heap} {N : List Str} {k : Nat} {γ : Gm} {e a a2 e2 : Expr} {pos np np2 tp tp2 ap cp ep : Pos} {x : Str} {rest : List Stmt} {ot : Out}
/-- a, b, .. = a list -/
theorem tgd_lst {γ' : Gm} {ds : List D} {d : D} {tgs : List Expr} {is : List Nat} (fx : Fx Xs P w K mg base N k) {z : Nat} (hd : IsL d ds) (h : TgsD K Xs tgs γ ds γ' is) (hn : ∀ i, (assignEach tgs (Xs i).env).length = ds.length := by exact fun _ => rfl) (hst : ∀ i, (assignEach tgs (Xs i).env).findIdx? (·.1) = none := by exact fun _ => rfl) : TgD K Xs (.Tuple tgs z np) γ d γ' is := fun H0 S0 S H σ v k hv Q q => by
  obtain ⟨p, xs, rfl, hq, t⟩ := isL_of hd hv k.sh
  obtain ⟨u, hu, q2⟩ := h H0 S0 S H σ xs k t Q q
  refine ⟨gLst K ds.length u, fun i => ?_, p, xs, rfl, hq, t.length, q2⟩
  have y := pg_lst (k := z) (pos := np) (fx.calm i) (hu i) (hn i) (hst i)
  rw [fx.hK i] at y
  exact y
theorem pssd_putUpd (fx : Fx Xs P w K mg base N k) (i : Nat) {kvs kv1 kv2 : List (Key × D)} {key : Key} (hg : γ[i]? = some (.ow (.dk kvs))) (hno : noOw (γ.set i .un))
    (he : PED K Xs e (γ.set i .un) (.ow (.dk kv1))) (ha : PED K Xs a (γ.set i .un) (.sh (keyD key))) (ha2 : PED K Xs a2 (γ.set i .un) (.sh (keyD key))) (he2 : PED K Xs e2 (γ.set i .un) (.ow (.dk kv2)))
    (hl : kvs.length < sizeLine) (nd : (kvs.map (·.1)).Nodup) (nd1 : (kv1.map (·.1)).Nodup) (hl1 : kv1.length + kv2.length ≤ sizeLine)
    (hr : PSsD K Xs rest (γ.set i (.ow (.dk (putG kvs key (.dk (mrgG kv1 kv2)))))) ot)
    (hN : N[i]? = some x := by rfl) (hv : ∀ j, Vis (Xs j).env.scope x := by first | exact fun _ => Or.inl rfl | exact fun _ => Or.inr (Or.inl rfl) | exact fun _ => Or.inr (Or.inr rfl))
    (hd : (x == ("__debug__" : Str)) = false := by decide) (hcd : (x == ("__classdict__" : Str)) = false := by decide)
    (hs : ∀ j, swapsWith e (some (.Subscript (.Name x np) a tp)) pos.line (Xs j).env = pure false := by exact fun _ => rfl)
    (hsx : PlainIx a2 := by exact fun _ _ => rfl)
    (hbase : ∀ j, attributeBase (.Subscript (.Name x np2) a2 tp2) "update" (Xs j).env (eval (.Subscript (.Name x np2) a2 tp2) (Xs j).env) = eval (.Subscript (.Name x np2) a2 tp2) (Xs j).env := by exact fun _ => rfl)
    (hfew : ∀ j, ((backTo cp (starEach [e2] (Xs j).env)).all (fun x => !x.1) && (backToKw cp (keywordEach [] (Xs j).env)).all (fun x => x.1.isSome) && decide (([e2] : List Expr).length + ([] : List Keyword).length + (if ([] : List Keyword).isEmpty then 0 else 1) < 30)) = true := by exact fun _ => rfl)
    (hline : (ap.endLine == cp.line) = true := by rfl) (hss : ∀ j, starEach [e2] (Xs j).env = (false, eval e2 (Xs j).env) :: starEach [] (Xs j).env := by exact fun _ => rfl) (hplain : ∀ j, (backTo cp (starEach [] (Xs j).env)).any (·.1) = false := by exact fun _ => rfl)
    (hsw : ∀ j, swapsWith (.Call (.Attribute (.Subscript (.Name x np2) a2 tp2) "update" ap) [e2] [] cp) none ep.line (Xs j).env = pure false := by exact fun _ => rfl) :
    PSsD K Xs (.Assign [.Subscript (.Name x np) a tp] e pos :: .Expr (.Call (.Attribute (.Subscript (.Name x np2) a2 tp2) "update" ap) [e2] [] cp) ep :: rest) γ ot := by
  intro H0 S0 S H σ D k0 q
  obtain ⟨dl, o, hσ, ho, how, pv⟩ := Pv.enter k0 hg hno
  obtain ⟨kv, hkv, hk, t⟩ := how
  have ho2 := ho
  rw [hkv] at ho2
  cases ho2
  have hi : i < (γ.set i .un).length := by rw [List.length_set]; exact (List.getElem?_eq_some_iff.mp hg).1
  refine rs_cons ⟨sDPut (tVar i) (anyE Xs a) (anyE Xs e), fun j => ps_dput (fx.hu j) (pe_self i fx hN hv hd hcd j) (pe_any a j) (pe_any e j) (hs j), ?_⟩
  refine pv.eval he fun v S1 H1 pv1 g1 s1 ⟨l, ev, n1, n2, kvl, hl', hkl, tl⟩ => ⟨_, hσ, pv1.eval ha fun y S2 H2 pv2 g2 s2 ry => ?_⟩
  subst ev
  have ey := kV_of ry
  subst ey
  have hd2 : H2 dl = some (.dK kv) := pv2.fh dl _ upd_same
  have hlen : kv.length = kvs.length := by simpa using congrArg List.length hk
  have hl2 : H2 l = some (.dK kvl) := g2.hh _ _ hl'
  have ne : l ≠ dl := fun z => by rw [z, ho] at n2; cases n2
  have pv3 := pv2.mut upd_same (.dK (putK kv key (.ref l)))
  have pv4 := pv3.add (a := l) (o := .dK kvl) (by rw [upd_ne ne]; exact hl2) (g2.out n1 hl') (Ex.back pv.ok.h0 n2)
  refine ⟨dl, _, rfl, .k hd2 (by rw [hlen]; exact hl), ?_⟩
  refine rs_cons ⟨tDrop (tBM K "dict" rDUpd (tDGet (tVar i) (anyE Xs a2)) (tCons (anyE Xs e2) tNil)), fun j => ps_expr ?_ (hsw j), ?_⟩
  · have z := pe_bm (X := Xs j) (r := rDUpd) PySem.F.plainAttrs_dict PySem.F.slot_dict_update PySem.F.type_dict_update mtd_upd (pe_dget (pos := tp2) (fx.hu j) (pe_self (pos := np2) i fx hN hv hd hcd j) (pe_any a2 j) hsx) (pa_cons (pe_any e2 j) pa_nil (hss j)) (hbase j) (hfew j) hline (hss j) (hplain j)
    rw [fx.hK j] at z
    exact z
  · refine ⟨_, hσ, pv4.eval ha2 fun y S5 H5 pv5 g5 s5 ry2 => ?_⟩
    have ey2 := kV_of ry2
    subst ey2
    have fd : H5 dl = some (.dK (putK kv key (.ref l))) := pv5.fh dl _ (by rw [upd_ne (fun z => ne z.symm)]; exact upd_same)
    have fl : H5 l = some (.dK kvl) := pv5.fh l _ upd_same
    refine ⟨dl, .ref l, rfl, .inl ⟨_, key, .inl fd, rfl, by rw [valV_put, if_pos rfl]⟩, .inr (.inr (.inl ⟨rfl, .inl ⟨_, fl⟩⟩)), pv5.eval he2 fun u S6 H6 pv6 g6 s6 ⟨l2, eu, m1, m2, kv2', hq2, hk2, t2⟩ => ?_⟩
    subst eu
    have ne2 : l ≠ l2 := fun z => by rw [← z, fl] at m2; cases m2
    have fd6 : H6 dl = some (.dK (putK kv key (.ref l))) := g6.hh _ _ fd
    have fl6 : H6 l = some (.dK kvl) := g6.hh _ _ fl
    have ll1 : kvl.length = kv1.length := by simpa using congrArg List.length hkl
    have ll2 : kv2'.length = kv2.length := by simpa using congrArg List.length hk2
    refine ⟨l, l2, kvl, kv2', rfl, rfl, ne2, fl6, hq2, by rw [ll1, ll2]; exact hl1, ?_⟩
    have pv7 := pv6.mut (a := l) upd_same (.dK (mrgK kvl kv2'))
    have gg : Ex S S6 := Same.trans g1.ss (Same.trans g2.ss (Same.trans g5.ss g6.ss))
    have g16 : Ex S1 S6 := Same.trans g2.ss (Same.trans g5.ss g6.ss)
    have fF : ∀ b z, (upd (fun _ => none) l (.dK (mrgK kvl kv2')) : Hp) b = some z → b = l ∧ z = .dK (mrgK kvl kv2') := fun b z h => by
      by_cases e : b = l
      · subst e; rw [upd_same] at h; exact ⟨rfl, (Option.some.inj h).symm⟩
      · rw [upd_ne e] at h; cases h
    have eF : Ex S6 (uni S6 (upd (fun _ => none) l (.dK (mrgK kvl kv2')))) := uni_ex fun b z h => by
      obtain ⟨rfl, _⟩ := fF b z h
      exact pv6.fs _ _ upd_same
    obtain ⟨m1', m2'⟩ := mrg_of (K := K) (S := uni S6 (upd (fun _ => none) l (.dK (mrgK kvl kv2')))) hk2 (t2.ex eF) hkl nd1 (tl.ex (Same.trans g16 eF))
    have dl' : Dat K (uni S6 (upd (fun _ => none) l (.dK (mrgK kvl kv2')))) (.ref l) (.dk (mrgG kv1 kv2)) := .dk (uni_F upd_same) m1' m2'
    obtain ⟨p1, p2⟩ := putV_of (k := key) hk nd (t.ex (Same.trans gg eF)) dl'
    have kk := pv7.exit (i := i) (dl := dl) (F' := upd (fun _ => none) l (.dK (mrgK kvl kv2'))) (d := .dk (putG kvs key (.dk (mrgG kv1 kv2)))) (fun b z h => by obtain ⟨rfl, rfl⟩ := fF b z h; exact upd_same) (by rw [upd_ne (fun z => ne z.symm)]) (by rw [upd_ne (fun z => ne z.symm), upd_ne (fun z => ne z.symm)]; exact upd_same) hi hσ ⟨_, by rw [upd_ne (fun z => ne z.symm)]; exact fd6, p1, p2⟩
    rw [List.set_set] at kk
    exact hr H0 S0 _ _ σ D kk q
end
end Wd
set_option Elab.async false
set_option linter.all false
set_option maxRecDepth 100000
set_option maxHeartbeats 1000000
/-! A private dict of private lists: built in a walk over a dict; one element's item stored; list(d), d[k] of an own dict. -/
namespace Wd
open PySem PySem.Spec L2
open PyProof.Rows hiding St
section
variable {K : PySem.W.Frag} {H0 S0 S H S1 H1 F : Hp} {σ σ1 : St} {γ γ1 : Gm} {a : Addr} {u : HO} {o : Obj}
theorem Pv.lockd (p : Pv K γ F H0 S0 S H σ) (ha : S a = some u) (hu : IsDc u) : Pv K γ F (upd H0 a (.frz o u)) (upd S0 a u) S (upd H a (.frz o u)) σ where
  ok := p.ok.lockd ha hu
  no := p.no
  fh := fun b z h => by
    rw [upd_ne (fun e => by have q := p.fs b z h; rw [e, ha] at q; cases q)]
    exact p.fh b z h
  fs := p.fs
  f0 := fun b z h => by
    rw [upd_ne (fun e => by have q := p.fs b z h; rw [e, ha] at q; cases q)]
    exact p.f0 b z h
theorem Pv.unlockd {y : HO} (k : Ok K H0 S0 S H σ γ) (ha : S a = some u) (hy : H a = some y) (hu : y = u ∨ ∃ ob, y = .frz ob u ∧ IsDc u) (k1 : Pv K γ1 F (upd H0 a (.frz o u)) (upd S0 a u) S1 H1 σ1) : Pv K γ1 F H0 S0 S1 (upd H1 a y) σ1 := by
  have s1 : S1 a = some u := k1.ok.s0 a u upd_same
  have ne : ∀ b z, F b = some z → b ≠ a := fun b z h e => by have q := k1.fs b z h; rw [e, s1] at q; cases q
  refine ⟨k.unlockd ha hy hu k1.ok, k1.no, fun b z h => ?_, k1.fs, fun b z h => ?_⟩
  · rw [upd_ne (ne b z h)]; exact k1.fh b z h
  · have q := k1.f0 b z h
    rw [upd_ne (ne b z h)] at q
    exact q
end
section
variable {ι : Type} {Xs : ι → Cx} {P : Program} {w : World} {K : PySem.W.Frag} {mg : Str → Option Value} {base : Heap} {N : List Str} {k : Nat} {γ : Gm} {e a b : Expr} {pos p p2 np np2 tp tp2 : Pos} {tg : Expr} {sts : List Stmt} {x : Str} {H0 S0 S H F : Hp} {σ : St} {D : Ends}
/-- a walk over a known dict, a private heap changed at each turn -/
theorem as_forKP (fx : Fx Xs P w K mg base N k) (j : Nat) {ds : List (Key × Wd.D)} {α : Type} (xs : List α) (enc : α → Key) (he : ds.map (·.1) = xs.map enc) (I : Nat → Hp → St → Prop) (pv : Pv K γ F H0 S0 S H σ) (i0 : I 0 F σ)
    (turn : ∀ (i : Nat) (y : α), xs[i]? = some y → ∀ (F H0 S0 S H : Hp) (σ : St) (D : Ends), Pv K γ F H0 S0 S H σ → I i F σ → (∀ F' S' H' σ', Pv K γ F' H0 S0 S' H' σ' → I (i + 1) F' σ' → D.nx σ' H') → anyG Xs tg (kV (enc y)) σ H fun σ2 H2 => anySs Xs sts D σ2 H2)
    (q : ∀ F' S' H' σ', Pv K γ F' H0 S0 S' H' σ' → I xs.length F' σ' → D.nx σ' H')
    (hg : γ[j]? = some (.sh (.dk ds)) := by rfl) (hN : N[j]? = some x := by rfl) (hv : ∀ j, Vis (Xs j).env.scope x := by first | exact fun _ => Or.inl rfl | exact fun _ => Or.inr (Or.inl rfl) | exact fun _ => Or.inr (Or.inr rfl))
    (hdb : (x == ("__debug__" : Str)) = false := by decide) (hcd : (x == ("__classdict__" : Str)) = false := by decide)
    (hp : ∀ i, PassesOwn (model (Xs i).prog (Xs i).w) (Xs i).A (Xs i).env (Xs i).xe := by first | exact fun _ => PassesOwn.never | exact fun _ => passes_of rfl)
    (hs : ∀ i, ∀ y, foldedSetIterable (.Name x p) (Xs i).env y = pure y := by exact fun _ _ => rfl) : anyS Xs (.For tg (.Name x p) sts [] pos) D σ H := by
  have pf : ∀ i, PS (Xs i) (.For tg (.Name x p) sts [] pos) (tFor (anyI Xs tg (.Name x p)) (anyG Xs tg) (anySs Xs sts)) := fun i => ps_for (hp i) (fx.calm i) (pi_any tg _ i) (pg_any tg i) (pss_any sts i) (hs i)
  have run : ∀ (ad : Addr) (kvs : List (Key × V)) (o : Obj) (H0 S0 S H F : Hp) (σ : St) (D : Ends), Pv K γ F H0 S0 S H σ → I 0 F σ → σ[j]? = some (some (.ref ad)) → H0 ad = some (.frz o (.dK kvs)) → kvs.map (·.1) = ds.map (·.1) → (∀ F' S' H' σ', Pv K γ F' H0 S0 S' H' σ' → I xs.length F' σ' → D.nx σ' H') → tFor (anyI Xs tg (.Name x p)) (anyG Xs tg) (anySs Xs sts) D σ H := by
    intro ad kvs o H0 S0 S H F σ D pv i0 hσ hf k1 q
    have hl : kvs.length = xs.length := by have z := congrArg List.length (k1.trans he); simpa using z
    refine ⟨iKeys (tVar j), fun i => pi_keys (pe_var (by rw [fx.hN]; exact hN) (hv i) hdb hcd), _, hσ, ad, o, rfl, .inl ⟨kvs, pv.ok.h0 _ _ hf, ?_⟩⟩
    refine ⟨fun i m σ H => m = xs.length - i ∧ i ≤ xs.length ∧ ∃ F S, Pv K γ F H0 S0 S H σ ∧ I i F σ, ⟨_, rfl, Nat.zero_le _, F, S, pv, i0⟩, ?_⟩
    rintro i m σ H ⟨rfl, hle, F, S, pv, hI⟩
    by_cases hlt : i < xs.length
    · refine .inr ⟨⟨pv.ok.h0 _ _ hf, by omega⟩, fun σ' H' => ∃ F' S', Pv K γ F' H0 S0 S' H' σ' ∧ I (i + 1) F' σ', fun σ' H' ⟨F', S', k2, e2⟩ => ⟨xs.length - (i + 1), by omega, rfl, hlt, F', S', k2, e2⟩, fun v H' ⟨hy1, kx, vx, hkv, hvx⟩ => ?_⟩
      subst hy1 hvx
      have hy : xs[i]? = some xs[i] := by simp [hlt]
      have ek : kx = enc xs[i] := by
        have z : (kvs.map (·.1))[i]? = some kx := by rw [List.getElem?_map, hkv]; rfl
        rw [k1, he, List.getElem?_map, hy] at z
        exact (Option.some.inj z).symm
      subst ek
      exact turn i xs[i] hy F H0 S0 S _ σ _ pv hI fun F' S' H' σ' k2 e2 => ⟨F', S', k2, e2⟩
    · have e : i = xs.length := by omega
      subst e
      exact .inl ⟨⟨pv.ok.h0 _ _ hf, by omega⟩, q F S H σ pv hI⟩
  obtain ⟨v, hv', dv⟩ := pv.ok.en j _ hg
  cases dv with
  | @dk ad kvs _ hu k1 t1 =>
    have hc : IsDc (.dK kvs) := trivial
    rcases pv.ok.sh ad _ hu with h | ⟨ob, h, _⟩
    · refine ⟨_, fun i => ps_lock (pf i), ad, _, h, trivial, fun od => ?_⟩
      refine run ad kvs od _ _ S _ F σ _ (pv.lockd (o := od) hu hc) i0 hv' upd_same k1 fun F' S1 H1 σ1 p1 e1 => ⟨p1.ok.h0 ad _ upd_same, ?_⟩
      exact q F' S1 _ σ1 (Pv.unlockd pv.ok hu h (.inl rfl) p1) e1
    · refine ⟨_, pf, ?_⟩
      have k2 := pv.lockd (o := ob) hu hc
      rw [upd_self h] at k2
      refine run ad kvs ob _ _ S _ F σ _ k2 i0 hv' upd_same k1 fun F' S1 H1 σ1 p1 e1 => ?_
      have z := Pv.unlockd pv.ok hu h (.inr ⟨ob, rfl, hc⟩) p1
      rw [upd_self (p1.ok.h0 ad _ upd_same)] at z
      exact q F' S1 _ σ1 z e1
/-- x[a] = a new list, x a private dict -/
theorem as_putNew (fx : Fx Xs P w K mg base N k) (i : Nat) {ds : List Wd.D} {key : Key} {dl : Addr} {kv : List (Key × V)} (pv : Pv K γ F H0 S0 S H σ) (hσ : σ[i]? = some (some (.ref dl))) (hF : F dl = some (.dK kv)) (he : PED K Xs e γ (.ow (.lst ds))) (ha : PED K Xs a γ (.sh (keyD key))) (hl : kv.length < sizeLine)
    (q : ∀ S' H' l xs, l ≠ dl → F l = none → Dats K S' xs ds → Pv K γ (upd (upd F dl (.dK (putK kv key (.ref l)))) l (.lst xs)) H0 S0 S' H' σ → D.nx σ H')
    (hN : N[i]? = some x := by rfl) (hv : ∀ j, Vis (Xs j).env.scope x := by first | exact fun _ => Or.inl rfl | exact fun _ => Or.inr (Or.inl rfl) | exact fun _ => Or.inr (Or.inr rfl))
    (hd : (x == ("__debug__" : Str)) = false := by decide) (hcd : (x == ("__classdict__" : Str)) = false := by decide)
    (hs : ∀ j, swapsWith e (some (.Subscript (.Name x np) a tp)) pos.line (Xs j).env = pure false := by exact fun _ => rfl) : anyS Xs (.Assign [.Subscript (.Name x np) a tp] e pos) D σ H := by
  refine ⟨sDPut (tVar i) (anyE Xs a) (anyE Xs e), fun j => ps_dput (fx.hu j) (pe_self i fx hN hv hd hcd j) (pe_any a j) (pe_any e j) (hs j), ?_⟩
  refine pv.eval he fun v S1 H1 pv1 g1 s1 ⟨l, ev, n1, n2, xs, hl', tl⟩ => ⟨_, hσ, pv1.eval ha fun y S2 H2 pv2 g2 s2 ry => ?_⟩
  subst ev
  have ey := kV_of ry
  subst ey
  have hd2 : H2 dl = some (.dK kv) := pv2.fh dl _ hF
  have hFl : F l = none := by
    cases z : F l with
    | none => rfl
    | some u => have y := pv.fh l u z; rw [n2] at y; cases y
  have ne : l ≠ dl := fun z => by rw [z, hF] at hFl; cases hFl
  have pv3 := pv2.mut hF (.dK (putK kv key (.ref l)))
  have pv4 := pv3.add (a := l) (o := .lst xs) (by rw [upd_ne ne]; exact g2.hh _ _ hl') (g2.out n1 hl') (Ex.back pv.ok.h0 n2)
  exact ⟨dl, _, rfl, .k hd2 hl, q S2 _ l xs ne hFl (tl.ex g2.ss) pv4⟩
/-- x[a][b] = e, x a private dict of private lists -/
theorem as_putAt (fx : Fx Xs P w K mg base N k) (i : Nat) {d : Wd.D} {key : Key} {dl l : Addr} {kv : List (Key × V)} {xs : List V} {m : Int} {n : Nat} (pv : Pv K γ F H0 S0 S H σ) (hi : i < γ.length) (hσ : σ[i]? = some (some (.ref dl))) (hF : F dl = some (.dK kv)) (hval : valV kv key = some (.ref l)) (hFl : F l = some (.lst xs)) (hD : Dat K (uni S F) (.ref dl) d)
    (he : PED K Xs e (γ.set i (.sh d)) (.sh (.int m))) (ha : PED K Xs a γ (.sh (keyD key))) {mi : Int} (hb : PED K Xs b γ (.sh (.int mi))) (hn : ixN xs.length mi = some n)
    (q : ∀ S' H', Gr S H S' H' ∨ True → Ex S S' → Pv K γ (upd F l (.lst (xs.set n (.int m)))) H0 S0 S' H' σ → D.nx σ H')
    (hN : N[i]? = some x := by rfl) (hv : ∀ j, Vis (Xs j).env.scope x := by first | exact fun _ => Or.inl rfl | exact fun _ => Or.inr (Or.inl rfl) | exact fun _ => Or.inr (Or.inr rfl))
    (hd : (x == ("__debug__" : Str)) = false := by decide) (hcd : (x == ("__classdict__" : Str)) = false := by decide) (hsx : PlainIx a := by exact fun _ _ => rfl)
    (hs : ∀ j, swapsWithSole [.Subscript (.Subscript (.Name x np) a np2) b tp] e pos.line (Xs j).env = pure false := by exact fun _ => rfl) (hw : ∀ j, swappedStores [.Subscript (.Subscript (.Name x np) a np2) b tp] e (Xs j).env = pure none := by exact fun _ => rfl)
    (h1 : ∀ j, (assignEach [.Subscript (.Subscript (.Name x np) a np2) b tp] (Xs j).env).map (·.2) = [assign (.Subscript (.Subscript (.Name x np) a np2) b tp) (Xs j).env] := by exact fun _ => rfl)
    (h2 : ∀ j, ∀ v, assign (.Subscript (.Subscript (.Name x np) a np2) b tp) (Xs j).env v = (do
      let ov ← holding [v] (eval (.Subscript (.Name x np) a np2) (Xs j).env)
      let iv ← holding [v, ov] (eval b (Xs j).env)
      standAt tp
      holding [v, ov, iv] (setItem ov iv v)
      release [v, ov, iv] []) := by exact fun _ _ => rfl) : anyS Xs (.Assign [.Subscript (.Subscript (.Name x np) a np2) b tp] e pos) D σ H := by
  refine ⟨tAsg (anyE Xs e) (gSub (tDGet (tVar i) (anyE Xs a)) (anyE Xs b) rSetL), fun j => ps_asg (pe_any e j) (pg_sub (pe_dget (pos := np2) (fx.hu j) (pe_self (pos := np) i fx hN hv hd hcd j) (pe_any a j) hsx) (pe_any b j) set_list (h2 j)) (hs j) (hw j) (h1 j), ?_⟩
  refine pv.evalF hi hσ hD he fun v S1 H1 pv1 g1 s1 r1 => ⟨_, hσ, pv1.eval ha fun y S2 H2 pv2 g2 s2 ry => ?_⟩
  cases r1
  have ey := kV_of ry
  subst ey
  refine ⟨dl, .ref l, rfl, .inl ⟨kv, key, .inl (pv2.fh dl _ hF), rfl, hval.symm⟩, pv2.eval hb fun z S3 H3 pv3 g3 s3 rz => ?_⟩
  cases rz
  exact ⟨l, xs, mi, n, rfl, rfl, pv3.fh l _ hFl, hn, q S3 _ (.inr trivial) (Same.trans g2.ss g3.ss) (pv3.mut hFl _)⟩
/-- x[0].clear(), x a private tuple whose first item is a private dict with tuples' keys -/
theorem as_clrT (fx : Fx Xs P w K mg base N k) (i : Nat) {l pd : Addr} {y : V} {kvs : List (List Key × V)} {jj : Nat} (pv : Pv K γ F H0 S0 S H σ) (hσ : σ[i]? = some (some (.ref l))) (fl : F l = some (.tup [.ref pd, y])) (fp : F pd = some (.dT kvs)) (q : Pv K γ (upd F pd (.dT [])) H0 S0 S (upd H pd (.dT [])) σ → D.nx σ (upd H pd (.dT [])))
    (hN : N[i]? = some x := by rfl) (hv : ∀ j, Vis (Xs j).env.scope x := by first | exact fun _ => Or.inl rfl | exact fun _ => Or.inr (Or.inl rfl) | exact fun _ => Or.inr (Or.inr rfl))
    (hd : (x == ("__debug__" : Str)) = false := by decide) (hcd : (x == ("__classdict__" : Str)) = false := by decide) (hsx : PlainIx (.Constant (.int 0) jj tp2) := by exact fun _ _ => rfl)
    (hbase : ∀ i, attributeBase (.Subscript (.Name x np) (.Constant (.int 0) jj tp2) np2) "clear" (Xs i).env (eval (.Subscript (.Name x np) (.Constant (.int 0) jj tp2) np2) (Xs i).env) = eval (.Subscript (.Name x np) (.Constant (.int 0) jj tp2) np2) (Xs i).env := by exact fun _ => rfl) (hline : (p.endLine == pos.line) = true := by rfl)
    (hsw : ∀ j, swapsWith (.Call (.Attribute (.Subscript (.Name x np) (.Constant (.int 0) jj tp2) np2) "clear" p) [] [] pos) none tp.line (Xs j).env = pure false := by exact fun _ => rfl) : anyS Xs (.Expr (.Call (.Attribute (.Subscript (.Name x np) (.Constant (.int 0) jj tp2) np2) "clear" p) [] [] pos) tp) D σ H := by
  refine ⟨tDrop (tBM0 K "dict" rDClrT (tOp (rIx K) (tVar i) (tC (.int 0)))), fun j => ps_expr ?_ (hsw j), ?_⟩
  · have z := pe_ix (pos := np2) (ix_seq (X := Xs j)) (pe_self (pos := np) i fx hN hv hd hcd j) (pe_int (i := 0) (pos := tp2) (j := jj)) hsx
    rw [fx.hK j] at z
    have z2 := pe_bm0 (X := Xs j) (r := rDClrT) PySem.F.plainAttrs_dict PySem.F.slot_dict_clear PySem.F.type_dict_clear mtd_clrT z (hbase j) hline
    rw [fx.hK j] at z2
    exact z2
  · refine ⟨_, hσ, .inr (.inl ⟨l, [.ref pd, y], 0, .ref pd, rfl, rfl, .inl (.inl (pv.fh l _ fl)), rfl, .inr (.inr (.inl ⟨rfl, .inr ⟨_, pv.fh pd _ fp⟩⟩)), pd, kvs, rfl, rfl, pv.fh pd _ fp, q (pv.mut fp _)⟩)⟩
/-- x[a], x an own dict -/
theorem pd_subO (fx : Fx Xs P w K mg base N k) (i : Nat) {ds : List (Key × Wd.D)} {key : Key} {d : Wd.D} (hg : γ[i]? = some (.ow (.dk ds))) (ha : PED K Xs a γ (.sh (keyD key))) (h : getK ds key = some d) (hN : N[i]? = some x := by rfl) (hv : ∀ j, Vis (Xs j).env.scope x := by first | exact fun _ => Or.inl rfl | exact fun _ => Or.inr (Or.inl rfl) | exact fun _ => Or.inr (Or.inr rfl))
    (hd : (x == ("__debug__" : Str)) = false := by decide) (hcd : (x == ("__classdict__" : Str)) = false := by decide) (hs : PlainIx a := by exact fun _ _ => rfl) : PED K Xs (.Subscript (.Name x np) a pos) γ (.sh d) := by
  refine .of (t := tDGet (tVar i) (anyE Xs a)) (fun j => pe_dget (fx.hu j) (pe_self i fx hN hv hd hcd j) (pe_any a j) hs) fun H0 S0 S H σ k Q q => ?_
  obtain ⟨l, hσ, h1, h2, kv, hl, hk, t⟩ := k.en i _ hg
  refine ⟨_, hσ, ha H0 S0 S H σ k _ fun y S1 H1 g1 s1 ry => ?_⟩
  have ey := kV_of ry
  subst ey
  obtain ⟨v, hv1, hv2⟩ := getV_of hk t h
  exact ⟨l, v, rfl, .inl ⟨kv, key, .inl (g1.hh _ _ hl), rfl, hv1.symm⟩, q v S1 H1 g1 s1 (hv2.ex g1.ss)⟩
/-- list(x), x an own dict -/
theorem pd_listO (fx : Fx Xs P w K mg base N k) (i : Nat) {ds : List (Key × Wd.D)} {ns : List Str} (hg : γ[i]? = some (.ow (.dk ds))) (hns : ds.map (·.1) = ns.map Sum.inr) (hl : mg "list" = none) (hN : N[i]? = some x := by rfl) (hv : ∀ j, Vis (Xs j).env.scope x := by first | exact fun _ => Or.inl rfl | exact fun _ => Or.inr (Or.inl rfl) | exact fun _ => Or.inr (Or.inr rfl))
    (hd : (x == ("__debug__" : Str)) = false := by decide) (hcd : (x == ("__classdict__" : Str)) = false := by decide) (hg2 : ∀ i, Gl (Xs i) "list" := by exact fun _ => rfl)
    (he : ∀ i, starEach [.Name x p] (Xs i).env = (false, eval (.Name x p) (Xs i).env) :: starEach [] (Xs i).env := by exact fun _ => rfl) (hpl : ∀ i, (backTo pos (starEach [] (Xs i).env)).any (·.1) = false := by exact fun _ => rfl) : PED K Xs (.Call (.Name "list" p2) [.Name x p] [] pos) γ (.ow (.lst (ns.map .str))) := by
  refine .of (t := tCB rListD (tCons (tVar i) tNil)) (fun j => pe_callTy (call_list_dK (X := Xs j) (fx.calm j)) (hg2 j) (by rw [fx.hmg j]; exact hl) (by decide +kernel) (pa_cons (pe_self i fx hN hv hd hcd j) pa_nil (he j)) (by decide) (by decide) (he j) (hpl j)) fun H0 S0 S H σ k Q q => ?_
  obtain ⟨l, hσ, h1, h2, kv, hk, hkk, t⟩ := k.en i _ hg
  refine ⟨_, hσ, l, kv, rfl, hk, fun pp hp => ?_⟩
  have e : kv.map (fun kv => kV kv.1) = ns.map V.str := by
    have z : kv.map (fun kv => kV kv.1) = (kv.map (·.1)).map kV := by rw [List.map_map]; rfl
    rw [z, hkk, hns, List.map_map]
    rfl
  rw [e]
  exact new_lst k.sh hp (by
    have : ∀ ns : List Str, Dats K S (ns.map V.str) (ns.map D.str) := fun ns => by
      induction ns with
      | nil => exact .nil
      | cons _ _ ih => exact .cons .str ih
    exact this ns) q
end
end Wd
set_option Elab.async false
set_option linter.all false
set_option maxRecDepth 100000
set_option maxHeartbeats 1000000
/-! Defs that raise: promises, raise, calls that raise, ways of a block. -/
namespace Wd
open PySem PySem.Spec L2
open PyProof.Rows hiding St
/-- the promise of a def that raises: a class of the program, without fields -/
def spX (K : PySem.W.Frag) (Pr : List D → Str → Prop) : Sp := fun vs H _ E => ∃ (S : Hp) (ds : List D) (c : Str), Sub S H ∧ Dats K S vs ds ∧ Pr ds c ∧ ∀ H', Ex H H' → E (.ref (He.ga K c)) none H'
/-- an expression, a statement, a block that raises -/
def PXD (K : PySem.W.Frag) {ι : Type} (Xs : ι → Cx) (W : WX) (e : Expr) (γ : Gm) (c : Str) : Prop := ∀ (H0 S0 S H : Hp) (σ : St), Ok K H0 S0 S H σ γ → (∀ H', Ex H H' → W (.ref (He.ga K c)) none σ H') → ∀ Q : VK, anyE Xs e σ H Q
def PXS (K : PySem.W.Frag) {ι : Type} (Xs : ι → Cx) (W : WX) (st : Stmt) (γ : Gm) (c : Str) : Prop := ∀ (H0 S0 S H : Hp) (σ : St) (En : Ends), Ok K H0 S0 S H σ γ → (∀ H' σ', Ex H0 H' → W (.ref (He.ga K c)) none σ' H') → anyS Xs st En σ H
def PXSs (K : PySem.W.Frag) {ι : Type} (Xs : ι → Cx) (W : WX) (sts : List Stmt) (γ : Gm) (c : Str) : Prop := ∀ (H0 S0 S H : Hp) (σ : St) (En : Ends), Ok K H0 S0 S H σ γ → (∀ H' σ', Ex H0 H' → W (.ref (He.ga K c)) none σ' H') → anySs Xs sts En σ H
/-- what the head says of an own class over ValueError, made by ('..') -/
structure ExcK (K : PySem.W.Frag) (c : Str) : Prop where
  ex : PySem.W.excIn K (He.ga K c) He.veBase "ValueError.__new__" = true
  kp : PySem.W.keepIn K (.ref (He.ga K c)) = true
  sub : PySem.W.subIn K (.ref (He.ga K c)) (.type "BaseException") = some true
  ty : PySem.W.typeIn K (.ref (He.ga K c)) = some (.type "type")
section
variable {ι : Type} {Xs : ι → Cx} {W : WX} {P : Program} {w : World} {K : PySem.W.Frag} {mg : Str → Option Value} {base : Heap} {N : List Str} {k j : Nat} {γ γ1 : Gm} {d : D} {ds dd : List D} {e cnd : Expr} {es : List Expr} {pos p pos' : Pos} {x c : Str} {tv : Bool} {st : Stmt} {sts sts' : List Stmt} {f : Addr} {fd : FuncData} {ps : List Str} {Pr : List D → Str → Prop}
/-- raise C('..') -/
theorem pxs_raise (fx : Fx Xs P w K mg base N k) (tk : ∀ i, L2N.Takes (Xs i) W) (X : ExcK K c) (hm : mg c = some (.ref (He.ga K c))) {m : Str} {jj : Nat} {p2 : Pos} (hg : ∀ i, Gl (Xs i) c := by exact fun _ => rfl) (hdb : (c == ("__debug__" : Str)) = false := by decide) :
    PXS K Xs W (.Raise (some (.Call (.Name c p) [.Constant (.str m) jj p2] [] pos)) none pos') γ c := fun H0 S0 S H σ En k q => by
  refine ⟨fun _ σ H => W (.ref (He.ga K c)) none σ H, fun i => ?_, q H σ k.h0⟩
  have hK := fx.hK i
  exact L2N.ps_raise (fx.calm i) (tk i) (L2N.pmk_own PySem.F.excBase_ValueError (by rw [hK]; exact X.ex) (by rw [fx.hmg i]; exact hm) (by rw [hK]; exact X.kp) (raises_own (by rw [hK]; exact X.sub) (by rw [hK]; exact X.ty)) (hg i) hdb)
theorem Fx.fnN (fx : Fx Xs P w K mg base N k) {sp : Sp} (G : FnOk P w K mg base (L2N.CX P w) j f fd ps sp) (i : ι) : FnOk (Xs i).prog (Xs i).w (Xs i).K (Xs i).mg (Xs i).base (L2N.CX (Xs i).prog (Xs i).w) j f fd ps sp := by
  rw [fx.hP i, fx.hw i, fx.hK i, fx.hmg i, fx.hb i]; exact G
/-- f(..) that raises -/
theorem pxd_call (fx : Fx Xs P w K mg base N k) (tk : ∀ i, L2N.Takes (Xs i) W) (G : FnOk P w K mg base (L2N.CX P w) j f fd ps (spX K Pr)) (hm : mg x = some (.ref f)) (hk : PySem.W.keepIn K (.ref f) = true) (B : Binds K fd ps [])
    (ha : PAD K Xs (e :: es) γ ds) (h : Pr ds c) (hj : j ≤ k := by decide) (hg : ∀ i, Gl (Xs i) x := by exact fun _ => rfl) (hdb : (x == ("__debug__" : Str)) = false := by decide)
    (he : ∀ i, starEach (e :: es) (Xs i).env = (false, eval e (Xs i).env) :: starEach es (Xs i).env := by exact fun _ => rfl) (hpl : ∀ i, (backTo pos (starEach es (Xs i).env)).any (·.1) = false := by exact fun _ => rfl) : PXD K Xs W (.Call (.Name x p) (e :: es) [] pos) γ c := fun H0 S0 S H σ k q Q => by
  refine ⟨tCallS (spX K Pr) (WE W) (anyA Xs (e :: es)), fun i => ?_, ?_⟩
  · have z := pe_callS (p := p) (pos := pos) (E := WE W) (fx.fnN G i) ((fx.room i).mono hj) (hg i) (by rw [fx.hmg i]; exact hm) (by rw [fx.hK i]; exact hk) (fx.binds B i) (fun σ => L2N.passAt (tk i) σ) (pa_any (e :: es) i) hdb (he i) (hpl i)
    exact z
  · exact ha H0 S0 S H σ k _ fun vs S' H' g s r => ⟨S', ds, c, s, r, h, fun H2 e2 => q H2 (Same.trans g.hh e2)⟩
theorem pxs_expr (h : PXD K Xs W e γ c) (hs : ∀ j, swapsWith e none pos.line (Xs j).env = pure false := by exact fun _ => rfl) : PXS K Xs W (.Expr e pos) γ c := fun H0 S0 S H σ En k q =>
  ⟨tDrop (anyE Xs e), fun j => ps_expr (pe_any e j) (hs j), h H0 S0 S H σ k (fun H' e' => q H' σ (Same.trans k.h0 e')) _⟩
theorem pxs_set (fx : Fx Xs P w K mg base N k) (i : Nat) (h : PXD K Xs W e γ c) {np : Pos} (hN : N[i]? = some x := by rfl) (hx : ∀ j, Loc (Xs j).env.scope x := by first | exact fun _ => Or.inl rfl | exact fun _ => Or.inr rfl)
    (hs : ∀ j, swapsWith e (some (.Name x np)) pos.line (Xs j).env = pure false := by exact fun _ => rfl) (hf : ∀ j, (Xs j).fn x = true ∨ (Xs j).env.scope.names.lookup x = some .local := by first | exact fun _ => Or.inl rfl | exact fun _ => Or.inr rfl) : PXS K Xs W (.Assign [.Name x np] e pos) γ c := fun H0 S0 S H σ En k q =>
  ⟨tAsg (anyE Xs e) (gName i), fun j => ps_set (i := i) (by rw [fx.hN j]; exact fx.nd) (by rw [fx.hN j]; exact hN) (hx j) (pe_any e j) (hs j) (hf j), h H0 S0 S H σ k (fun H' e' => q H' σ (Same.trans k.h0 e')) _⟩
theorem pxs_ret (h : PXD K Xs W e γ c) : PXS K Xs W (.Return (some e) pos) γ c := fun H0 S0 S H σ En k q =>
  ⟨tRet (anyE Xs e), fun j => ps_ret (pe_any e j), h H0 S0 S H σ k (fun H' e' => q H' σ (Same.trans k.h0 e')) _⟩
theorem pxs_ifT (hc : PTD K Xs cnd γ true) (ha : PXSs K Xs W sts γ c) : PXS K Xs W (.If cnd sts sts' pos) γ c := fun H0 S0 S H σ En k q =>
  ⟨_, fun i => ps_if (pt_any cnd i) (pss_any sts i) pss_never, hc H0 S0 S H σ k _ fun S' H' g s => iteT (ha H0 S0 S' H' σ En (k.grow g s) q)⟩
theorem pxs_ifF (hc : PTD K Xs cnd γ false) (ha : PXSs K Xs W sts' γ c) : PXS K Xs W (.If cnd sts sts' pos) γ c := fun H0 S0 S H σ En k q =>
  ⟨_, fun i => ps_if (pt_any cnd i) pss_never (pss_any sts' i), hc H0 S0 S H σ k _ fun S' H' g s => iteF (ha H0 S0 S' H' σ En (k.grow g s) q)⟩
theorem pxss_here (h : PXS K Xs W st γ c) : PXSs K Xs W (st :: sts) γ c := fun H0 S0 S H σ En k q =>
  ⟨tSeq (anyS Xs st) tNever, fun i => pss_cons (ps_any st i) pss_never, h H0 S0 S H σ { En with nx := tNever En } k q⟩
theorem pxss_cons (h1 : PSD K Xs st γ (.nx γ1)) (h2 : PXSs K Xs W sts γ1 c) : PXSs K Xs W (st :: sts) γ c := fun H0 S0 S H σ En k q =>
  ⟨tSeq (anyS Xs st) (anySs Xs sts), fun i => pss_cons (ps_any st i) (pss_any sts i), h1 H0 S0 S H σ { En with nx := anySs Xs sts En } k fun S1 H1 σ1 k1 => h2 H0 S0 S1 H1 σ1 En k1 q⟩
theorem pxss_ifF (hc : PTD K Xs cnd γ false) (h : PXSs K Xs W sts' γ c) : PXSs K Xs W (.If cnd sts [] pos :: sts') γ c := pxss_cons (psd_ifF hc pssd_nil) h
end
abbrev bodyE (P : Program) (w : World) (K : PySem.W.Frag) (mg : Str → Option Value) (base : Heap) (N : List Str) (qual : Str) (scope : Scope) (f : Addr) (cdv : Value) (A : Around) (outer : List Env) (s : Shared) (H : Hp) (E : XK) : Unit → Cx := fun _ => cxOf (L2N.CX P w) P w K mg base N qual scope f cdv A outer s H E
/-- a def's promise by its body -/
theorem fnx_data {P : Program} {w : World} {K : PySem.W.Frag} {mg : Str → Option Value} {base : Heap} {k : Nat} {x qual : Str} {params : Arguments} {body : List Stmt} {scope : Scope} {dvs : List V} {kws : List (Str × V)} {f : Addr} {fd : FuncData} {N ps : List Str} {Pr : List D → Str → Prop} (F : FunD K x qual params body scope dvs kws f fd) (Sc : FnScope N ps scope) (len : ∀ ds c, Pr ds c → ds.length = ps.length)
    (h : ∀ (cdv : Value) (A : Around) (outer : List Env) (s : Shared) (H : Hp) (E : XK), Fx (bodyE P w K mg base N qual scope f cdv A outer s H E) P w K mg base N k → (∀ i, L2N.Takes (bodyE P w K mg base N qual scope f cdv A outer s H E i) (fun cls d _ H => E cls d H)) → ∀ ds c, Pr ds c → PXSs K (bodyE P w K mg base N qual scope f cdv A outer s H E) (fun cls d _ H => E cls d H) body (γ0 N ds) c) : FnOk P w K mg base (L2N.CX P w) (k + 1) f fd ps (spX K Pr) := by
  refine F.ok Sc (fun vs H Q E ⟨S, ds, c, _, hd, hp, _⟩ => hd.length.trans (len ds c hp)) fun cdv A outer s H vs Q E hr ⟨S, ds, c, hs, hd, hp, q⟩ => ?_
  have fx : Fx (bodyE P w K mg base N qual scope f cdv A outer s H E) P w K mg base N k := ⟨fun _ => rfl, fun _ => rfl, fun _ => rfl, fun _ => rfl, fun _ => rfl, fun _ => rfl, Sc.nd, fun _ => rfl, fun _ => hr⟩
  have hpl : ds.length ≤ N.length := by
    have h1 := congrArg List.length Sc.pre
    rw [List.length_take] at h1
    have h2 := len ds c hp
    omega
  exact ⟨_, pss_any (Xs := bodyE P w K mg base N qual scope f cdv A outer s H E) body (), h cdv A outer s H E fx (fun i => L2N.takes_of rfl rfl rfl rfl) ds c hp H S S H _ _ (ok_start hs hd hpl) fun H' σ' e => q H' e⟩
end Wd
set_option Elab.async false
set_option linter.all false
set_option maxRecDepth 100000
set_option maxHeartbeats 1000000
/-! An __init__ that raises; isinstance of any plain data. -/
namespace Wd
open PySem PySem.Spec L2
open PyProof.Rows hiding St
/-- the promise of an __init__ that raises -/
def spXI (K : PySem.W.Frag) (C : Str) (Pr : List D → Str → Prop) : Sp := fun vs H _ E => ∃ (S : Hp) (x dx : Addr) (us : List V) (ds : List D) (c : Str), vs = .ref x :: us ∧ Sub S H ∧ S x = none ∧ H x = some (.ins (He.ga K C) dx []) ∧ Dats K S us ds ∧ Pr ds c ∧
  ∀ H', (∀ b o, H b = some o → b ≠ x → H' b = some o) → E (.ref (He.ga K c)) none H'
section
variable {ι : Type} {Xs : ι → Cx} {P : Program} {w : World} {K : PySem.W.Frag} {mg : Str → Option Value} {base : Heap} {N : List Str} {k j : Nat} {γ : Gm} {ds dd : List D} {e : Expr} {es : List Expr} {pos p : Pos} {x c : Str} {f : Addr} {fd : FuncData} {ps : List Str} {Pr : List D → Str → Prop} {E : XK} {dvs : List V} {dus : List Value}
/-- C(..) whose __init__ raises -/
theorem pxd_make (fx : Fx Xs P w K mg base N k) (tk : ∀ i, L2N.Takes (Xs i) fun cls d _ H => E cls d H) {C : Str} (M : Mk K (He.ga K C) f) (G : FnOk P w K mg base (L2N.CX P w) j f fd ps (spXI K C Pr)) (hm : mg x = some (.ref (He.ga K C))) (B : Binds K fd ps dus) (hv : Vals dvs dus) (hd : ∀ S, Dats K S dvs dd)
    (ha : PAD K Xs (e :: es) γ ds) (h : Pr (ds ++ dd) c) (hj : j + 1 ≤ k := by decide) (hg : ∀ i, Gl (Xs i) x := by exact fun _ => rfl) (hdb : (x == ("__debug__" : Str)) = false := by decide)
    (he : ∀ i, starEach (e :: es) (Xs i).env = (false, eval e (Xs i).env) :: starEach es (Xs i).env := by exact fun _ => rfl) (hpl : ∀ i, (backTo pos (starEach es (Xs i).env)).any (·.1) = false := by exact fun _ => rfl) : PXD K Xs (fun cls d _ H => E cls d H) (.Call (.Name x p) (e :: es) [] pos) γ c := fun H0 S0 S H σ k q Q => by
  refine ⟨tMake (He.ga K C) (spXI K C Pr) dvs E (anyA Xs (e :: es)), fun i => ?_, ?_⟩
  · have hK := fx.hK i
    have pa : Passes (L2N.CX P w) (Xs i) E := by
      have z := L2N.passes_call (E := E) (tk i) (fun _ _ _ _ h => h)
      rw [fx.hP i, fx.hw i] at z
      exact z
    have G' := G
    exact pe_make (by rw [hK]; exact M) (by rw [fx.hP i, fx.hw i, hK, fx.hmg i, fx.hb i]; exact G') ((fx.room i).mono hj) (hg i) (by rw [fx.hmg i]; exact hm) (fx.binds B i) hv pa (pa_any (e :: es) i) hdb (he i) (hpl i)
  · exact ha H0 S0 S H σ k _ fun vs S1 H1 g1 s1 r1 y dx hy hdx hne => by
      have e1 : Ex H1 (upd H1 dx (.own y)) := Ex.new hdx
      have hy2 : (upd H1 dx (.own y)) y = none := by rw [upd_ne (fun z => hne z.symm)]; exact hy
      have e2 : Ex H1 (upd (upd H1 dx (.own y)) y (.ins (He.ga K C) dx [])) := Same.trans e1 (Ex.new hy2)
      exact ⟨S1, y, dx, _, ds ++ dd, c, rfl, s1.ex e2, s1.out hy, upd_same, r1.append (hd S1), h, fun H' keep => q H' fun b o hb => keep b o (e2 b o (g1.hh b o hb)) (fun z => by subst z; rw [g1.hh _ _ hb] at hy; cases hy)⟩
end
/-- an __init__'s promise by its body -/
theorem initx_data {P : Program} {w : World} {K : PySem.W.Frag} {mg : Str → Option Value} {base : Heap} {k : Nat} {x qual : Str} {params : Arguments} {body : List Stmt} {scope : Scope} {dvs : List V} {kws : List (Str × V)} {f : Addr} {fd : FuncData} {n0 : Str} {N ps : List Str} {C : Str} {Pr : List D → Str → Prop} (F : FunD K x qual params body scope dvs kws f fd) (Sc : FnScope (n0 :: N) ps scope) (len : ∀ ds c, Pr ds c → ds.length + 1 = ps.length)
    (h : ∀ (cdv : Value) (A : Around) (outer : List Env) (s : Shared) (H : Hp) (E : XK), Fx (bodyE P w K mg base (n0 :: N) qual scope f cdv A outer s H E) P w K mg base (n0 :: N) k → (∀ i, L2N.Takes (bodyE P w K mg base (n0 :: N) qual scope f cdv A outer s H E i) (fun cls d _ H => E cls d H)) → ∀ ds c, Pr ds c → PXSs K (bodyE P w K mg base (n0 :: N) qual scope f cdv A outer s H E) (fun cls d _ H => E cls d H) body (.un :: γ0 N ds) c) : FnOk P w K mg base (L2N.CX P w) (k + 1) f fd ps (spXI K C Pr) := by
  refine F.ok Sc (fun vs H Q E ⟨S, y, dx, us, ds, c, e, _, _, _, hd, hp, _⟩ => by rw [e, List.length_cons, hd.length]; exact len ds c hp) fun cdv A outer s H vs Q E hr ⟨S, y, dx, us, ds, c, e, hs, hSy, hHy, hd, hp, q⟩ => ?_
  subst e
  have fx : Fx (bodyE P w K mg base (n0 :: N) qual scope f cdv A outer s H E) P w K mg base (n0 :: N) k := ⟨fun _ => rfl, fun _ => rfl, fun _ => rfl, fun _ => rfl, fun _ => rfl, fun _ => rfl, Sc.nd, fun _ => rfl, fun _ => hr⟩
  have hpl : ds.length ≤ N.length := by
    have h1 := congrArg List.length Sc.pre
    rw [List.length_take, List.length_cons] at h1
    have h2 := len ds c hp
    omega
  have z := ok_start (K := K) (N := N) (H := H) hs hd hpl
  have no : ∀ (i : Nat) (d : D), (γ0 N ds)[i]? ≠ some (.ow d) := fun i d ht' => by
    unfold γ0 at ht'
    by_cases h1 : i < ds.length
    · rw [List.getElem?_append_left (by rw [List.length_map]; exact h1), List.getElem?_map] at ht'
      cases e : ds[i]? with
      | none => rw [e] at ht'; cases ht'
      | some d => rw [e] at ht'; cases ht'
    · rw [List.getElem?_append_right (by rw [List.length_map]; omega), List.getElem?_replicate] at ht'
      split at ht' <;> cases ht'
  have k0 : Ok K H S S H (some (.ref y) :: L2.start N us) (.un :: γ0 N ds) := by
    refine ⟨Same.refl _, Same.refl _, hs, fun b o h n => (by rw [n] at h; cases h), by rw [List.length_cons, List.length_cons, z.len], fun i t ht => ?_, fun i j d e l hi hj _ _ => ?_⟩
    · cases i with
      | zero => cases ht; trivial
      | succ i =>
        have q := z.en i t ht
        cases t with
        | un => trivial
        | tw _ _ => trivial
        | sh d => exact q
        | ow d => exact absurd ht (no i d)
    · cases i with
      | zero => cases hi
      | succ i => exact absurd hi (no i d)
  have est : L2.start (n0 :: N) (.ref y :: us) = some (.ref y) :: L2.start N us := by
    unfold L2.start
    simp
  refine ⟨_, pss_any (Xs := bodyE P w K mg base (n0 :: N) qual scope f cdv A outer s H E) body (), ?_⟩
  rw [est]
  exact h cdv A outer s H E fx (fun i => L2N.takes_of rfl rfl rfl rfl) ds c hp H S S H _ _ k0 fun H' σ' e => q H' fun b o hb _ => e b o hb
/-! isinstance of plain data -/
def isStrD : D → Bool
  | .str _ => true
  | _ => false
def isIntD : D → Bool
  | .int _ => true
  | .bl _ => true
  | _ => false
def isBlD : D → Bool
  | .bl _ => true
  | _ => false
def isLstD : D → Bool
  | .lst _ => true
  | _ => false
def isTupD : D → Bool
  | .tup _ => true
  | _ => false
theorem isi_tStr {K : PySem.W.Frag} {d : D} (h : (tyN d).isSome = true) : IsiD K d (.ty "str") (isStrD d) := by
  cases d <;> first | exact .one (.bt rfl) rfl rfl | cases h
theorem isi_tInt {K : PySem.W.Frag} {d : D} (h : (tyN d).isSome = true) : IsiD K d (.ty "int") (isIntD d) := by
  cases d <;> first | exact .one (.bt rfl) rfl rfl | cases h
theorem isi_tBl {K : PySem.W.Frag} {d : D} (h : (tyN d).isSome = true) : IsiD K d (.ty "bool") (isBlD d) := by
  cases d <;> first | exact .one (.bt rfl) rfl rfl | cases h
theorem isi_tLst {K : PySem.W.Frag} {d : D} (h : (tyN d).isSome = true) : IsiD K d (.ty "list") (isLstD d) := by
  cases d <;> first | exact .one (.bt rfl) rfl rfl | cases h
theorem isi_tTup {K : PySem.W.Frag} {d : D} (h : (tyN d).isSome = true) : IsiD K d (.ty "tuple") (isTupD d) := by
  cases d <;> first | exact .one (.bt rfl) rfl rfl | cases h
end Wd

set_option Elab.async false
set_option linter.all false
set_option maxRecDepth 100000
set_option maxHeartbeats 1000000
/-! An own exception's __init__ that says super().__init__('..') and stores one field. -/
namespace Wd
open PySem PySem.Spec L2
open PyProof.Rows hiding St
section
variable {X : Cx} {A : Around} {pins : List (Addr × Obj)} {σ : L2.St} {H : Hp} {s : Shared} {a C u : Addr} {E : Value → Shared → Prop}
/-- the bound ValueError.__init__ called -/
theorem call_mw {us : List Value} {Q : Value → Shared → Prop} (T : OexC X.K C) (I : Inv X pins σ H s) (e : H a = some (exo a C none)) (hu : s.heap.get? u = some (PySem.W.kxs_mw "ValueError.__init__" a)) (hl : us.length ≤ sizeLine) (h : ∀ s', Inv X pins σ H s' → Q .none s') :
    wpAny (model X.prog X.w) A (call (.ref u) us) Q E s := by
  obtain ⟨nm, q, N, bs, bm, sn, sub, ab, col, dd, k0, k1, k2, k3, k5, hC, hbm⟩ := T.cls
  obtain ⟨t1, ho⟩ := exo_at I.hok e
  obtain ⟨hp, g, d, t, os⟩ := s
  refine wpAny_call (codeAny_of_tree ?_)
  show wpAny _ A.in1 (callAny (.ref u) ⟨us, []⟩) _ _ _
  simp only [callAny]
  refine wpAny_bind (wpAny_load hu ?_)
  simp only [PySem.W.kxs_mw, show (Value.type "method-wrapper" == Value.type "method" || Value.type "method-wrapper" == Value.type "builtin_function_or_method" || Value.type "method-wrapper" == Value.type "method-wrapper") = true by decide, if_true]
  refine PySem.W.KFB.if_so (by decide) ?_
  refine wpAny_bind (PySem.W.check_bound_init F.excBase_ValueError.toExcCallFacts (I.kIn _ _ hC) ho rfl ?_)
  refine wpAny_bind (wpAny_pure (wpAny_pure ?_))
  refine ⟨plainId_quiet F.excBase_ValueError.init.plain _, codeAny_builtin F.excBase_ValueError.initEntry ?_⟩
  refine PySem.W.exc_init_tree (cls := .ref C) (t0 := t1) (dv := none) (c2 := .none) (c3 := .none) (b4 := .bool false) ho hl fun h' k hx _ => ?_
  have J := I.write (t' := t) (x := a) (e := a) (o := exo a C none) (by rw [e]; exact True.intro) (.inl rfl) k ⟨_, hx⟩ (exo_ok hx)
  have eu : upd H a (exo a C none) = H := by
    funext b
    by_cases hb : b = a
    · rw [hb, upd_same, e]
    · rw [upd_ne hb]
  rw [eu] at J
  exact h _ J
end
/-- what the head says of the __init__: its function, code, class cell -/
structure SupF (K : PySem.W.Frag) (C f : Addr) (fd : FuncData) (qual : Str) (params : Arguments) (body : List Stmt) (scope : Scope) (file : Str) : Prop where
  fn : ∃ (oc : Value) (od : Option Addr) (dV kV doc pm : Value) (an : Option Addr) (cda cc : Addr) (ct : Value) (osl : Array (Option Value)),
    fd = PySem.W.ksFn "__init__" qual params body scope dV kV doc pm an (.ref cda) ct cc ∧ K.lookup f = some ⟨oc, od, .func fd, osl⟩ ∧ PySem.W.codeIn K (.ref cda) qual = true ∧ dV = .none ∧
    (∃ ccl cdd vs ccs tf, K.lookup cda = some ⟨ccl, cdd, .fields vs, ccs⟩ ∧ vs[2]? = some (.str file tf)) ∧ ∃ cl cld csl, K.lookup cc = some ⟨cl, cld, .cell (some (.ref C)), csl⟩
  ox : OexC K C
  sub : PySem.W.mroIn K C (.ref C) = some true
  sup : PySem.W.ks_superIn K C C "__init__" = some (some (.builtin "ValueError.__init__"))
  ve : PySem.W.subIn K (.ref C) (.type "ValueError") = some true
  op : PySem.W.nsIn K cStatics "thirdparty.any" = some none
/-- what is asked of the program's own file -/
structure SupP (P : Program) (file : Str) : Prop where
  file : ((P.main.file : Str) == file) = true
  top : (P.main.scope.names.lookup ("super" : Str)).isSome = false
section
variable {P : Program} {w : World} {K : PySem.W.Frag} {mg : Str → Option Value} {base : Heap} {N ps : List Str} {sp : Sp} {C f : Addr} {fd : FuncData} {qual : Str} {params : Arguments} {body rest : List Stmt} {scope : Scope} {file : Str} {k : Nat} {p0 p1 p2 p3 p4 p5 : Pos} {m : Str} {jj : Nat} {ar : Arg} {pr : List Str}
/-- super().__init__('..') run, then the rest -/
theorem sup_core {X : Cx} {σ : L2.St} {H : Hp} {s : Shared} {a cda cc : Addr} {od : Option Addr} {oc : Value} {osl : Array (Option Value)} {ml : Str → Option Value} {Q : Flow → Shared → Prop}
    (lk : X.K.lookup f = some ⟨oc, od, .func fd, osl⟩) (hfp : (fd.params.posonlyargs ++ fd.params.args).head? = some ar)
    (hcode : ∃ ccl cdd vs ccs tf, X.K.lookup cda = some ⟨ccl, cdd, .fields vs, ccs⟩ ∧ vs[2]? = some (.str file tf)) (hcell : ∃ cl cld csl, X.K.lookup cc = some ⟨cl, cld, .cell (some (.ref C)), csl⟩)
    (ox : OexC X.K C) (sub : PySem.W.mroIn X.K C (.ref C) = some true) (hsup : PySem.W.ks_superIn X.K C C "__init__" = some (some (.builtin "ValueError.__init__"))) (ve : PySem.W.subIn X.K (.ref C) (.type "ValueError") = some true) (op : PySem.W.nsIn X.K cStatics "thirdparty.any" = some none)
    (SP : SupP X.prog file) (hmg : X.mg "super" = none) (hfu : X.env.func = some f) (hco : X.env.code = .ref cda) (hce : X.env.cells.lookup ("__class__" : Str) = some cc)
    (hks : X.env.scope.names.lookup ("super" : Str) = some .globalImplicit) (hkc : X.env.scope.names.lookup ("__class__" : Str) = some .free) (hka : X.env.scope.names.lookup ar.arg = some .local)
    (I0 : Inv X [] σ H s) (hns : s.heap.Ns X.env.locals ml) (hv : ml ar.arg = some (.ref a)) (ha : H a = some (exo a C none))
    (he : eval (.Call (.Attribute (.Call (.Name "super" p0) [] [] p1) "__init__" p2) [.Constant (.str m) jj p3] [] p4) X.env = (do
      let ov ← attributeBase (.Call (.Name "super" p0) [] [] p1) "__init__" X.env (eval (.Call (.Name "super" p0) [] [] p1) X.env)
      standAt p2.atName
      let (f, first) ← holding [ov] (getMethod ov "__init__" (pure false))
      callWith p4 f first (backTo p4 (starEach [.Constant (.str m) jj p3] X.env)) []))
    (hss : starEach [.Constant (.str m) jj p3] X.env = [(false, eval (.Constant (.str m) jj p3) X.env)])
    (hs : swapsWith (.Call (.Attribute (.Call (.Name "super" p0) [] [] p1) "__init__" p2) [.Constant (.str m) jj p3] [] p4) none p5.line X.env = pure false)
    (h2 : ∀ s5, Inv X [] σ H s5 → wpAny (model X.prog X.w) X.A (execs rest X.env) Q X.xe s5) :
    PySem.wpAt (model X.prog X.w) X.A (.func body X.env) (execs (.Expr (.Call (.Attribute (.Call (.Name "super" p0) [] [] p1) "__init__" p2) [.Constant (.str m) jj p3] [] p4) p5 :: rest) X.env) Q X.xe s := by
  obtain ⟨ccl, cdd, cvs, ccs, tf, hcode, hvs⟩ := hcode
  obtain ⟨cl, cld, csl, hcell⟩ := hcell
  have hi : interactive X.env = false := by
    unfold interactive
    simp [I0.ok.kind]
  have KX0 : X.K.In s.heap := I0.kIn
  obtain ⟨t1, ho⟩ := exo_at I0.hok ha
  obtain ⟨nm, q, Nn, bs, bm, sn, sub', ab, col, dd, k0, k1, k2, k3, k5, hC, hbm⟩ := ox.cls
  have hcl : PySem.W.clsIn X.K C = some { name := nm, bases := bs, mro := .ref C :: bm, ns := Nn, qualname := q, hasDict := true, slotNames := sn, subclasses := sub', abstract := ab, collection := col, hasDel := false } := by unfold PySem.W.clsIn; rw [hC] <;> rfl
  unfold PySem.W.ks_superIn at hsup
  rw [hcl] at hsup
  obtain ⟨mb, hb1, hb2⟩ := I0.mod.blt
  have kb := I0.bk
  refine PySem.ks_wpAt_execs_cons (PySem.ks_wpAt_Expr_any (PySem.ks_wpAt_MethodCall (pl := pure false) ?_ he) hi hs)
  refine PySem.ks_wpAt_super_base (cc := cda) hks hkc rfl hfu (KX0 _ _ lk) rfl hfp hco (KX0 _ _ hcode) rfl hvs SP.file SP.top ?_
  refine PySem.W.ks_loadName_global I0.ok.kind hks (Calls.loadGlobal_builtin (by rw [I0.ok.glob]; exact I0.mod.glob.keeps kb) hmg (by rw [I0.ok.blt]; exact hb1.keeps kb) ((hb2 _ (by decide)).trans (by decide +kernel : bootBuiltins "super" = some (.type "super"))) ⟨rfl, ?_⟩)
  refine wpAny_loadName_free I0.ok.kind hkc hce ⟨_, KX0 _ _ hcell, rfl⟩ ?_
  refine wpAny_loadName_local I0.ok.kind hka hns hv ?_
  refine PySem.ks_wpAny_isType_cls (KX0 _ _ hC) rfl ⟨rfl, ?_⟩
  refine PySem.ks_wpAny_call_super (KX0 _ _ hC) rfl ho rfl (fun c e => by cases e) (PySem.W.looks_mroIn KX0 sub) (fun h1 e1 k1 => ?_)
  have I1 : Inv X [] σ H { s with heap := h1, toks := s.toks } := I0.kept k1
  have ho1 : h1.get? a = some ({ cls := .ref C, dict := none, data := .fields #[.ref t1, .none, .none, .none, .bool false, .none] } : Obj) := k1 _ _ ho
  have hIn : PySem.W.Looks (model X.prog X.w) h1 (isInstance (.ref a) (.type "ValueError")) true := (show PySem.W.InstAt h1 a _ C none from ⟨ho1, rfl, rfl, trivial⟩).type.andThen (PySem.W.looks_subIn I1.kIn ve)
  have hxC : a ≠ C := fun z => by
    have y := k1 _ _ (KX0 _ _ hC)
    rw [← z, ho1] at y
    cases y
  refine PySem.W.kxs_getMethod (g := s.gens) (d := s.drawn) (os := s.os) PySem.W.kxs_ValueError e1 (PySem.W.looks_opaque I1.kIn op) (l₀ := .ref C :: bm) ?_ rfl I1.kIn hsup hIn hxC rfl ?_
  · exact fun A Q E s k q => wpAny_bind ((PySem.W.looks_clsIn I1.kIn hcl) A _ E s k (wpAny_pure q))
  have k2 : ∀ b o, h1.get? b = some o → (h1.push (PySem.W.kxs_mw "ValueError.__init__" a)).get? b = some o := fun b o e => Heap.get?_push_of_some _ e
  have hu : (h1.push (PySem.W.kxs_mw "ValueError.__init__" a)).get? h1.objs.size = some (PySem.W.kxs_mw "ValueError.__init__" a) := Heap.get?_push_at rfl rfl
  have I2 : Inv X [] σ H { s with heap := h1.push (PySem.W.kxs_mw "ValueError.__init__" a), toks := s.toks + 1 } := I1.kept k2
  have I3 : Inv X [(h1.objs.size, PySem.W.kxs_mw "ValueError.__init__" a)] σ H { s with heap := h1.push (PySem.W.kxs_mw "ValueError.__init__" a), toks := s.toks + 1 } := I2.pins_of fun p hp => by
    obtain rfl := List.mem_singleton.mp hp
    refine ⟨hu, I1.hok.fresh (Nat.le_refl _), fun z => ?_, fun z => ?_, fun v z => by cases z⟩
    · obtain ⟨oL, es, ep, e2, _⟩ := hns
      have y := Heap.lt_size (k1 _ _ e2)
      exact absurd y (by rw [show h1.objs.size = X.env.locals from z]; exact Nat.lt_irrefl _)
    · obtain ⟨_, o, e2, _⟩ := I1.ok.funs.mem z
      obtain ⟨o', e3⟩ := I1.base.there _ _ e2 (fun y => absurd z (I1.ok.exfs _ y))
      exact absurd (Heap.lt_size (show h1.get? h1.objs.size = some o' from e3)) (Nat.lt_irrefl _)
  refine PySem.W.kxs_callWith (i := "ValueError.__init__") (x := a) (by rw [hss]; rfl) (by
    rw [hss]
    refine PySem.Calls.evalArgs_plain ?_
    have PAc : PA X [.Constant (.str m) jj p3] (tCons (tC (.str m)) tNil) := pa_cons pe_str pa_nil hss
    have z := PAc.run p4 _ _ _ H (fun vs H' => vs = [.str m] ∧ H = H') I3 ⟨rfl, rfl⟩
    rw [hss] at z
    refine wpAny_mono z (fun xs s4 ⟨vs, H4, I4, rx, ev, eH⟩ => ?_) fun _ _ x => x
    subst ev eH
    refine ⟨(I4.pin _ (List.mem_append_right _ List.mem_cons_self)).1, ?_⟩
    have hlx : xs.length ≤ sizeLine := by rw [← Paired.length rx, sizeLine_eq]; exact Nat.le_of_ble_eq_true rfl
    refine call_mw ox (I4.pins_of (pins' := []) fun p hp => absurd hp (by simp)) ha (I4.pin _ (List.mem_append_right _ List.mem_cons_self)).1 hlx fun s5 I5 => ?_
    exact wpAt_of_wpAny (h2 s5 I5))
theorem cells_sup {s : Shared} {H : Hp} {A : Around} {outer : List Env} {cc : Addr} {cl : Value} {cld : Option Addr} {csl : Array (Option Value)} (e0 : Env0 P w K mg base A outer s H) (hcell : K.lookup cc = some ⟨cl, cld, .cell (some (.ref C)), csl⟩) : NdefX.CellsAt [("__class__", cc)] ["__class__"] [some (.ref C)] s.heap H := by
  have KX : K.In s.heap := e0.mod.kin.keeps fun b o e => (e0.bs b o e).1
  have one : ∀ (y : Str) (c : Addr), ([("__class__", cc)] : List (Str × Addr)).lookup y = some c → y = "__class__" ∧ c = cc := fun y c e => by
    by_cases h : y = "__class__"
    · subst h
      have e2 : some cc = some c := e
      cases e2
      exact ⟨rfl, rfl⟩
    · have e2 : (y == ("__class__" : Str)) = false := by simpa using h
      simp [List.lookup, e2] at e
  refine ⟨rfl, fun y c e => ?_, fun x y c e1 e2 => (one x c e1).1.trans (one y c e2).1.symm, fun i y e => ?_⟩
  · obtain ⟨_, rfl⟩ := one y c e
    exact ⟨(e0.bs _ _ (e0.mod.kin _ _ hcell)).2, some (.ref C), _, KX _ _ hcell, rfl⟩
  · match i, e with
    | 0, e =>
      cases e
      refine ⟨cc, rfl, fun v hv => ?_⟩
      cases hv
      exact ⟨.ref C, rfl, _, KX _ _ hcell, rfl⟩
    | _ + 1, e => simp at e
abbrev supNF (qual : Str) (params : Arguments) (body : List Stmt) (scope : Scope) (cda cc : Addr) : NdefX.NF := ⟨"__init__", qual, params, body, scope, [("__class__", cc)], cda⟩
theorem okSup (SF : SupF K C f fd qual params (.Expr (.Call (.Attribute (.Call (.Name "super" p0) [] [] p1) "__init__" p2) [.Constant (.str m) jj p3] [] p4) p5 :: rest) scope file) (SP : SupP P file)
    (S : NdefX.NScope N ps ["__class__"] scope) (hmg : mg "super" = none) (hks : scope.names.lookup ("super" : Str) = some .globalImplicit) (hkc : scope.names.lookup ("__class__" : Str) = some .free) (hp0 : (params.posonlyargs ++ params.args).head? = some ar) (hps : ps = ar.arg :: pr) (hnd : ps.Nodup)
    (len : ∀ vs H Q E, sp vs H Q E → vs.length = ps.length) (hsp : ∀ vs H Q E, sp vs H Q E → ∃ a us, vs = .ref a :: us ∧ H a = some (exo a C none))
    (he : ∀ env : Env, eval (.Call (.Attribute (.Call (.Name "super" p0) [] [] p1) "__init__" p2) [.Constant (.str m) jj p3] [] p4) env = (do
      let ov ← attributeBase (.Call (.Name "super" p0) [] [] p1) "__init__" env (eval (.Call (.Name "super" p0) [] [] p1) env)
      standAt p2.atName
      let (f, first) ← holding [ov] (getMethod ov "__init__" (pure false))
      callWith p4 f first (backTo p4 (starEach [.Constant (.str m) jj p3] env)) []) := by exact fun _ => rfl)
    (hss : ∀ env : Env, starEach [.Constant (.str m) jj p3] env = [(false, eval (.Constant (.str m) jj p3) env)] := by exact fun _ => rfl)
    (hs : ∀ env : Env, swapsWith (.Call (.Attribute (.Call (.Name "super" p0) [] [] p1) "__init__" p2) [.Constant (.str m) jj p3] [] p4) none p5.line env = pure false := by exact fun _ => rfl)
    (h2 : ∀ (F : NdefX.NF) (L : Addr) (H : Hp) (vs : List V) (Q : VK) (E : XK), F.scope = scope → sp vs H Q E →
      ∀ X : Cx, X.K = K → X.N = N → X.env = NdefX.envF F f L → ∃ t, PSs X rest t ∧ t { nx := fun _ H' => Q .non H', rt := Q } (NdefX.startF N vs [some (.ref C)]) H) : FnOk P w K mg base (L2.CX P w) (k + 1) f fd ps sp ∧ L2H.FnH P w K mg base (L2.CX P w) (k + 1) f fd ps sp := by
  have body : ∀ (A : Around) (outer : List Env) (s : Shared) (H : Hp) (args : Args) (us : List Value) (vs : List V) (Q : VK) (E : XK), A.depth < recursionLimit → Env0 P w K mg base A outer s H → BindsTo s fd args (ps.zip us) → Vals vs us → sp vs H Q E →
      (∀ (cda cc : Addr) (h₀ : Heap) (tk : Nat), SupF K C f fd qual params (.Expr (.Call (.Attribute (.Call (.Name "super" p0) [] [] p1) "__init__" p2) [.Constant (.str m) jj p3] [] p4) p5 :: rest) scope file → (NdefX.CellsAt [("__class__", cc)] ["__class__"] [some (.ref C)] s.heap H) → h₀.Ns s.heap.objs.size (fun y => (ps.zip us).reverse.lookup y) → (∀ b o, s.heap.get? b = some o → h₀.get? b = some o) →
        ∃ X : Cx, X.prog = P ∧ X.w = w ∧ X.K = K ∧ X.mg = mg ∧ X.N = N ∧ X.env = NdefX.envF (supNF qual params (.Expr (.Call (.Attribute (.Call (.Name "super" p0) [] [] p1) "__init__" p2) [.Constant (.str m) jj p3] [] p4) p5 :: rest) scope cda cc) f s.heap.objs.size ∧ X.outer = outer ∧ X.H_0 = H ∧ X.s_0 = s ∧ X.ex = [] ∧ X.A = A.deeper (NdefX.envF (supNF qual params (.Expr (.Call (.Attribute (.Call (.Name "super" p0) [] [] p1) "__init__" p2) [.Constant (.str m) jj p3] [] p4) p5 :: rest) scope cda cc) f s.heap.objs.size) ∧
          X.xe = (fun e s' => wpAny (model P w) X.A (leaving X.env e) (fun _ s'' => CR (L2.CX P w) outer P w H s Q E (.error e) s'') (fun e' s'' => CR (L2.CX P w) outer P w H s Q E (.error e') s'') s') ∧
          Inv X [] (NdefX.startF N vs [some (.ref C)]) H { s with heap := h₀, toks := tk }) →
      codeAny (model P w) A (.call (.ref f) args) (CR (L2.CX P w) outer P w H s Q E) s := by
    intro A outer s H args us vs Q E hd e0 hb r hsp0 mk
    have KX : K.In s.heap := e0.mod.kin.keeps fun b o e => (e0.bs b o e).1
    have lim : s.heap.NoLimit := e0.mod.nolimit.keeps fun b o e => (e0.bs b o e).1
    obtain ⟨oc, od, dV, kV, doc, pm, an, cda, cc, ct, osl, hfd, lk, hcd, _, hcode, cl, cld, csl, hcell⟩ := SF.fn
    obtain ⟨a, us', rfl, ha⟩ := hsp _ _ _ _ hsp0
    subst hfd
    have hv : (ps.zip us).reverse.lookup ar.arg = some (.ref a) := by
      cases r with
      | @cons _ u0 _ ur ra rw' =>
        obtain rfl : u0 = Value.ref a := ra
        exact NdefX.zip_look (i := 0) hnd (by rw [hps]; rfl) rfl
    refine PySem.ks_codeAny_call_defAt (binds := ps.zip us) hd (KX _ _ lk) rfl lim (PySem.W.codeRec_of KX hcd) rfl hb S.nocell (fun ⟨n, _⟩ hy => S.par n (List.of_mem_zip hy).1) (fun h₀ hns kp => ?_) S.co S.gen S.kind
    obtain ⟨X, rfl, rfl, rfl, rfl, rfl, eenv, eo, eh, es, eex, eA, exe, I⟩ := mk cda cc h₀ (s.toks + (ps.zip us).length) SF (cells_sup e0 hcell) hns kp
    have hsc : X.env.scope = scope := by rw [eenv]
    have z := sup_core (X := X) (body := .Expr (.Call (.Attribute (.Call (.Name "super" p0) [] [] p1) "__init__" p2) [.Constant (.str m) jj p3] [] p4) p5 :: rest) (Q := fun fl s' => CR (L2.CX X.prog X.w) outer X.prog X.w H s Q E (.ok (.ret (match fl with | .ret v => v | _ => .none))) s') lk hp0 hcode ⟨_, _, _, hcell⟩ SF.ox SF.sub SF.sup SF.ve SF.op SP hmg (by rw [eenv]) (by rw [eenv]) (by rw [eenv]; rfl) (by rw [hsc]; exact hks) (by rw [hsc]; exact hkc) (by rw [hsc]; exact S.par _ (by rw [hps]; exact List.mem_cons_self)) I (by rw [eenv]; exact hns) hv ha (he _) (hss _) (hs _) fun s5 I5 => by
      obtain ⟨t, ht, hq⟩ := h2 _ _ H _ Q E rfl hsp0 X rfl rfl eenv
      refine wpAny_mono (ht.run [] s5 _ H _ I5 hq) (fun fl s' hs => ?_) fun e s' hs => hs
      have fin : ∀ {σ' : L2.St} {H' : Hp} {v : V} {u : Value}, Inv X [] σ' H' s' → L2.RelV v u → Q v H' → CE outer X.prog X.w H s Q u s' :=
        fun {σ' H' v u} J rv q => ⟨v, H', J.os.trans (by rw [es]), J.bare, by have y := J.base; rw [eex, eh, es] at y; rw [← eo]; exact y, J.hok, rv, q⟩
      cases fl with
      | ret u =>
        obtain ⟨v, σ', H', J, rv, q⟩ := hs
        exact fin J rv q
      | next =>
        obtain ⟨σ', H', J, q⟩ := hs
        exact fin (v := V.non) (u := Value.none) J rfl q
      | brk =>
        obtain ⟨_, _, _, q⟩ := hs
        exact False.elim q
      | cont =>
        obtain ⟨_, _, _, q⟩ := hs
        exact False.elim q
    rw [exe, eA, eenv] at z
    exact z
  refine ⟨⟨len, fun A outer s H args us vs Q E hr e0 hb r hsp0 => body A outer s H args us vs Q E hr.depth e0 hb r hsp0 fun cda cc h₀ tk _ hC hns kp => ?_⟩, ⟨len, fun A outer s H args us vs Q E p hr hot hpin e0 hb r hsp0 => body A outer s H args us vs Q E hr.depth e0 hb r hsp0 fun cda cc h₀ tk _ hC hns kp => ?_⟩⟩
  · exact ⟨NdefX.ncx (L2.CX P w) P w K mg base N (supNF qual params _ scope cda cc) f A outer s H E, rfl, rfl, rfl, rfl, rfl, rfl, rfl, rfl, rfl, rfl, rfl, rfl, NdefX.inv_startN S hr.hd e0 (len _ _ _ _ hsp0) r hC hns kp⟩
  · have e1 : Env0 P w K mg base { A with handled := none } outer s H := ⟨e0.frames, e0.mod, e0.bs, e0.bsz, e0.funs, e0.frf, e0.hok, e0.bare⟩
    have I0 := NdefX.inv_startN (CX := L2.CX P w) (F := supNF qual params (.Expr (.Call (.Attribute (.Call (.Name "super" p0) [] [] p1) "__init__" p2) [.Constant (.str m) jj p3] [] p4) p5 :: rest) scope cda cc) (f := f) (E := E) (tk := tk) S rfl e1 (len _ _ _ _ hsp0) r hC hns kp
    refine ⟨{ NdefX.ncx (L2.CX P w) P w K mg base N (supNF qual params _ scope cda cc) f A outer s H E with calm := false, pn := [p] }, rfl, rfl, rfl, rfl, rfl, rfl, rfl, rfl, rfl, rfl, rfl, rfl, ?_⟩
    refine ⟨⟨I0.ok.mod, I0.ok.kind, I0.ok.glob, I0.ok.blt, I0.ok.above, I0.ok.inj, I0.ok.has, I0.ok.cab, (fun z => Bool.noConfusion (show false = true from z)), Around.frames_deeper e0.frames, I0.ok.stk, I0.ok.exf, I0.ok.bs, I0.ok.bsz, I0.ok.noex, I0.ok.exfs, I0.ok.funs, I0.ok.frf⟩, I0.os, I0.bare, I0.base, I0.loc, I0.cell, I0.free, I0.freeC, fun q hq => ?_, I0.hok, I0.len⟩
    have eq : q = p := by simpa using (show q ∈ [p] ++ ([] : List (Addr × Obj)) from hq)
    rw [eq]
    exact ⟨kp p.1 p.2 hpin.get, hpin.free, Nat.ne_of_lt (Heap.lt_size hpin.get), hpin.nofs, hpin.nocell⟩
end
end Wd
set_option Elab.async false
set_option linter.all false
set_option maxRecDepth 100000
set_option maxHeartbeats 1000000
/-! Texts: split, join, removeprefix, str, int, slices, f-strings. -/
namespace Wd
open PySem PySem.Spec L2
open PyProof.Rows hiding St
section
variable {ι : Type} {Xs : ι → Cx} {P : Program} {w : World} {K : PySem.W.Frag} {mg : Str → Option Value} {base : Heap} {N : List Str} {k : Nat} {γ : Gm} {d : D} {ds : List D} {r : Slot} {e a b o : Expr} {es : List Expr} {pos p apos : Pos} {x y z : Str}
theorem dats_strs {S : Hp} : ∀ ys : List Str, Dats K S (ys.map V.str) (ys.map D.str)
  | [] => .nil
  | _ :: ys => .cons .str (dats_strs ys)
theorem pd_split (ho : PED K Xs o γ (.sh (.str x))) (he : PED K Xs e γ (.sh (.str y))) (hy : (y.length == 0) = false) (hx : x.length + 2 ≤ sizeLine) (hs : ∀ i, starEach [e] (Xs i).env = [(false, eval e (Xs i).env)] := by exact fun _ => rfl)
    (hbase : ∀ i, attributeBase o "split" (Xs i).env (eval o (Xs i).env) = eval o (Xs i).env := by exact fun _ => rfl) (hline : (apos.endLine == pos.line) = true := by rfl) : PED K Xs (.Call (.Attribute o "split" apos) [e] [] pos) γ (.ow (.lst ((Txt.split x y).map .str))) :=
  .of (fun i => pe_split (pe_any o i) (pe_any e i) (hs i) (hbase i) hline) fun H0 S0 S H σ k Q q => ho H0 S0 S H σ k _ fun v S1 H1 g1 s1 r1 => by
    cases r1
    refine ⟨⟨x, rfl⟩, he H0 S0 S1 H1 σ (k.grow g1 s1) _ fun v2 S2 H2 g2 s2 r2 => ?_⟩
    cases r2
    exact ⟨x, y, rfl, rfl, hy, hx, fun p hp => new_lst s2 hp (dats_strs _) fun v S' H' g s r => q v S' H' ((g1.trans g2).trans g) s (r.back (Same.trans g1.hh g2.hh))⟩
theorem pd_join {ys : List Str} (ho : PED K Xs o γ (.sh (.str x))) (he : PED K Xs e γ (.sh d)) (hd : IsL d (ys.map .str)) (hl : (ys.map (·.length)).sum + ys.length * x.length ≤ 16777216) (fx : Fx Xs P w K mg base N k) (hs : ∀ i, starEach [e] (Xs i).env = [(false, eval e (Xs i).env)] := by exact fun _ => rfl)
    (hbase : ∀ i, attributeBase o "join" (Xs i).env (eval o (Xs i).env) = eval o (Xs i).env := by exact fun _ => rfl) (hline : (apos.endLine == pos.line) = true := by rfl) : PED K Xs (.Call (.Attribute o "join" apos) [e] [] pos) γ (.sh (.str (Txt.join x ys))) :=
  .of (t := tM1 (fun x xs H Q => ∃ a p, ∃ ys : List Str, x = .str a ∧ xs = [.ref p] ∧ (SqL K H p (ys.map V.str) ∨ SqT K H p (ys.map V.str)) ∧ (ys.map (·.length)).sum + ys.length * a.length ≤ 16777216 ∧ Q (.str (Txt.join a ys)) H) (anyE Xs o) (anyE Xs e)) (fun i => by
    have z := pe_join (X := Xs i) (apos := apos) (pos := pos) (pe_any o i) (pe_any e i) (hs i) (hbase i) hline
    rw [fx.hK i] at z
    exact z) fun H0 S0 S H σ k Q q => ho H0 S0 S H σ k _ fun v S1 H1 g1 s1 r1 => by
    cases r1
    refine ⟨⟨x, rfl⟩, he H0 S0 S1 H1 σ (k.grow g1 s1) _ fun v2 S2 H2 g2 s2 r2 => ?_⟩
    obtain ⟨p, xs, rfl, hq, t⟩ := isL_of hd r2 s2
    have e := Dats.strs t
    subst e
    exact ⟨x, p, ys, rfl, rfl, .inl hq, hl, q _ S2 H2 (g1.trans g2) s2 .str⟩
theorem pd_rmp (ho : PED K Xs o γ (.sh (.str x))) (he : PED K Xs e γ (.sh (.str y))) (hx : x.length ≤ sizeLine) (hs : ∀ i, starEach [e] (Xs i).env = [(false, eval e (Xs i).env)] := by exact fun _ => rfl)
    (hbase : ∀ i, attributeBase o "removeprefix" (Xs i).env (eval o (Xs i).env) = eval o (Xs i).env := by exact fun _ => rfl) (hline : (apos.endLine == pos.line) = true := by rfl) : PED K Xs (.Call (.Attribute o "removeprefix" apos) [e] [] pos) γ (.sh (.str (Txt.removeprefix x y))) :=
  .of (fun i => pe_m1 F.slot_str_removeprefix F.type_str_removeprefix mt_removeprefix (pe_any o i) (pe_any e i) (hs i) (hbase i) hline) fun H0 S0 S H σ k Q q => ho H0 S0 S H σ k _ fun v S1 H1 g1 s1 r1 => by
    cases r1
    refine ⟨⟨x, rfl⟩, he H0 S0 S1 H1 σ (k.grow g1 s1) _ fun v2 S2 H2 g2 s2 r2 => ?_⟩
    cases r2
    exact ⟨x, y, rfl, rfl, hx, q _ S2 H2 (g1.trans g2) s2 .str⟩
theorem pd_strI {i : Int} (fx : Fx Xs P w K mg base N k) (ha : PAD K Xs [e] γ [.int i]) (hm : mg "str" = none) (hi : i.natAbs.log2 < 1920) (hg : ∀ i, Gl (Xs i) "str" := by exact fun _ => rfl) (hp : ∀ i, starEach [e] (Xs i).env = (false, eval e (Xs i).env) :: starEach [] (Xs i).env := by exact fun _ => rfl)
    (hl : ∀ i, (backTo pos (starEach [] (Xs i).env)).any (·.1) = false := by exact fun _ => rfl) : PED K Xs (.Call (.Name "str" p) [e] [] pos) γ (.sh (.str (toString i))) :=
  pd_bty fx (fun _ => call_str_int) hm ha (fun S H xs s h Q q => by
    cases h with
    | cons h t =>
      cases h
      cases t
      exact ⟨i, rfl, hi, here s .str q⟩) (by decide +kernel) hg (by decide) (by decide) hp hl
theorem pd_intS {n : Int} (fx : Fx Xs P w K mg base N k) (ha : PAD K Xs [e] γ [.str x]) (hm : mg "int" = none) (hn : PySem.intText? x = some n) (hx : x.length ≤ 640) (hg : ∀ i, Gl (Xs i) "int" := by exact fun _ => rfl) (hp : ∀ i, starEach [e] (Xs i).env = (false, eval e (Xs i).env) :: starEach [] (Xs i).env := by exact fun _ => rfl)
    (hl : ∀ i, (backTo pos (starEach [] (Xs i).env)).any (·.1) = false := by exact fun _ => rfl) : PED K Xs (.Call (.Name "int" p) [e] [] pos) γ (.sh (.int n)) :=
  pd_bty fx (fun _ => call_int_str) hm ha (fun S H xs s h Q q => by
    cases h with
    | cons h t =>
      cases h
      cases t
      exact ⟨x, n, rfl, hn, hx, here s .int q⟩) (by decide +kernel) hg (by decide) (by decide) hp hl
theorem pd_sliceS {lo hi : Option Expr} {l u : Option Int} {p2 : Pos} (ha : PED K Xs a γ (.sh (.str x))) (hl : POD K Xs lo γ l) (hu : POD K Xs hi γ u) (hx : x.length ≤ sizeLine) : PED K Xs (.Subscript a (.Slice lo hi none p2) pos) γ (.sh (.str (cutS x l u))) :=
  .of (t := tSl rSlS (anyE Xs a) (anyO Xs lo) (anyO Xs hi)) (fun i => pe_slice sl_str (pe_any a i) (po_any lo i) (po_any hi i)) fun H0 S0 S H σ k Q q => ha H0 S0 S H σ k _ fun v S1 H1 g1 s1 r1 => hl H0 S0 S1 H1 σ (k.grow g1 s1) _ fun S2 H2 g2 s2 => hu H0 S0 S2 H2 σ ((k.grow g1 s1).grow g2 s2) _ fun S3 H3 g3 s3 => by
    cases r1
    exact ⟨x, rfl, hx, q _ S3 H3 ((g1.trans g2).trans g3) s3 .str⟩
theorem pd_revL {kk : Nat} {p1 p2 p3 : Pos} (fx : Fx Xs P w K mg base N k) (ha : PED K Xs a γ (.sh d)) (hd : IsL d ds) : PED K Xs (.Subscript a (.Slice none none (some (.UnaryOp .USub (.Constant (.int 1) kk p1) p2)) p3) pos) γ (.ow (.lst ds.reverse)) :=
  .of (t := tRevL K (anyE Xs a)) (fun i => by
    have z := pe_revL (X := Xs i) (k := kk) (p1 := p1) (p2 := p2) (p3 := p3) (pos := pos) (pe_any a i)
    rw [fx.hK i] at z
    exact z) fun H0 S0 S H σ k Q q => ha H0 S0 S H σ k _ fun v S1 H1 g1 s1 r1 => by
    obtain ⟨p, xs, rfl, hq, t⟩ := isL_of hd r1 s1
    have tr : Dats K S1 xs.reverse ds.reverse := by
      have : ∀ {vs : List V} {es : List D}, Dats K S1 vs es → Dats K S1 vs.reverse es.reverse := fun {vs es} h => by
        induction vs generalizing es with
        | nil => cases h; exact .nil
        | cons v vs ih =>
          cases h with
          | cons h t => rw [List.reverse_cons, List.reverse_cons]; exact (ih t).snoc h
      exact this t
    exact ⟨p, xs, rfl, hq, fun p hp => new_lst s1 hp tr fun v S' H' g s r => q v S' H' (g1.trans g) s (r.back g1.hh)⟩
/-! ### f-strings -/
/-- the parts come to these texts -/
inductive PJD (K : PySem.W.Frag) (Xs : ι → Cx) (γ : Gm) : List Expr → List Str → Prop
  | nil : PJD K Xs γ [] []
  | cons {e es x xs} : PED K Xs e γ (.sh (.str x)) → PJD K Xs γ es xs → PJD K Xs γ (e :: es) (x :: xs)
theorem pd_fmtS (h : PED K Xs e γ (.sh (.str x))) (hx : x.length ≤ sizeLine) : PED K Xs (.FormattedValue e (-1) none pos) γ (.sh (.str x)) :=
  .of (fun i => pe_fmt (pe_any e i)) fun H0 S0 S H σ k Q q => h H0 S0 S H σ k _ fun v S1 H1 g1 s1 r1 => by
    cases r1
    exact .inl ⟨x, rfl, hx, q _ S1 H1 g1 s1 .str⟩
theorem pd_fmtI {i : Int} (h : PED K Xs e γ (.sh (.int i))) (hi : i.natAbs.log2 < 1920) : PED K Xs (.FormattedValue e (-1) none pos) γ (.sh (.str (toString i))) :=
  .of (fun i => pe_fmt (pe_any e i)) fun H0 S0 S H σ k Q q => h H0 S0 S H σ k _ fun v S1 H1 g1 s1 r1 => by
    cases r1
    exact .inr ⟨i, rfl, hi, q _ S1 H1 g1 s1 .str⟩
def catS (acc : Str) (xs : List Str) : Str := xs.foldl (· ++ ·) acc
theorem pj_any : ∀ es : List Expr, ∀ i, PJ (Xs i) es (es.map (anyE Xs))
  | [], i => .nil
  | e :: es, i => .cons (pe_any e i) (pj_any es i)
theorem pjd_run : ∀ {es : List Expr} {xs : List Str} (h : PJD K Xs γ es xs) (acc : Str) (hl : (catS acc xs).length ≤ sizeLine) {H0 S0 S H : Hp} {σ : L2.St} (k : Ok K H0 S0 S H σ γ) {Q : Str → Hp → Prop}, (∀ S' H', Gr S H S' H' → Sub S' H' → Q (catS acc xs) H') → tJs (es.map (anyE Xs)) acc σ H Q
  | _, _, .nil, acc, hl, _, _, S, H, _, k, _, q => q S H (Gr.refl _ _) k.sh
  | _, _, .cons (x := x) (xs := xs) h t, acc, hl, H0, S0, S, H, σ, k, Q, q => h H0 S0 S H σ k _ fun v S1 H1 g1 s1 r1 => by
    cases r1
    have hc : ∀ (xs : List Str) (a : Str), a.length ≤ (catS a xs).length := fun xs => by
      induction xs with
      | nil => exact fun a => Nat.le_refl _
      | cons x xs ih =>
        intro a
        refine Nat.le_trans ?_ (ih (a ++ x))
        rw [show (a ++ x).length = a.length + x.length from Array.size_append]
        exact Nat.le_add_right _ _
    exact ⟨x, rfl, Nat.le_trans (hc xs (acc ++ x)) hl, pjd_run t (acc ++ x) hl (k.grow g1 s1) fun S' H' g s => q S' H' (g1.trans g) s⟩
theorem pd_fstr {e1 e2 : Expr} {es : List Expr} {xs : List Str} (h : PJD K Xs γ (e1 :: e2 :: es) xs) (hl : (catS Str.empty xs).length ≤ sizeLine) : PED K Xs (.JoinedStr (e1 :: e2 :: es) pos) γ (.sh (.str (catS Str.empty xs))) :=
  .of (fun i => pe_joined (pj_any (e1 :: e2 :: es) i)) fun H0 S0 S H σ k Q q => pjd_run h Str.empty hl k fun S' H' g s => q _ S' H' g s .str
end
end Wd
set_option Elab.async false
set_option linter.all false
set_option maxRecDepth 100000
set_option maxHeartbeats 1000000
/-! extend of an own list; own lists looked at. -/
namespace Wd
open PySem PySem.Spec L2
open PyProof.Rows hiding St
section
variable {ι : Type} {Xs : ι → Cx} {P : Program} {w : World} {K : PySem.W.Frag} {mg : Str → Option Value} {base : Heap} {N : List Str} {k : Nat} {γ : Gm} {d d' : D} {ds es : List D} {r : Slot} {e c : Expr} {pos pos' p npos apos : Pos} {x : Str} {tv : Bool}
theorem psd_extend (fx : Fx Xs P w K mg base N k) (i : Nat) (hg : γ[i]? = some (.ow (.lst ds)) := by rfl) (he : PED K Xs e γ (.ow (.lst es))) (hl : ds.length + es.length ≤ sizeLine) (hN : N[i]? = some x := by rfl) (hv : ∀ j, Vis (Xs j).env.scope x := by first | exact fun _ => Or.inl rfl | exact fun _ => Or.inr (Or.inl rfl) | exact fun _ => Or.inr (Or.inr rfl))
    (hd : (x == ("__debug__" : Str)) = false := by decide) (hcd : (x == ("__classdict__" : Str)) = false := by decide) (hbase : ∀ j, attributeBase (.Name x npos) "extend" (Xs j).env (eval (.Name x npos) (Xs j).env) = eval (.Name x npos) (Xs j).env := by exact fun _ => rfl)
    (hfew : ∀ j, ((backTo pos (starEach [e] (Xs j).env)).all (fun x => !x.1) && (backToKw pos (keywordEach [] (Xs j).env)).all (fun x => x.1.isSome) && decide (([e] : List Expr).length + ([] : List Keyword).length + (if ([] : List Keyword).isEmpty then 0 else 1) < 30)) = true := by exact fun _ => rfl)
    (hline : (apos.endLine == pos.line) = true := by rfl) (hs : ∀ j, starEach [e] (Xs j).env = (false, eval e (Xs j).env) :: starEach [] (Xs j).env := by exact fun _ => rfl) (hplain : ∀ j, (backTo pos (starEach [] (Xs j).env)).any (·.1) = false := by exact fun _ => rfl)
    (hsw : ∀ j, swapsWith (.Call (.Attribute (.Name x npos) "extend" apos) [e] [] pos) none pos'.line (Xs j).env = pure false := by exact fun _ => rfl) : PSD K Xs (.Expr (.Call (.Attribute (.Name x npos) "extend" apos) [e] [] pos) pos') γ (.nx (γ.set i (.ow (.lst (ds ++ es))))) := by
  refine .of (t := tDrop (tBM K "list" rExtend (tVar i) (tCons (anyE Xs e) tNil))) (fun j => ps_expr ?_ (hsw j)) fun H0 S0 S H σ D k q => ?_
  · have z := pe_bm (X := Xs j) (r := rExtend) PySem.F.plainAttrs_list PySem.F.slot_list_extend PySem.F.type_list_extend mt_extend (pe_self i fx hN hv hd hcd j) (pa_cons (pe_any e j) pa_nil (hs j)) (hbase j) (hfew j) hline (hs j) (hplain j)
    rw [fx.hK j] at z
    exact z
  · obtain ⟨l, hl1, h1, h2, xs, hx, t⟩ := k.en i _ hg
    refine ⟨_, hl1, .inl ⟨rfl, xs, SqL.of hx⟩, he H0 S0 S H σ k _ fun v S' H' g s r => ?_⟩
    obtain ⟨b, rfl, n1, n2, zs, hz, tz⟩ := r
    refine ⟨l, b, xs, zs, rfl, rfl, g.hh _ _ hx, hz, by rw [t.length, tz.length]; exact hl, ?_⟩
    exact q S' _ σ ((k.grow g s).own hg hl1 ⟨xs ++ zs, upd_same, (t.ex g.ss).append tz⟩)
/-- an own object looked at as known, for one test -/
theorem Ok.peek {H0 S0 S H : Hp} {σ : L2.St} {i : Nat} (k : Ok K H0 S0 S H σ γ) (hg : γ[i]? = some (.ow d)) : ∃ S1, Ex S S1 ∧ Ok K H0 S0 S1 H σ (γ.set i (.sh d)) := k.freeze hg
theorem ptd_peek (i : Nat) (hg : γ[i]? = some (.ow d)) (h : PTD K Xs c (γ.set i (.sh d)) tv) : PTD K Xs c γ tv := fun H0 S0 S H σ k Q q => by
  obtain ⟨S1, e1, k1⟩ := k.freeze hg
  exact h H0 S0 S1 H σ k1 Q fun S' H' g s => q S H' ⟨Same.refl _, g.hh, fun b o a n => by rw [n] at a; cases a⟩ (k.sh.ex g.hh)
def flatD : D → Bool
  | .non => true | .bl _ => true | .int _ => true | .str _ => true
  | _ => false
theorem flat_any {S S' : Hp} {v : V} (hf : flatD d = true) (h : Dat K S v d) : Dat K S' v d := by
  cases h <;> first | exact .non | exact .bl | exact .int | exact .str | cases hf
theorem pd_peek (i : Nat) (hg : γ[i]? = some (.ow d)) (hf : flatD d' = true) (h : PED K Xs e (γ.set i (.sh d)) (.sh d')) : PED K Xs e γ (.sh d') := fun H0 S0 S H σ k Q q => by
  obtain ⟨S1, e1, k1⟩ := k.freeze hg
  exact h H0 S0 S1 H σ k1 Q fun v S' H' g s r => q v S H' ⟨Same.refl _, g.hh, fun b o a n => by rw [n] at a; cases a⟩ (k.sh.ex g.hh) (flat_any hf r)
end
end Wd
set_option Elab.async false
set_option linter.all false
set_option maxRecDepth 100000
set_option maxHeartbeats 1000000
/-! Numbers as they are written: two readings agree. -/
namespace Wd
open PySem PySem.Spec L2
open PyProof.Rows hiding St
open TL PySem.NumText
def digS : Str := "0123456789"
def allDig (x : Str) : Bool := x.cps.toList.all fun c => decide (c ∈ digS.cps.toList)
theorem dig_iff {c : Nat} : (c ∈ digS.cps.toList) ↔ (48 ≤ c ∧ c ≤ 57) := by
  have e : digS.cps.toList = [48, 49, 50, 51, 52, 53, 54, 55, 56, 57] := by decide +kernel
  rw [e]
  simp
  omega
theorem allDig_iff {x : Str} : allDig x = true ↔ AllDigits (tl x) := by
  unfold allDig AllDigits
  rw [List.all_eq_true]
  exact ⟨fun h c hc => dig_iff.mp (of_decide_eq_true (h c hc)), fun h c hc => decide_eq_true (dig_iff.mpr (h c hc))⟩
/-- without a sign ahead -/
def stripM : List Nat → List Nat
  | [] => []
  | c :: r => if c = 45 then r else c :: r
def minS : Str := "-"
theorem minS_tl : tl minS = [45] := by decide +kernel
theorem tl_rmp (w : Str) : tl (Txt.removeprefix w minS) = stripM (tl w) := by
  rw [StrLaws.removeprefix_eq]
  have hm : minS.length = 1 := by rw [len_tl, minS_tl]; rfl
  rw [StrLaws.subAt_eq, List.drop_zero, hm, show minS.cps.toList = [45] from minS_tl]
  cases h : tl w with
  | nil =>
    have hl : w.length = 0 := by rw [len_tl, h]; rfl
    rw [hl]
    rw [if_neg (by simp)]
    exact h
  | cons c r =>
    have hl : w.length = r.length + 1 := by rw [len_tl, h]; rfl
    have hw : w.cps.toList = c :: r := h
    by_cases hc : c = 45
    · subst hc
      rw [if_pos (by rw [hw, hl]; simp)]
      show ((w.cps.toList.drop 1).take (w.length - 1)) = r
      rw [hw, hl]
      simp
    · rw [if_neg (by rw [hw]; simp [hc])]
      rw [h]
      show _ = if c = 45 then r else c :: r
      rw [if_neg hc]
theorem tl_cut1 (w : Str) : tl (cutS w none (some 1)) = (tl w).take 1 := by
  show (w.cps.toList.drop 0).take (HT.sIx w.length w.length (some 1) - 0) = _
  rw [show (HT.sIx w.length w.length (some 1)) = min 1 w.length from HT.sIx_nat _ _ 1, List.drop_zero, Nat.sub_zero]
  rw [len_tl]
  by_cases h : (tl w).length = 0
  · rw [List.length_eq_zero_iff.mp h]; rfl
  · rw [Nat.min_eq_left (by omega)]
theorem tl_cutR (w : Str) : tl (cutS w (some 1) none) = (tl w).drop 1 := by
  show (w.cps.toList.drop (HT.sIx w.length 0 (some 1))).take (HT.sIx w.length w.length none - HT.sIx w.length 0 (some 1)) = _
  rw [show (HT.sIx w.length 0 (some 1)) = min 1 w.length from HT.sIx_nat _ _ 1, HT.sIx_none, len_tl]
  have hw : w.cps.toList = tl w := rfl
  rw [hw]
  cases tl w with
  | nil => rfl
  | cons c r =>
    show ((c :: r).drop (min 1 (r.length + 1))).take (r.length + 1 - min 1 (r.length + 1)) = r
    rw [Nat.min_eq_left (by omega)]
    show r.take (r.length + 1 - 1) = r
    rw [Nat.add_sub_cancel, List.take_length]
/-- the law's figures -/
def figL (w : Str) : Str := if cutS w none (some 1) = minS then cutS w (some 1) none else w
theorem tl_figL (w : Str) : tl (figL w) = stripM (tl w) := by
  unfold figL
  have hi : (cutS w none (some 1) = minS) ↔ (tl w).take 1 = [45] := by
    constructor
    · intro h; rw [← tl_cut1, h, minS_tl]
    · intro h; exact ext_tl (by rw [tl_cut1, h, minS_tl])
  cases h : tl w with
  | nil => rw [if_neg (by rw [hi, h]; simp)]; exact h
  | cons c r =>
    by_cases hc : c = 45
    · subst hc
      rw [if_pos (by rw [hi, h]; rfl), tl_cutR, h]
      rfl
    · rw [if_neg (by rw [hi, h]; simpa using hc), h]
      show _ = if c = 45 then r else c :: r
      rw [if_neg hc]
/-- the number that a word says -/
def valW (w : Str) : Int := if (tl w).head? = some 45 then -((digitsVal (stripM (tl w)) : Nat) : Int) else ((digitsVal (stripM (tl w)) : Nat) : Int)
theorem val_of {w : Str} (h : AllDigits (stripM (tl w))) (hn : stripM (tl w) ≠ []) (hl : w.length ≤ 4300) : PySem.intText? w = some (valW w) := by
  unfold valW
  cases e : tl w with
  | nil => rw [e] at hn; exact absurd rfl hn
  | cons c r =>
    rw [e] at h hn
    by_cases hc : c = 45
    · subst hc
      rw [if_pos (c := (45 :: r).head? = some (45 : Nat)) rfl]
      exact intText_neg (cs := r) e h hn hl
    · have es : stripM (c :: r) = c :: r := if_neg hc
      rw [es] at h hn
      rw [if_neg (by simpa using hc), es]
      have z := intText_digits (x := w) (by show AllDigits (tl w); rw [e]; exact h) (by show tl w ≠ []; rw [e]; exact hn) hl
      rw [show w.cps.toList = c :: r from e] at z
      exact z
theorem tl_neg (m : Nat) : tl (Str.ofString (toString (Int.negSucc m))) = 45 :: numL (m + 1) := by
  rw [tl_ofString]
  have e : (toString (Int.negSucc m)) = "-" ++ toString ((m + 1 : Nat) : Int) := rfl
  rw [e, String.toList_append, List.map_append]
  have z := tl_num (m + 1)
  rw [tl_ofString] at z
  rw [z]
  rfl
theorem back {cs : List Nat} (h : AllDigits cs) : (cs.map Char.ofNat).map Char.toNat = cs := by
  induction cs with
  | nil => rfl
  | cons c r ih =>
    rw [List.map_cons, List.map_cons, ih h.tail]
    have hc := h.head
    have : (Char.ofNat c).toNat = c := by
      unfold Char.ofNat
      rw [dif_pos (by left; omega)]
      rfl
    rw [this]
theorem numL_all {cs : List Nat} (h : AllDigits cs) (hn : cs ≠ []) : (cs.head? ≠ some 48 → numL (digitsVal cs) = cs) ∧ (cs.head? = some 48 → numL (digitsVal cs) = cs → cs = [48]) := by
  have z := toDigits_all cs h
  have e0 : numL (digitsVal cs) = (Nat.toDigits 10 (digitsVal cs)).map Char.toNat := rfl
  refine ⟨fun h0 => ?_, fun h0 h1 => ?_⟩
  · match cs, h, hn, h0, z with
    | c :: r, h, _, h0, z =>
      have hc : c ≠ 48 := fun y => h0 (by rw [y]; rfl)
      rw [List.dropWhile_cons, if_neg (by simpa using hc)] at z
      rw [e0, z]
      exact back h
  · rw [e0, z] at h1
    cases hd : cs.dropWhile (· == 48) with
    | nil => rw [hd] at h1; rw [← h1]; rfl
    | cons c r =>
      rw [hd] at h1
      have hc : c ≠ 48 := fun y => by
        have q := List.head?_dropWhile_not (· == 48) cs
        rw [hd] at q
        subst y
        simp at q
      have hdig : AllDigits (c :: r) := fun x hx => h x ((List.dropWhile_sublist (· == 48)).subset (by rw [hd]; exact hx))
      have h2 : ((c :: r).map Char.ofNat).map Char.toNat = cs := h1
      rw [back hdig] at h2
      rw [← h2] at h0
      exact absurd (Option.some.inj h0) hc
/-- told back just where no nought is needless -/
theorem told_back {w : Str} (h : AllDigits (stripM (tl w))) (hn : stripM (tl w) ≠ []) : (Str.ofString (toString (valW w)) = w) ↔ ((stripM (tl w)).head? ≠ some 48 ∨ tl w = [48]) := by
  have zero : ∀ {cs : List Nat}, AllDigits cs → cs ≠ [] → cs.head? ≠ some 48 → 0 < digitsVal cs := fun {cs} h hn h0 => by
    match cs, h, hn, h0 with
    | c :: r, h, _, h0 => exact digitsVal_pos (by have := h.head; have hc : c ≠ 48 := fun y => h0 (by rw [y]; rfl); omega)
  have iff_tl : (Str.ofString (toString (valW w)) = w) ↔ tl (Str.ofString (toString (valW w))) = tl w := ⟨fun e => by rw [e], fun e => ext_tl e⟩
  rw [iff_tl]
  unfold valW
  cases e : tl w with
  | nil => rw [e] at hn; exact absurd rfl hn
  | cons c r =>
    rw [e] at h hn
    by_cases hc : c = 45
    · subst hc
      have es : stripM (45 :: r) = r := by show (if (45 : Nat) = 45 then r else 45 :: r) = r; exact if_pos rfl
      rw [es] at h hn
      rw [if_pos (c := (45 :: r).head? = some (45 : Nat)) rfl, es]
      obtain ⟨a1, a2⟩ := numL_all h hn
      cases hv : digitsVal r with
      | zero =>
        have q : r.head? = some 48 := by
          by_cases y : r.head? = some 48
          · exact y
          · have := zero h hn y; omega
        constructor
        · intro y
          have y2 : tl (Str.ofString (toString (-((0 : Nat) : Int)))) = [48] := by decide +kernel
          rw [y2] at y
          cases y
        · intro y
          rcases y with y | y
          · exact absurd q y
          · cases y
      | succ m =>
        have en : (-((m + 1 : Nat) : Int)) = Int.negSucc m := rfl
        rw [en, tl_neg]
        rw [hv] at a1 a2
        constructor
        · intro y
          injection y with _ y
          left
          intro q
          have q2 := a2 q y
          rw [q2] at hv
          exact absurd (show 0 = m + 1 from hv) (by omega)
        · intro y
          rcases y with y | y
          · rw [a1 y]
          · cases y
    · have es : stripM (c :: r) = c :: r := if_neg hc
      rw [es] at h hn
      rw [if_neg (by simpa using hc), es, tl_num]
      obtain ⟨a1, a2⟩ := numL_all h hn
      constructor
      · intro y
        by_cases q : (c :: r).head? = some 48
        · right; exact a2 q y
        · left; exact q
      · intro y
        rcases y with y | y
        · exact a1 y
        · rw [y]; decide +kernel
/-- the program's reading of a number -/
def numP (w : Str) : Option Int := if (1 ≤ (Txt.removeprefix w minS).length ∧ (Txt.removeprefix w minS).length ≤ 4) ∧ allDig (Txt.removeprefix w minS) = true then (if Str.ofString (toString (valW w)) = w then some (valW w) else none) else none
/-- the law's -/
def numQ (w : Str) (a b : Int) : Option Int := if (figL w = Str.empty ∨ 30 < (figL w).length) ∨ allDig (figL w) = false then none else if (tl (figL w)).head? = some 48 ∧ tl w ≠ [48] then none else if a ≤ valW w ∧ valW w ≤ b then some (valW w) else none
theorem num_agree {w : Str} {a b : Int} (ha : -1000 ≤ a) (hb : b ≤ 1000) : numQ w a b = (numP w).bind fun n => if a ≤ n ∧ n ≤ b then some n else none := by
  have e1 : (Txt.removeprefix w minS) = figL w := ext_tl (by rw [tl_rmp, tl_figL])
  unfold numP numQ
  rw [e1]
  have hlen : (figL w).length = (stripM (tl w)).length := by rw [len_tl, tl_figL]
  have hemp : (figL w = Str.empty) ↔ stripM (tl w) = [] := by
    rw [← tl_figL]
    exact ⟨fun h => by rw [h]; rfl, fun h => ext_tl (by rw [h]; rfl)⟩
  by_cases hd : allDig (figL w) = true
  · have hD : AllDigits (stripM (tl w)) := by rw [← tl_figL]; exact allDig_iff.mp hd
    by_cases hn : stripM (tl w) = []
    · rw [if_pos (.inl (.inl (hemp.mpr hn))), if_neg (fun z => by have := z.1.1; rw [hlen, hn] at this; exact absurd this (by decide))]
      rfl
    · have tb := told_back hD hn
      rw [tl_figL]
      by_cases hb2 : Str.ofString (toString (valW w)) = w
      · have hno := tb.mp hb2
        have hng : ¬((stripM (tl w)).head? = some 48 ∧ tl w ≠ [48]) := fun z => hno.elim (fun y => y z.1) fun y => z.2 y
        by_cases hr : a ≤ valW w ∧ valW w ≤ b
        · -- in range: short
          have hsmall : (valW w).natAbs < 10 ^ 4 := by omega
          have h4 : (stripM (tl w)).length ≤ 4 := by
            have e2 : tl (Str.ofString (toString (valW w))) = tl w := by rw [hb2]
            cases hv : valW w with
            | ofNat m =>
              rw [hv] at e2 hsmall
              have e3 : numL m = tl w := by rw [← tl_num m]; exact e2
              have l4 := numL_len (n := m) (k := 4) (by decide) hsmall
              rw [e3] at l4
              refine Nat.le_trans ?_ l4
              cases tl w with
              | nil => exact Nat.le_refl _
              | cons c r => show (if c = 45 then r else c :: r).length ≤ _; split <;> simp
            | negSucc m =>
              rw [hv] at e2 hsmall
              rw [tl_neg] at e2
              rw [← e2]
              exact numL_len (n := m + 1) (k := 4) (by decide) hsmall
          rw [if_neg (fun z => by
            rcases z with (z | z) | z
            · exact hn (hemp.mp z)
            · rw [hlen] at z; omega
            · rw [hd] at z; cases z), if_neg hng, if_pos hr, if_pos ⟨⟨by rw [hlen]; exact List.length_pos_iff.mpr hn, by rw [hlen]; exact h4⟩, hd⟩, if_pos hb2]
          show _ = if a ≤ valW w ∧ valW w ≤ b then _ else _
          rw [if_pos hr]
        · have r1 : (if (figL w = Str.empty ∨ 30 < (figL w).length) ∨ allDig (figL w) = false then none else if (stripM (tl w)).head? = some 48 ∧ tl w ≠ [48] then none else if a ≤ valW w ∧ valW w ≤ b then some (valW w) else none : Option Int) = none := by
            rw [if_neg hr]
            simp
          rw [r1]
          by_cases q4 : (1 ≤ (figL w).length ∧ (figL w).length ≤ 4) ∧ allDig (figL w) = true
          · rw [if_pos q4, if_pos hb2]
            show _ = if a ≤ valW w ∧ valW w ≤ b then _ else _
            rw [if_neg hr]
          · rw [if_neg q4]; rfl
      · have hg : (stripM (tl w)).head? = some 48 ∧ tl w ≠ [48] := by
          constructor
          · exact Decidable.byContradiction fun z => hb2 (tb.mpr (.inl z))
          · exact fun z => hb2 (tb.mpr (.inr z))
        rw [if_pos hg]
        have r2 : (if (1 ≤ (figL w).length ∧ (figL w).length ≤ 4) ∧ allDig (figL w) = true then (if Str.ofString (toString (valW w)) = w then some (valW w) else none) else none : Option Int) = none := by
          by_cases q4 : (1 ≤ (figL w).length ∧ (figL w).length ≤ 4) ∧ allDig (figL w) = true
          · rw [if_pos q4, if_neg hb2]
          · rw [if_neg q4]
        rw [r2]
        by_cases q5 : (figL w = Str.empty ∨ 30 < (figL w).length) ∨ allDig (figL w) = false
        · rw [if_pos q5]; rfl
        · rw [if_neg q5]; rfl
  · have hd' : allDig (figL w) = false := by simpa using hd
    rw [if_pos (.inr hd'), if_neg (fun z => hd z.2)]
    rfl
end Wd
set_option Elab.async false
set_option linter.all false
set_option maxRecDepth 100000
set_option maxHeartbeats 1000000
/-! Exceptions with one field: made, raised, let through. -/
namespace Wd
open PySem PySem.Spec L2
open PyProof.Rows hiding St
/-- what the head says of such a class -/
structure ExcF (K : PySem.W.Frag) (c fld : Str) (fd : FuncData) (qual : Str) (params : Arguments) (body : List Stmt) (scope : Scope) (file : Str) : Prop where
  sf : SupF K (He.ga K c) (He.ma K (He.ga K c) "__init__") fd qual params body scope file
  iC : PySem.W.findIn K (.ref (He.ga K c)) "__init__" = some (some (.ref (He.ma K (He.ga K c) "__init__")))
  tI : PySem.W.typeIn K (.ref (He.ma K (He.ga K c) "__init__")) = some (.type "function")
  nf : PySem.W.findIn K (.ref (He.ga K c)) fld = some none
  xf : XfC K (He.ga K c)
  em : PySem.W.exmOne K (.ref (He.ga K c)) (.ref (He.ga K c)) = some true
/-- the __init__'s promise -/
def spRow (C : Addr) (fld : Str) : Sp := fun vs H Q _ => ∃ (a : Addr) (v : V), vs = [.ref a, v] ∧ H a = some (exo a C none) ∧ ∀ dx, H dx = none → dx ≠ a → Q .non (upd (upd H dx (exd dx [(fld, v)])) a (exo a C (some dx)))
section
variable {P : Program} {w : World} {K : PySem.W.Frag} {mg : Str → Option Value} {base : Heap} {c fld sn rn : Str} {fd : FuncData} {qual : Str} {params : Arguments} {scope : Scope} {file : Str} {p0 p1 p2 p3 p4 p5 p6 p7 p8 p9 : Pos} {m : Str} {jj : Nat} {ar : Arg}
theorem okRow (EF : ExcF K c fld fd qual params [.Expr (.Call (.Attribute (.Call (.Name "super" p0) [] [] p1) "__init__" p2) [.Constant (.str m) jj p3] [] p4) p5, .Assign [.Attribute (.Name sn p6) fld p7] (.Name rn p8) p9] scope file) (SP : SupP P file)
    (S : NdefX.NScope [sn, rn, "__class__"] [sn, rn] ["__class__"] scope) (hmg : mg "super" = none) (hks : scope.names.lookup ("super" : Str) = some .globalImplicit) (hkc : scope.names.lookup ("__class__" : Str) = some .free) (hp0 : (params.posonlyargs ++ params.args).head? = some ar) (har : ar.arg = sn)
    (h1 : (sn == ("__debug__" : Str)) = false := by decide) (h2 : (sn == ("__classdict__" : Str)) = false := by decide) (h3 : (rn == ("__debug__" : Str)) = false := by decide) (h4 : (rn == ("__classdict__" : Str)) = false := by decide)
    (he : ∀ env : Env, eval (.Call (.Attribute (.Call (.Name "super" p0) [] [] p1) "__init__" p2) [.Constant (.str m) jj p3] [] p4) env = (do
      let ov ← attributeBase (.Call (.Name "super" p0) [] [] p1) "__init__" env (eval (.Call (.Name "super" p0) [] [] p1) env)
      standAt p2.atName
      let (f, first) ← holding [ov] (getMethod ov "__init__" (pure false))
      callWith p4 f first (backTo p4 (starEach [.Constant (.str m) jj p3] env)) []) := by exact fun _ => rfl)
    (hss : ∀ env : Env, starEach [.Constant (.str m) jj p3] env = [(false, eval (.Constant (.str m) jj p3) env)] := by exact fun _ => rfl)
    (hs0 : ∀ env : Env, swapsWith (.Call (.Attribute (.Call (.Name "super" p0) [] [] p1) "__init__" p2) [.Constant (.str m) jj p3] [] p4) none p5.line env = pure false := by exact fun _ => rfl)
    (hs : ∀ env : Env, swapsWith (.Name rn p8) (some (.Attribute (.Name sn p6) fld p7)) p9.line env = pure false := by exact fun _ => rfl) :
    FnOk P w K mg base (L2.CX P w) 1 (He.ma K (He.ga K c) "__init__") fd [sn, rn] (spRow (He.ga K c) fld) ∧ L2H.FnH P w K mg base (L2.CX P w) 1 (He.ma K (He.ga K c) "__init__") fd [sn, rn] (spRow (He.ga K c) fld) := by
  have nd2 : [sn, rn].Nodup := by
    have z := S.nd.sublist (List.take_sublist 2 [sn, rn, "__class__"])
    exact z
  refine okSup (pr := [rn]) EF.sf SP S hmg hks hkc hp0 (by rw [har]) nd2 (fun vs H Q E ⟨a, v, e, _⟩ => by rw [e]; rfl) (fun vs H Q E ⟨a, v, e, ha, _⟩ => ⟨a, [v], e, ha⟩) (he := he) (hss := hss) (hs := hs0) (h2 := fun F L H vs Q E hF ⟨a, v, e, ha, q⟩ X hK hN henv => ?_)
  subst e
  have hsc : X.env.scope = scope := by rw [henv]; exact hF
  have v0 : Vis X.env.scope sn := .inl (by rw [hsc]; exact S.par sn (by simp))
  have v1 : Vis X.env.scope rn := .inl (by rw [hsc]; exact S.par rn (by simp))
  refine ⟨_, pss_one (ps_ost (X := X) (pe_var (i := 0) (by rw [hN]; rfl) v0 h1 h2) (pe_var (i := 1) (by rw [hN]; rfl) v1 h3 h4) (hs _)), ?_⟩
  refine ⟨v, rfl, .ref a, rfl, a, He.ga K c, rfl, by rw [hK]; exact EF.sf.ox, by rw [hK]; exact EF.nf, .inl ⟨ha, fun dx hd ne => q dx hd ne⟩⟩
end
/-- the dict of a raised exception, its fields known -/
def XfAt (K : PySem.W.Frag) (S' H' : Hp) (dx : Addr) (fds : List (Str × D)) : Prop := ∃ fs, H' dx = some (.xd fs) ∧ fs.map (·.1) = fds.map (·.1) ∧ Dats K S' (fs.map (·.2)) (fds.map (·.2))
/-- the promise of a def that raises such an exception -/
def spXF (K : PySem.W.Frag) (Pr : List D → Str → List (Str × D) → Prop) : Sp := fun vs H _ E => ∃ (S : Hp) (ds : List D) (c : Str) (fds : List (Str × D)), Sub S H ∧ Dats K S vs ds ∧ Pr ds c fds ∧ ∀ dx S' H', Gr S H S' H' → Sub S' H' → H dx = none → XfAt K S' H' dx fds → E (.ref (He.ga K c)) (some dx) H'
def PXDF (K : PySem.W.Frag) {ι : Type} (Xs : ι → Cx) (W : WX) (e : Expr) (γ : Gm) (c : Str) (fds : List (Str × D)) : Prop := ∀ (H0 S0 S H : Hp) (σ : L2.St), Ok K H0 S0 S H σ γ → (∀ dx S' H', Gr S H S' H' → Sub S' H' → H dx = none → XfAt K S' H' dx fds → W (.ref (He.ga K c)) (some dx) σ H') → ∀ Q : VK, anyE Xs e σ H Q
def PXSF (K : PySem.W.Frag) {ι : Type} (Xs : ι → Cx) (W : WX) (st : Stmt) (γ : Gm) (c : Str) (fds : List (Str × D)) : Prop := ∀ (H0 S0 S H : Hp) (σ : L2.St) (En : Ends), Ok K H0 S0 S H σ γ → (∀ dx S' H' σ', Gr S H S' H' → Sub S' H' → H dx = none → XfAt K S' H' dx fds → W (.ref (He.ga K c)) (some dx) σ' H') → anyS Xs st En σ H
def PXSsF (K : PySem.W.Frag) {ι : Type} (Xs : ι → Cx) (W : WX) (sts : List Stmt) (γ : Gm) (c : Str) (fds : List (Str × D)) : Prop := ∀ (H0 S0 S H : Hp) (σ : L2.St) (En : Ends), Ok K H0 S0 S H σ γ → (∀ dx S' H' σ', Gr S H S' H' → Sub S' H' → H dx = none → XfAt K S' H' dx fds → W (.ref (He.ga K c)) (some dx) σ' H') → anySs Xs sts En σ H
theorem made_eq {H1 : Hp} {a dx C : Addr} {fld : Str} {v : V} (ha : H1 a = none) (hd : dx ≠ a) : upd (del (upd (upd (upd H1 a (exo a C none)) dx (exd dx [(fld, v)])) a (exo a C (some dx))) a) dx (.xd [(fld, v)]) = upd H1 dx (.xd [(fld, v)]) := by
  funext b
  by_cases h1 : b = dx
  · rw [h1, upd_same, upd_same]
  · rw [upd_ne h1, upd_ne h1]
    by_cases h2 : b = a
    · rw [h2, del_same, ha]
    · rw [del_ne h2, upd_ne h2, upd_ne h1, upd_ne h2]
section
variable {ι : Type} {Xs : ι → Cx} {W : WX} {P : Program} {w : World} {K : PySem.W.Frag} {mg : Str → Option Value} {base : Heap} {N : List Str} {k j : Nat} {γ γ1 : Gm} {d : D} {ds : List D} {e cnd : Expr} {es : List Expr} {pos p pos' : Pos} {x c fld : Str} {tv : Bool} {st : Stmt} {sts sts' : List Stmt} {f : Addr} {fd : FuncData} {ps : List Str} {Pr : List D → Str → List (Str × D) → Prop} {qual : Str} {params : Arguments} {scope : Scope} {file : Str} {body : List Stmt} {fds : List (Str × D)}
theorem Fx.fnC (fx : Fx Xs P w K mg base N k) {CX : Program → World → CXT} {sp : Sp} (G : FnOk P w K mg base (CX P w) j f fd ps sp) (i : ι) : FnOk (Xs i).prog (Xs i).w (Xs i).K (Xs i).mg (Xs i).base (CX (Xs i).prog (Xs i).w) j f fd ps sp := by
  rw [fx.hP i, fx.hw i, fx.hK i, fx.hmg i, fx.hb i]; exact G
/-- raise C(e) -/
theorem pxf_raise (fx : Fx Xs P w K mg base N k) (tk : ∀ i, L2.Takes (Xs i) W) (EF : ExcF K c fld fd qual params body scope file) (G : FnOk P w K mg base (L2.CX P w) 1 (He.ma K (He.ga K c) "__init__") fd ps (spRow (He.ga K c) fld)) (B : Binds K fd ps []) (hm : mg c = some (.ref (He.ga K c))) (he : PED K Xs e γ (.sh d)) (hk : 2 ≤ k := by decide)
    (hg : ∀ i, Gl (Xs i) c := by exact fun _ => rfl) (hdb : (c == ("__debug__" : Str)) = false := by decide) (hst : ∀ i, starEach [e] (Xs i).env = (false, eval e (Xs i).env) :: starEach [] (Xs i).env := by exact fun _ => rfl) (hpl : ∀ i, (backTo pos (starEach [] (Xs i).env)).any (·.1) = false := by exact fun _ => rfl) :
    PXSF K Xs W (.Raise (some (.Call (.Name c p) [e] [] pos)) none pos') γ c [(fld, d)] := fun H0 S0 S H σ En k0 q => by
  refine ⟨fun _ σ H => tMkO (He.ga K c) (spRow (He.ga K c) fld) [] (tCons (anyE Xs e) tNil) σ H fun cls d H' => W cls d σ H', fun i => ?_, ?_⟩
  · have hK := fx.hK i
    exact ps_raise (fx.calm i) (tk i) (pmk_oex (CX := L2.CX (Xs i).prog (Xs i).w) (by rw [hK]; exact EF.sf.ox) (by rw [hK]; exact EF.iC) (by rw [hK]; exact EF.tI) (fx.fnC (CX := L2.CX) G i) ((fx.room i).mono hk) (fx.binds B i) .nil (fun pins σ H s e s' I z => passes_call (tk i) (E := fun _ _ _ => False) (fun _ _ _ _ y => y.elim) pins σ H s e s' I z) (hg i) (by rw [fx.hmg i]; exact hm) (pa_cons (pe_any e i) pa_nil (hst i)) hdb (hst i) (hpl i))
  · refine he H0 S0 S H σ k0 _ fun v S1 H1 g1 s1 r1 => ⟨by show 1 ≤ 1000; decide, fun a ha => ⟨a, v, rfl, upd_same, fun dx hd ne => ⟨rfl, dx, [(fld, v)], upd_same, by rw [upd_ne ne, upd_same], ?_, ?_⟩⟩⟩
    · rw [upd_ne ne] at hd; exact hd
    · have hd1 : H1 dx = none := by rw [upd_ne ne] at hd; exact hd
      rw [made_eq ha ne]
      exact q dx S1 _ σ (g1.trans ⟨Same.refl _, Ex.new hd1, fun b o z n => by rw [n] at z; cases z⟩) (s1.ex (Ex.new hd1)) (Ex.back g1.hh hd1) ⟨_, upd_same, rfl, .one r1⟩
/-- f(..) that raises so -/
theorem pxf_call (fx : Fx Xs P w K mg base N k) (tk : ∀ i, L2.Takes (Xs i) W) (G : FnOk P w K mg base (L2.CX P w) j f fd ps (spXF K Pr)) (hm : mg x = some (.ref f)) (hk : PySem.W.keepIn K (.ref f) = true) (B : Binds K fd ps [])
    (ha : PAD K Xs (e :: es) γ ds) (h : Pr ds c fds) (hj : j ≤ k := by decide) (hg : ∀ i, Gl (Xs i) x := by exact fun _ => rfl) (hdb : (x == ("__debug__" : Str)) = false := by decide)
    (he : ∀ i, starEach (e :: es) (Xs i).env = (false, eval e (Xs i).env) :: starEach es (Xs i).env := by exact fun _ => rfl) (hpl : ∀ i, (backTo pos (starEach es (Xs i).env)).any (·.1) = false := by exact fun _ => rfl) : PXDF K Xs W (.Call (.Name x p) (e :: es) [] pos) γ c fds := fun H0 S0 S H σ k q Q => by
  refine ⟨tCallS (spXF K Pr) (WE W) (anyA Xs (e :: es)), fun i => ?_, ?_⟩
  · exact pe_callS (p := p) (pos := pos) (E := WE W) (fx.fn G i) ((fx.room i).mono hj) (hg i) (by rw [fx.hmg i]; exact hm) (by rw [fx.hK i]; exact hk) (fx.binds B i) (fun σ => L2.passAt (tk i) σ) (pa_any (e :: es) i) hdb (he i) (hpl i)
  · exact ha H0 S0 S H σ k _ fun vs S' H' g s r => ⟨S', ds, c, fds, s, r, h, fun dx S2 H2 g2 s2 hd xf => q dx S2 H2 (g.trans g2) s2 (Ex.back g.hh hd) xf⟩
theorem pxsf_ifT (hc : PTD K Xs cnd γ true) (ha : PXSsF K Xs W sts γ c fds) : PXSF K Xs W (.If cnd sts sts' pos) γ c fds := fun H0 S0 S H σ En k q =>
  ⟨_, fun i => ps_if (pt_any cnd i) (pss_any sts i) pss_never, hc H0 S0 S H σ k _ fun S' H' g s => iteT (ha H0 S0 S' H' σ En (k.grow g s) fun dx S2 H2 σ2 g2 s2 hd xf => q dx S2 H2 σ2 (g.trans g2) s2 (Ex.back g.hh hd) xf)⟩
theorem pxssf_here (h : PXSF K Xs W st γ c fds) : PXSsF K Xs W (st :: sts) γ c fds := fun H0 S0 S H σ En k q =>
  ⟨tSeq (anyS Xs st) tNever, fun i => pss_cons (ps_any st i) pss_never, h H0 S0 S H σ { En with nx := tNever En } k q⟩
end
end Wd
set_option Elab.async false
set_option linter.all false
set_option maxRecDepth 100000
set_option maxHeartbeats 1000000
/-! Defs that change two lists handed in: promises, their bodies, their calls. -/
namespace Wd
open PySem PySem.Spec L2
open PyProof.Rows hiding St
def del2 (H : Hp) (l1 l2 : Addr) : Hp := fun b => if b = l1 ∨ b = l2 then none else H b
theorem del2_ne {H : Hp} {l1 l2 b : Addr} (h1 : b ≠ l1) (h2 : b ≠ l2) : del2 H l1 l2 b = H b := if_neg fun z => z.elim h1 h2
theorem del2_some {H : Hp} {l1 l2 b : Addr} {o : HO} (h : del2 H l1 l2 b = some o) : H b = some o ∧ b ≠ l1 ∧ b ≠ l2 := by
  unfold del2 at h
  split at h
  · cases h
  · rename_i q
    exact ⟨h, fun z => q (.inl z), fun z => q (.inr z)⟩
def two (l1 l2 : Addr) (xs1 xs2 : List V) : Hp := fun b => if b = l1 then some (.lst xs1) else if b = l2 then some (.lst xs2) else none
theorem two_some {l1 l2 b : Addr} {xs1 xs2 : List V} {o : HO} (h : two l1 l2 xs1 xs2 b = some o) : (b = l1 ∧ o = .lst xs1) ∨ (b = l2 ∧ b ≠ l1 ∧ o = .lst xs2) := by
  unfold two at h
  split at h
  · rename_i q; cases h; exact .inl ⟨q, rfl⟩
  · split at h
    · rename_i q r; cases h; exact .inr ⟨r, q, rfl⟩
    · cases h
theorem two1 {l1 l2 : Addr} {xs1 xs2 : List V} : two l1 l2 xs1 xs2 l1 = some (.lst xs1) := if_pos rfl
theorem two2 {l1 l2 : Addr} {xs1 xs2 : List V} (h : l1 ≠ l2) : two l1 l2 xs1 xs2 l2 = some (.lst xs2) := by
  unfold two
  rw [if_neg (fun z => h z.symm), if_pos rfl]
/-- what is handed in -/
structure MIn (K : PySem.W.Frag) (emb : Addr → Addr → List V → List V) (S H : Hp) (vs : List V) (l1 l2 : Addr) (us xs1 xs2 : List V) (ds ds1 ds2 : List D) : Prop where
  ev : vs = emb l1 l2 us
  ne : l1 ≠ l2
  h1 : H l1 = some (.lst xs1)
  h2 : H l2 = some (.lst xs2)
  s1 : S l1 = none
  s2 : S l2 = none
  sh : Sub S H
  d1 : Dats K S xs1 ds1
  d2 : Dats K S xs2 ds2
  du : Dats K S us ds
/-- what comes back -/
structure MOut (K : PySem.W.Frag) (S H : Hp) (l1 l2 : Addr) (S' H' : Hp) (ys1 ys2 : List V) (es1 es2 : List D) : Prop where
  gr : Gr S (del2 H l1 l2) S' H'
  sh : Sub S' H'
  s1 : S' l1 = none
  s2 : S' l2 = none
  h1 : H' l1 = some (.lst ys1)
  h2 : H' l2 = some (.lst ys2)
  d1 : Dats K S' ys1 es1
  d2 : Dats K S' ys2 es2
def spM (K : PySem.W.Frag) (emb : Addr → Addr → List V → List V) (Pr : List D → List D → List D → D → List D → List D → Prop) : Sp := fun vs H Q _ => ∃ (S : Hp) (l1 l2 : Addr) (us xs1 xs2 : List V) (ds ds1 ds2 : List D) (r : D) (es1 es2 : List D), MIn K emb S H vs l1 l2 us xs1 xs2 ds ds1 ds2 ∧ Pr ds1 ds2 ds r es1 es2 ∧
  ∀ v S' H' ys1 ys2, MOut K S H l1 l2 S' H' ys1 ys2 es1 es2 → Dat K S' v r → Q v H'
def spMX (K : PySem.W.Frag) (emb : Addr → Addr → List V → List V) (Pr : List D → List D → List D → Str → List (Str × D) → Prop) : Sp := fun vs H _ E => ∃ (S : Hp) (l1 l2 : Addr) (us xs1 xs2 : List V) (ds ds1 ds2 : List D) (c : Str) (fds : List (Str × D)), MIn K emb S H vs l1 l2 us xs1 xs2 ds ds1 ds2 ∧ Pr ds1 ds2 ds c fds ∧
  ∀ dx S' H', Gr S (del2 H l1 l2) S' H' → Sub S' H' → (del2 H l1 l2) dx = none → XfAt K S' H' dx fds → E (.ref (He.ga K c)) (some dx) H'
/-- where the body begins: the lists are private -/
theorem ok_startP {K : PySem.W.Frag} {N : List Str} {S H H0 : Hp} {vs : List V} {gs : Gm} (s : Sub S H) (h0 : Ex H0 H) (hl : gs.length = vs.length) (hN : vs.length ≤ N.length) (h : ∀ (i : Nat) (t : Slot), gs[i]? = some t → t = .un ∨ ∃ d v, t = .sh d ∧ vs[i]? = some v ∧ Dat K S v d) : Ok K H0 S S H (L2.start N vs) (gs ++ List.replicate (N.length - gs.length) .un) where
  h0 := h0
  s0 := Same.refl _
  sh := s
  nw := fun b o h n => by rw [n] at h; cases h
  len := by
    unfold L2.start
    simp only [List.length_append, List.length_map, List.length_replicate, hl]
  en := fun i t ht => by
    by_cases hi : i < gs.length
    · rw [List.getElem?_append_left hi] at ht
      rcases h i t ht with rfl | ⟨d, v, rfl, hv, hd⟩
      · trivial
      · refine ⟨v, ?_, hd⟩
        unfold L2.start
        rw [List.getElem?_append_left (by rw [List.length_map, ← hl]; exact hi), List.getElem?_map, hv]
        rfl
    · rw [List.getElem?_append_right (by omega), List.getElem?_replicate] at ht
      split at ht
      · cases ht; trivial
      · cases ht
  ds := fun i j d e l hi _ _ _ => by
    by_cases h1 : i < gs.length
    · rw [List.getElem?_append_left h1] at hi
      rcases h i _ hi with z | ⟨_, _, z, _⟩ <;> cases z
    · rw [List.getElem?_append_right (by omega), List.getElem?_replicate] at hi
      split at hi <;> cases hi
theorem noOw_start {gs : Gm} {n : Nat} (h : ∀ (i : Nat) (d : D), gs[i]? ≠ some (.ow d)) : noOw (gs ++ List.replicate n .un) := fun i d hi => by
  by_cases h1 : i < gs.length
  · rw [List.getElem?_append_left h1] at hi; exact h i d hi
  · rw [List.getElem?_append_right (by omega), List.getElem?_replicate] at hi
    split at hi <;> cases hi
/-- the private heap seen as known, at some names -/
theorem Pv.frozG {K : PySem.W.Frag} {γ γ' : Gm} {F H0 S0 S H : Hp} {σ : L2.St} (p : Pv K γ F H0 S0 S H σ) (hl : γ'.length = γ.length) (h : ∀ (i : Nat) (s : Slot), γ'[i]? = some s → γ[i]? = some s ∨ s = .un ∨ ∃ v d, s = .sh d ∧ σ[i]? = some (some v) ∧ Dat K (uni S F) v d) : Ok K H0 S0 (uni S F) H σ γ' where
  h0 := p.ok.h0
  s0 := Same.trans p.ok.s0 (uni_ex p.fs)
  sh := uni_sub p.fh p.ok.sh
  nw := fun b o h n => by
    cases q : F b with
    | none => rw [uni_S q] at h; exact p.ok.nw b o h n
    | some z => exact p.f0 b z q
  len := by rw [hl]; exact p.ok.len
  en := fun j s hs => by
    rcases h j s hs with q | rfl | ⟨v, d, rfl, a, b⟩
    · have q := p.ok.en j s q
      cases s with
      | un => trivial
      | tw _ _ => trivial
      | sh d => obtain ⟨v, a, b⟩ := q; exact ⟨v, a, b.ex (uni_ex p.fs)⟩
      | ow d => rename_i y; exact absurd y (p.no j d)
    · trivial
    · exact ⟨v, a, b⟩
  ds := fun a b da db l ha => by
    rcases h a _ ha with q | q | ⟨_, _, q, _⟩
    · exact absurd q (p.no a da)
    · cases q
    · cases q
/-- behind a call that changed the two lists -/
theorem Pv.after {K : PySem.W.Frag} {γ : Gm} {F H0 S0 S H S' H' : Hp} {σ : L2.St} {l1 l2 : Addr} {xs1 xs2 ys1 ys2 : List V} {es1 es2 : List D} (p : Pv K γ F H0 S0 S H σ) (f1 : F l1 = some (.lst xs1)) (f2 : F l2 = some (.lst xs2)) (o : MOut K S H l1 l2 S' H' ys1 ys2 es1 es2) : Pv K γ (upd (upd F l1 (.lst ys1)) l2 (.lst ys2)) H0 S0 S' H' σ := by
  have fro : ∀ {b o}, F b = some o → b ≠ l1 → b ≠ l2 → S' b = none ∧ H' b = some o := fun {b o1} hb n1 n2 => by
    have hd : del2 H l1 l2 b = some o1 := (del2_ne n1 n2).trans (p.fh b o1 hb)
    refine ⟨?_, o.gr.hh b o1 hd⟩
    cases q : S' b with
    | none => rfl
    | some u =>
      have z := o.gr.nw b u q (p.fs b o1 hb)
      rw [hd] at z; cases z
  refine ⟨⟨fun b u hb => ?_, Same.trans p.ok.s0 o.gr.ss, o.sh, fun b u hb hn => ?_, p.ok.len, fun i s hs => ?_, fun i j d e l hi => absurd hi (p.no i d)⟩, p.no, fun b u hb => ?_, fun b u hb => ?_, fun b u hb => ?_⟩
  · refine o.gr.hh b u ((del2_ne (fun z => ?_) fun z => ?_).trans (p.ok.h0 b u hb))
    · rw [z, p.f0 l1 _ f1] at hb; cases hb
    · rw [z, p.f0 l2 _ f2] at hb; cases hb
  · cases q : S b with
    | some v => exact p.ok.nw b v q hn
    | none =>
      have z := o.gr.nw b u hb q
      cases y : H0 b with
      | none => rfl
      | some v =>
        have y2 := p.ok.h0 b v y
        rw [del2_ne (fun x => by rw [x, p.f0 l1 _ f1] at y; cases y) (fun x => by rw [x, p.f0 l2 _ f2] at y; cases y), y2] at z
        cases z
  · have q := p.ok.en i s hs
    cases s with
    | un => trivial
    | tw _ _ => trivial
    | sh d => obtain ⟨v, a, b⟩ := q; exact ⟨v, a, b.ex o.gr.ss⟩
    | ow d => exact absurd hs (p.no i d)
  · by_cases h2 : b = l2
    · subst h2; rw [upd_same] at hb; cases hb; exact o.h2
    · rw [upd_ne h2] at hb
      by_cases h1 : b = l1
      · subst h1; rw [upd_same] at hb; cases hb; exact o.h1
      · rw [upd_ne h1] at hb; exact (fro hb h1 h2).2
  · by_cases h2 : b = l2
    · subst h2; exact o.s2
    · rw [upd_ne h2] at hb
      by_cases h1 : b = l1
      · subst h1; exact o.s1
      · rw [upd_ne h1] at hb; exact (fro hb h1 h2).1
  · by_cases h2 : b = l2
    · subst h2; exact p.f0 _ _ f2
    · rw [upd_ne h2] at hb
      by_cases h1 : b = l1
      · subst h1; exact p.f0 _ _ f1
      · rw [upd_ne h1] at hb; exact p.f0 _ _ hb
section
variable {P : Program} {w : World} {K : PySem.W.Frag} {mg : Str → Option Value} {base : Heap} {k : Nat} {x qual : Str} {params : Arguments} {body : List Stmt} {scope : Scope} {dvs : List V} {kws : List (Str × V)} {f : Addr} {fd : FuncData} {N ps : List Str} {emb : Addr → Addr → List V → List V}
abbrev bodyC (P : Program) (w : World) (K : PySem.W.Frag) (mg : Str → Option Value) (base : Heap) (N : List Str) (qual : Str) (scope : Scope) (f : Addr) (cdv : Value) (A : Around) (outer : List Env) (s : Shared) (H : Hp) (E : XK) : Unit → Cx := fun _ => cxOf (L2.CX P w) P w K mg base N qual scope f cdv A outer s H E
/-- the private start -/
theorem MIn.pv {S H : Hp} {vs : List V} {l1 l2 : Addr} {us xs1 xs2 : List V} {ds ds1 ds2 : List D} {gs : Gm} (m : MIn K emb S H vs l1 l2 us xs1 xs2 ds ds1 ds2) (hl : gs.length = vs.length) (hN : vs.length ≤ N.length) (h : ∀ (i : Nat) (t : Slot), gs[i]? = some t → t = .un ∨ ∃ d v, t = .sh d ∧ vs[i]? = some v ∧ Dat K S v d) :
    Pv K (gs ++ List.replicate (N.length - gs.length) .un) (two l1 l2 xs1 xs2) (del2 H l1 l2) S S H (L2.start N vs) := by
  refine ⟨ok_startP m.sh (fun b o hb => (del2_some hb).1) hl hN h, noOw_start fun i d hi => ?_, fun b o hb => ?_, fun b o hb => ?_, fun b o hb => ?_⟩
  · rcases h i _ hi with z | ⟨_, _, z, _⟩ <;> cases z
  · rcases two_some hb with ⟨rfl, rfl⟩ | ⟨rfl, _, rfl⟩
    · exact m.h1
    · exact m.h2
  · rcases two_some hb with ⟨rfl, rfl⟩ | ⟨rfl, _, rfl⟩
    · exact m.s1
    · exact m.s2
  · rcases two_some hb with ⟨rfl, rfl⟩ | ⟨rfl, _, rfl⟩
    · exact if_pos (.inl rfl)
    · exact if_pos (.inr rfl)
/-- the end of such a body -/
theorem MIn.out {S H S' H' F' : Hp} {vs : List V} {l1 l2 : Addr} {us xs1 xs2 ys1 ys2 : List V} {ds ds1 ds2 es1 es2 : List D} {γ : Gm} {σ : L2.St} (p : Pv K γ F' (del2 H l1 l2) S S' H' σ) (f1 : F' l1 = some (.lst ys1)) (f2 : F' l2 = some (.lst ys2)) (d1 : Dats K S' ys1 es1) (d2 : Dats K S' ys2 es2) : MOut K S H l1 l2 S' H' ys1 ys2 es1 es2 :=
  ⟨⟨p.ok.s0, p.ok.h0, p.ok.nw⟩, p.ok.sh, p.fs _ _ f1, p.fs _ _ f2, p.fh _ _ f1, p.fh _ _ f2, d1, d2⟩
theorem fnm_data {Pr : List D → List D → List D → D → List D → List D → Prop} (F : FunD K x qual params body scope dvs kws f fd) (Sc : FnScope N ps scope) (hemb : ∀ l1 l2 us, (emb l1 l2 us).length = us.length + 2) (len : ∀ ds1 ds2 ds r es1 es2, Pr ds1 ds2 ds r es1 es2 → ds.length + 2 = ps.length)
    (h : ∀ (cdv : Value) (A : Around) (outer : List Env) (s : Shared) (H : Hp) (E : XK), Fx (bodyC P w K mg base N qual scope f cdv A outer s H E) P w K mg base N k → ∀ (S : Hp) (vs : List V) (l1 l2 : Addr) (us xs1 xs2 : List V) (ds ds1 ds2 : List D) (r : D) (es1 es2 : List D) (D : Ends), MIn K emb S H vs l1 l2 us xs1 xs2 ds ds1 ds2 → Pr ds1 ds2 ds r es1 es2 → vs.length ≤ N.length →
      (∀ v S' H' ys1 ys2, MOut K S H l1 l2 S' H' ys1 ys2 es1 es2 → Dat K S' v r → D.rt v H' ∧ (r = .non → ∀ σ, D.nx σ H')) → anySs (bodyC P w K mg base N qual scope f cdv A outer s H E) body D (L2.start N vs) H) : FnOk P w K mg base (L2.CX P w) (k + 1) f fd ps (spM K emb Pr) := by
  have hvl : ∀ {vs H} {S : Hp} {l1 l2 : Addr} {us xs1 xs2 : List V} {ds ds1 ds2 : List D} {r : D} {es1 es2 : List D}, MIn K emb S H vs l1 l2 us xs1 xs2 ds ds1 ds2 → Pr ds1 ds2 ds r es1 es2 → vs.length = ps.length := fun {vs H S l1 l2 us xs1 xs2 ds ds1 ds2 r es1 es2} m hp => by
    rw [m.ev, hemb, m.du.length]; exact len _ _ _ _ _ _ hp
  refine F.ok Sc (fun vs H Q E ⟨S, l1, l2, us, xs1, xs2, ds, ds1, ds2, r, es1, es2, m, hp, _⟩ => hvl m hp) fun cdv A outer s H vs Q E hr ⟨S, l1, l2, us, xs1, xs2, ds, ds1, ds2, r, es1, es2, m, hp, q⟩ => ?_
  have fx : Fx (bodyC P w K mg base N qual scope f cdv A outer s H E) P w K mg base N k := ⟨fun _ => rfl, fun _ => rfl, fun _ => rfl, fun _ => rfl, fun _ => rfl, fun _ => rfl, Sc.nd, fun _ => rfl, fun _ => hr⟩
  have hpl : vs.length ≤ N.length := by
    have h1 := congrArg List.length Sc.pre
    rw [List.length_take] at h1
    have := hvl m hp
    omega
  refine ⟨_, pss_any (Xs := bodyC P w K mg base N qual scope f cdv A outer s H E) body (), h cdv A outer s H E fx S vs l1 l2 us xs1 xs2 ds ds1 ds2 r es1 es2 _ m hp hpl fun v S' H' ys1 ys2 o dv => ⟨q v S' H' ys1 ys2 o dv, fun e σ => ?_⟩⟩
  subst e
  exact q .non S' H' ys1 ys2 o .non
theorem fnmx_data {Pr : List D → List D → List D → Str → List (Str × D) → Prop} (F : FunD K x qual params body scope dvs kws f fd) (Sc : FnScope N ps scope) (hemb : ∀ l1 l2 us, (emb l1 l2 us).length = us.length + 2) (len : ∀ ds1 ds2 ds c fds, Pr ds1 ds2 ds c fds → ds.length + 2 = ps.length)
    (h : ∀ (cdv : Value) (A : Around) (outer : List Env) (s : Shared) (H : Hp) (E : XK), Fx (bodyC P w K mg base N qual scope f cdv A outer s H E) P w K mg base N k → (∀ i, L2.Takes (bodyC P w K mg base N qual scope f cdv A outer s H E i) (fun cls d _ H => E cls d H)) → ∀ (S : Hp) (vs : List V) (l1 l2 : Addr) (us xs1 xs2 : List V) (ds ds1 ds2 : List D) (c : Str) (fds : List (Str × D)) (D : Ends), MIn K emb S H vs l1 l2 us xs1 xs2 ds ds1 ds2 → Pr ds1 ds2 ds c fds → vs.length ≤ N.length →
      (∀ dx S' H', Gr S (del2 H l1 l2) S' H' → Sub S' H' → (del2 H l1 l2) dx = none → XfAt K S' H' dx fds → E (.ref (He.ga K c)) (some dx) H') → anySs (bodyC P w K mg base N qual scope f cdv A outer s H E) body D (L2.start N vs) H) : FnOk P w K mg base (L2.CX P w) (k + 1) f fd ps (spMX K emb Pr) := by
  have hvl : ∀ {vs H} {S : Hp} {l1 l2 : Addr} {us xs1 xs2 : List V} {ds ds1 ds2 : List D} {c : Str} {fds : List (Str × D)}, MIn K emb S H vs l1 l2 us xs1 xs2 ds ds1 ds2 → Pr ds1 ds2 ds c fds → vs.length = ps.length := fun {vs H S l1 l2 us xs1 xs2 ds ds1 ds2 c fds} m hp => by
    rw [m.ev, hemb, m.du.length]; exact len _ _ _ _ _ hp
  refine F.ok Sc (fun vs H Q E ⟨S, l1, l2, us, xs1, xs2, ds, ds1, ds2, c, fds, m, hp, _⟩ => hvl m hp) fun cdv A outer s H vs Q E hr ⟨S, l1, l2, us, xs1, xs2, ds, ds1, ds2, c, fds, m, hp, q⟩ => ?_
  have fx : Fx (bodyC P w K mg base N qual scope f cdv A outer s H E) P w K mg base N k := ⟨fun _ => rfl, fun _ => rfl, fun _ => rfl, fun _ => rfl, fun _ => rfl, fun _ => rfl, Sc.nd, fun _ => rfl, fun _ => hr⟩
  have hpl : vs.length ≤ N.length := by
    have h1 := congrArg List.length Sc.pre
    rw [List.length_take] at h1
    have := hvl m hp
    omega
  exact ⟨_, pss_any (Xs := bodyC P w K mg base N qual scope f cdv A outer s H E) body (), h cdv A outer s H E fx (fun i => takes_of rfl rfl rfl rfl) S vs l1 l2 us xs1 xs2 ds ds1 ds2 c fds _ m hp hpl q⟩
end
end Wd
set_option Elab.async false
set_option linter.all false
set_option maxRecDepth 100000
set_option maxHeartbeats 1000000
/-! Statement by statement with private lists: tests, append, calls, a raise, a try whose clause raises on. -/
namespace Wd
open PySem PySem.Spec L2
open PyProof.Rows hiding St
section
variable {ι : Type} {Xs : ι → Cx} {W : WX} {P : Program} {w : World} {K : PySem.W.Frag} {mg : Str → Option Value} {base : Heap} {N : List Str} {k j : Nat} {γ γ' : Gm} {d : D} {ds : List D} {e cnd : Expr} {es : List Expr} {pos p pos' npos apos : Pos} {x c fld : Str} {tv : Bool} {st : Stmt} {sts sts' : List Stmt} {f : Addr} {fd : FuncData} {ps : List Str} {H0 S0 S H F : Hp} {σ : L2.St} {D : Ends} {fds : List (Str × Wd.D)} {emb : Addr → Addr → List V → List V} {l1 l2 : Addr} {xs1 xs2 : List V} {ds1 ds2 : List Wd.D}
theorem Pv.backG (p : Pv K γ F H0 S0 S H σ) {H' : Hp} (e : Ex H H') : Pv K γ F H0 S0 S H' σ := p.back e
/-- if, its test over the private heap seen as known -/
theorem as_if (pv : Pv K γ F H0 S0 S H σ) (ok : Ok K H0 S0 (uni S F) H σ γ') (hc : PTD K Xs cnd γ' tv) (hT : tv = true → ∀ H', Pv K γ F H0 S0 S H' σ → Ex H H' → anySs Xs sts D σ H') (hF : tv = false → ∀ H', Pv K γ F H0 S0 S H' σ → Ex H H' → anySs Xs sts' D σ H') : anyS Xs (.If cnd sts sts' pos) D σ H := by
  cases tv with
  | true => exact ⟨_, fun i => ps_if (pt_any cnd i) (pss_any sts i) pss_never, hc H0 S0 (uni S F) H σ ok _ fun S' H' g s => iteT (hT rfl H' (pv.back g.hh) g.hh)⟩
  | false => exact ⟨_, fun i => ps_if (pt_any cnd i) pss_never (pss_any sts' i), hc H0 S0 (uni S F) H σ ok _ fun S' H' g s => iteF (hF rfl H' (pv.back g.hh) g.hh)⟩
/-- x.append(e), x a private list -/
theorem as_append (fx : Fx Xs P w K mg base N k) (i : Nat) {l : Addr} {xs : List V} (pv : Pv K γ F H0 S0 S H σ) (hσ : σ[i]? = some (some (.ref l))) (hF : F l = some (.lst xs)) (he : PED K Xs e γ (.sh d)) (hl : xs.length < sizeLine)
    (q : ∀ v S' H', Pv K γ (upd F l (.lst (xs ++ [v]))) H0 S0 S' H' σ → Dat K S' v d → Ex S S' → D.nx σ H') (hN : N[i]? = some x := by rfl) (hv : ∀ j, Vis (Xs j).env.scope x := by first | exact fun _ => Or.inl rfl | exact fun _ => Or.inr (Or.inl rfl) | exact fun _ => Or.inr (Or.inr rfl))
    (hd : (x == ("__debug__" : Str)) = false := by decide) (hcd : (x == ("__classdict__" : Str)) = false := by decide) (hbase : ∀ j, attributeBase (.Name x npos) "append" (Xs j).env (eval (.Name x npos) (Xs j).env) = eval (.Name x npos) (Xs j).env := by exact fun _ => rfl)
    (hfew : ∀ j, ((backTo pos (starEach [e] (Xs j).env)).all (fun x => !x.1) && (backToKw pos (keywordEach [] (Xs j).env)).all (fun x => x.1.isSome) && decide (([e] : List Expr).length + ([] : List Keyword).length + (if ([] : List Keyword).isEmpty then 0 else 1) < 30)) = true := by exact fun _ => rfl)
    (hline : (apos.endLine == pos.line) = true := by rfl) (hs : ∀ j, starEach [e] (Xs j).env = (false, eval e (Xs j).env) :: starEach [] (Xs j).env := by exact fun _ => rfl) (hplain : ∀ j, (backTo pos (starEach [] (Xs j).env)).any (·.1) = false := by exact fun _ => rfl)
    (hsw : ∀ j, swapsWith (.Call (.Attribute (.Name x npos) "append" apos) [e] [] pos) none pos'.line (Xs j).env = pure false := by exact fun _ => rfl) : anyS Xs (.Expr (.Call (.Attribute (.Name x npos) "append" apos) [e] [] pos) pos') D σ H := by
  refine ⟨tDrop (tBM K "list" rAppend (tVar i) (tCons (anyE Xs e) tNil)), fun j => ps_expr ?_ (hsw j), ?_⟩
  · have z := pe_bm (X := Xs j) (r := rAppend) PySem.F.plainAttrs_list PySem.F.slot_list_append PySem.F.type_list_append mt_append (pe_self i fx hN hv hd hcd j) (pa_cons (pe_any e j) pa_nil (hs j)) (hbase j) (hfew j) hline (hs j) (hplain j)
    rw [fx.hK j] at z
    exact z
  · refine ⟨_, hσ, .inl ⟨rfl, xs, SqL.of (pv.fh _ _ hF)⟩, pv.eval he fun v S' H' pv' g s r => ⟨l, xs, v, rfl, rfl, pv'.fh _ _ hF, hl, q v S' _ (pv'.mut hF _) r g.ss⟩⟩
/-- the arguments of such a call -/
def MArgs (K : PySem.W.Frag) (emb : Addr → Addr → List V → List V) (l1 l2 : Addr) (ds : List Wd.D) (ta : TA) (γ : Gm) (F H0 S0 S H : Hp) (σ : L2.St) : Prop := ∀ Q : List V → Hp → Prop, (∀ us S' H', Pv K γ F H0 S0 S' H' σ → Gr S H S' H' → Dats K S' us ds → Q (emb l1 l2 us) H') → ta σ H Q
theorem Pv.min (pv : Pv K γ F H0 S0 S H σ) {us : List V} {S' H' : Hp} (pv' : Pv K γ F H0 S0 S' H' σ) (f1 : F l1 = some (.lst xs1)) (f2 : F l2 = some (.lst xs2)) (ne : l1 ≠ l2) (d1 : Dats K S' xs1 ds1) (d2 : Dats K S' xs2 ds2) (du : Dats K S' us ds) : MIn K emb S' H' (emb l1 l2 us) l1 l2 us xs1 xs2 ds ds1 ds2 :=
  ⟨rfl, ne, pv'.fh _ _ f1, pv'.fh _ _ f2, pv'.fs _ _ f1, pv'.fs _ _ f2, pv'.ok.sh, d1, d2, du⟩
theorem as_callM {Pr : List Wd.D → List Wd.D → List Wd.D → Wd.D → List Wd.D → List Wd.D → Prop} {r : Wd.D} {es1 es2 : List Wd.D} {Q : VK} (fx : Fx Xs P w K mg base N k) (G : FnOk P w K mg base (L2.CX P w) j f fd ps (spM K emb Pr)) (hm : mg x = some (.ref f)) (hk : PySem.W.keepIn K (.ref f) = true) (B : Binds K fd ps [])
    (pv : Pv K γ F H0 S0 S H σ) (ha : MArgs K emb l1 l2 ds (anyA Xs (e :: es)) γ F H0 S0 S H σ) (f1 : F l1 = some (.lst xs1)) (f2 : F l2 = some (.lst xs2)) (ne : l1 ≠ l2) (d1 : Dats K S xs1 ds1) (d2 : Dats K S xs2 ds2) (h : Pr ds1 ds2 ds r es1 es2)
    (q : ∀ v S' H' ys1 ys2, Pv K γ (upd (upd F l1 (.lst ys1)) l2 (.lst ys2)) H0 S0 S' H' σ → Dat K S' v r → Dats K S' ys1 es1 → Dats K S' ys2 es2 → Ex S S' → Q v H') (hj : j ≤ k := by decide) (hg : ∀ i, Gl (Xs i) x := by exact fun _ => rfl) (hdb : (x == ("__debug__" : Str)) = false := by decide)
    (he : ∀ i, starEach (e :: es) (Xs i).env = (false, eval e (Xs i).env) :: starEach es (Xs i).env := by exact fun _ => rfl) (hpl : ∀ i, (backTo pos (starEach es (Xs i).env)).any (·.1) = false := by exact fun _ => rfl) : anyE Xs (.Call (.Name x p) (e :: es) [] pos) σ H Q := by
  refine ⟨tCall (spM K emb Pr) [] E0 (anyA Xs (e :: es)), fun i => pe_call (fx.fn G i) ((fx.room i).mono hj) (hg i) (by rw [fx.hmg i]; exact hm) (by rw [fx.hK i]; exact hk) (fx.binds B i) .nil passL (pa_any (e :: es) i) hdb (he i) (hpl i), ?_⟩
  refine ha _ fun us S' H' pv' g du => ?_
  show spM K emb Pr (emb l1 l2 us ++ []) H' Q E0
  rw [List.append_nil]
  exact ⟨S', l1, l2, us, xs1, xs2, ds, ds1, ds2, r, es1, es2, pv.min pv' f1 f2 ne (d1.ex g.ss) (d2.ex g.ss) du, h, fun v S2 H2 ys1 ys2 o dv => q v S2 H2 ys1 ys2 (pv'.after f1 f2 o) dv o.d1 o.d2 (Same.trans g.ss o.gr.ss)⟩
/-- such a call that raises -/
theorem as_callMX {Pr : List Wd.D → List Wd.D → List Wd.D → Str → List (Str × Wd.D) → Prop} {Q : VK} (fx : Fx Xs P w K mg base N k) (tk : ∀ i, L2.Takes (Xs i) W) (G : FnOk P w K mg base (L2.CX P w) j f fd ps (spMX K emb Pr)) (hm : mg x = some (.ref f)) (hk : PySem.W.keepIn K (.ref f) = true) (B : Binds K fd ps [])
    (pv : Pv K γ F H0 S0 S H σ) (ha : MArgs K emb l1 l2 ds (anyA Xs (e :: es)) γ F H0 S0 S H σ) (f1 : F l1 = some (.lst xs1)) (f2 : F l2 = some (.lst xs2)) (ne : l1 ≠ l2) (d1 : Dats K S xs1 ds1) (d2 : Dats K S xs2 ds2) (h : Pr ds1 ds2 ds c fds)
    (q : ∀ dx S' H', Gr S0 H0 S' H' → Sub S' H' → H0 dx = none → XfAt K S' H' dx fds → W (.ref (He.ga K c)) (some dx) σ H') (hj : j ≤ k := by decide) (hg : ∀ i, Gl (Xs i) x := by exact fun _ => rfl) (hdb : (x == ("__debug__" : Str)) = false := by decide)
    (he : ∀ i, starEach (e :: es) (Xs i).env = (false, eval e (Xs i).env) :: starEach es (Xs i).env := by exact fun _ => rfl) (hpl : ∀ i, (backTo pos (starEach es (Xs i).env)).any (·.1) = false := by exact fun _ => rfl) : anyE Xs (.Call (.Name x p) (e :: es) [] pos) σ H Q := by
  refine ⟨tCallS (spMX K emb Pr) (WE W) (anyA Xs (e :: es)), fun i => pe_callS (p := p) (pos := pos) (E := WE W) (fx.fn G i) ((fx.room i).mono hj) (hg i) (by rw [fx.hmg i]; exact hm) (by rw [fx.hK i]; exact hk) (fx.binds B i) (fun σ => L2.passAt (tk i) σ) (pa_any (e :: es) i) hdb (he i) (hpl i), ?_⟩
  refine ha _ fun us S' H' pv' g du => ⟨S', l1, l2, us, xs1, xs2, ds, ds1, ds2, c, fds, pv.min pv' f1 f2 ne (d1.ex g.ss) (d2.ex g.ss) du, h, fun dx S2 H2 g2 s2 hd xf => ?_⟩
  have hx : Ex H0 H2 := fun b u hb => g2.hh b u ((del2_ne (fun z => by rw [z, pv.f0 l1 _ f1] at hb; cases hb) fun z => by rw [z, pv.f0 l2 _ f2] at hb; cases hb).trans (pv'.ok.h0 b u hb))
  refine q dx S2 H2 ⟨Same.trans pv'.ok.s0 g2.ss, hx, fun b u hb hn => ?_⟩ s2 ?_ xf
  · cases z : S' b with
    | some v => exact pv'.ok.nw b v z hn
    | none =>
      have y := g2.nw b u hb z
      cases y0 : H0 b with
      | none => rfl
      | some v =>
        rw [del2_ne (fun x => by rw [x, pv.f0 l1 _ f1] at y0; cases y0) (fun x => by rw [x, pv.f0 l2 _ f2] at y0; cases y0), pv'.ok.h0 b v y0] at y
        cases y
  · cases y0 : H0 dx with
    | none => rfl
    | some v =>
      rw [del2_ne (fun x => by rw [x, pv.f0 l1 _ f1] at y0; cases y0) (fun x => by rw [x, pv.f0 l2 _ f2] at y0; cases y0), pv'.ok.h0 dx v y0] at hd
      cases hd
/-- raise C(e), with private lists beside -/
theorem as_raise (h : PXSF K Xs W st γ c fds) (pv : Pv K γ F H0 S0 S H σ) (q : ∀ dx S' H' σ', Gr S0 H0 S' H' → Sub S' H' → H0 dx = none → XfAt K S' H' dx fds → W (.ref (He.ga K c)) (some dx) σ' H') : anyS Xs st D σ H :=
  h H0 S0 S H σ D pv.ok fun dx S' H' σ' g s hd xf => q dx S' H' σ' ((⟨pv.ok.s0, pv.ok.h0, pv.ok.nw⟩ : Gr S0 H0 S H).trans g) s (Ex.back pv.ok.h0 hd) xf
theorem as_expr (h : anyE Xs e σ H fun _ H1 => D.nx σ H1) (hs : ∀ j, swapsWith e none pos.line (Xs j).env = pure false := by exact fun _ => rfl) : anyS Xs (.Expr e pos) D σ H :=
  ⟨tDrop (anyE Xs e), fun j => ps_expr (pe_any e j) (hs j), h⟩
theorem as_ret (h : anyE Xs e σ H D.rt) : anyS Xs (.Return (some e) pos) D σ H := ⟨tRet (anyE Xs e), fun i => ps_ret (pe_any e i), h⟩
theorem rs_nil (h : D.nx σ H) : anySs Xs [] D σ H := ⟨tNext, fun _ => pss_nil, h⟩
/-- a list's truth -/
theorem ptd_truthL (fx : Fx Xs P w K mg base N k) (he : PED K Xs e γ (.sh d)) (hd : IsL d ds) (ht : ∀ i, ∀ whole, isTrue e (Xs i).env whole = (do let v ← whole; standAt e.pos; holding [v] (truthy v)) := by exact fun _ _ => rfl) : PTD K Xs e γ (!ds.isEmpty) :=
  .of (t := fun σ H Q => anyE Xs e σ H fun x H' => ∃ k, TruV K x H' k ∧ Q k H') (fun i => by
    have z := pt_truth (X := Xs i) (pe_any e i) (ht i)
    rw [fx.hK i] at z
    exact z) fun H0 S0 S H σ k Q q => he H0 S0 S H σ k _ fun v S1 H1 g1 s1 r1 => by
    obtain ⟨p, xs, rfl, hq, t⟩ := isL_of hd r1 s1
    refine ⟨!xs.isEmpty, .inl ⟨xs, hq, rfl⟩, ?_⟩
    have e : xs.isEmpty = ds.isEmpty := by cases t <;> rfl
    rw [e]
    exact q S1 H1 g1 s1
end
end Wd
set_option Elab.async false
set_option linter.all false
set_option maxRecDepth 100000
set_option maxHeartbeats 4000000
namespace K9
open PySem PySem.Spec L2 Wd
open PyProof.Rows hiding St
abbrev N__wall : List Str := ["k"]
theorem sc__wall : FnScope N__wall ["k"] (defScope s__wall) := ⟨rfl, rfl, rfl, by decide +kernel, rfl, by decide +kernel, by decide +kernel⟩
abbrev N_BadRows_init : List Str := ["self", "row"]
abbrev N_is_whole : List Str := ["value"]
theorem sc_is_whole : FnScope N_is_whole ["value"] (defScope s_is_whole) := ⟨rfl, rfl, rfl, by decide +kernel, rfl, by decide +kernel, by decide +kernel⟩
abbrev N_is_number : List Str := ["value", "least", "most"]
theorem sc_is_number : FnScope N_is_number ["value", "least", "most"] (defScope s_is_number) := ⟨rfl, rfl, rfl, by decide +kernel, rfl, by decide +kernel, by decide +kernel⟩
abbrev N_is_name : List Str := ["value", "letter"]
theorem sc_is_name : FnScope N_is_name ["value"] (defScope s_is_name) := ⟨rfl, rfl, rfl, by decide +kernel, rfl, by decide +kernel, by decide +kernel⟩
abbrev N_are_unlike_names : List Str := ["values", "value"]
theorem sc_are_unlike_names : FnScope N_are_unlike_names ["values"] (defScope s_are_unlike_names) := ⟨rfl, rfl, rfl, by decide +kernel, rfl, by decide +kernel, by decide +kernel⟩
abbrev N_check_names : List Str := ["names"]
theorem sc_check_names : FnScope N_check_names ["names"] (defScope s_check_names) := ⟨rfl, rfl, rfl, by decide +kernel, rfl, by decide +kernel, by decide +kernel⟩
abbrev N_check_word : List Str := ["word", "words"]
theorem sc_check_word : FnScope N_check_word ["word", "words"] (defScope s_check_word) := ⟨rfl, rfl, rfl, by decide +kernel, rfl, by decide +kernel, by decide +kernel⟩
abbrev N_check_number : List Str := ["value", "least", "most"]
theorem sc_check_number : FnScope N_check_number ["value", "least", "most"] (defScope s_check_number) := ⟨rfl, rfl, rfl, by decide +kernel, rfl, by decide +kernel, by decide +kernel⟩
abbrev N_Saying_names : List Str := ["self"]
theorem sc_Saying_names : FnScope N_Saying_names ["self"] (defScope s_Saying_names) := ⟨rfl, rfl, rfl, by decide +kernel, rfl, by decide +kernel, by decide +kernel⟩
abbrev N_Saying_adds : List Str := ["self"]
theorem sc_Saying_adds : FnScope N_Saying_adds ["self"] (defScope s_Saying_adds) := ⟨rfl, rfl, rfl, by decide +kernel, rfl, by decide +kernel, by decide +kernel⟩
abbrev N_Saying_keeps : List Str := ["self", "places"]
theorem sc_Saying_keeps : FnScope N_Saying_keeps ["self", "places"] (defScope s_Saying_keeps) := ⟨rfl, rfl, rfl, by decide +kernel, rfl, by decide +kernel, by decide +kernel⟩
abbrev N_At_init : List Str := ["self", "name", "part", "number"]
theorem sc_At_init : FnScope N_At_init ["self", "name", "part", "number"] (defScope s_At_init) := ⟨rfl, rfl, rfl, by decide +kernel, rfl, by decide +kernel, by decide +kernel⟩
abbrev N_At_names : List Str := ["self"]
theorem sc_At_names : FnScope N_At_names ["self"] (defScope s_At_names) := ⟨rfl, rfl, rfl, by decide +kernel, rfl, by decide +kernel, by decide +kernel⟩
abbrev N_At_adds : List Str := ["self"]
theorem sc_At_adds : FnScope N_At_adds ["self"] (defScope s_At_adds) := ⟨rfl, rfl, rfl, by decide +kernel, rfl, by decide +kernel, by decide +kernel⟩
abbrev N_At_keeps : List Str := ["self", "places"]
theorem sc_At_keeps : FnScope N_At_keeps ["self", "places"] (defScope s_At_keeps) := ⟨rfl, rfl, rfl, by decide +kernel, rfl, by decide +kernel, by decide +kernel⟩
abbrev N_Beside_init : List Str := ["self", "name", "side", "other", "by"]
theorem sc_Beside_init : FnScope N_Beside_init ["self", "name", "side", "other", "by"] (defScope s_Beside_init) := ⟨rfl, rfl, rfl, by decide +kernel, rfl, by decide +kernel, by decide +kernel⟩
abbrev N_Beside_names : List Str := ["self"]
theorem sc_Beside_names : FnScope N_Beside_names ["self"] (defScope s_Beside_names) := ⟨rfl, rfl, rfl, by decide +kernel, rfl, by decide +kernel, by decide +kernel⟩
abbrev N_Beside_adds : List Str := ["self", "begin", "reach", "ahead", "behind"]
theorem sc_Beside_adds : FnScope N_Beside_adds ["self"] (defScope s_Beside_adds) := ⟨rfl, rfl, rfl, by decide +kernel, rfl, by decide +kernel, by decide +kernel⟩
abbrev N_Beside_keeps : List Str := ["self", "places"]
theorem sc_Beside_keeps : FnScope N_Beside_keeps ["self", "places"] (defScope s_Beside_keeps) := ⟨rfl, rfl, rfl, by decide +kernel, rfl, by decide +kernel, by decide +kernel⟩
abbrev N_Alike_init : List Str := ["self", "name", "part", "other", "times"]
theorem sc_Alike_init : FnScope N_Alike_init ["self", "name", "part", "other", "times"] (defScope s_Alike_init) := ⟨rfl, rfl, rfl, by decide +kernel, rfl, by decide +kernel, by decide +kernel⟩
abbrev N_Alike_names : List Str := ["self"]
theorem sc_Alike_names : FnScope N_Alike_names ["self"] (defScope s_Alike_names) := ⟨rfl, rfl, rfl, by decide +kernel, rfl, by decide +kernel, by decide +kernel⟩
abbrev N_Alike_adds : List Str := ["self"]
theorem sc_Alike_adds : FnScope N_Alike_adds ["self"] (defScope s_Alike_adds) := ⟨rfl, rfl, rfl, by decide +kernel, rfl, by decide +kernel, by decide +kernel⟩
abbrev N_Alike_keeps : List Str := ["self", "places"]
theorem sc_Alike_keeps : FnScope N_Alike_keeps ["self", "places"] (defScope s_Alike_keeps) := ⟨rfl, rfl, rfl, by decide +kernel, rfl, by decide +kernel, by decide +kernel⟩
abbrev N_Amid_init : List Str := ["self", "name", "way", "one", "other"]
theorem sc_Amid_init : FnScope N_Amid_init ["self", "name", "way", "one", "other"] (defScope s_Amid_init) := ⟨rfl, rfl, rfl, by decide +kernel, rfl, by decide +kernel, by decide +kernel⟩
abbrev N_Amid_names : List Str := ["self"]
theorem sc_Amid_names : FnScope N_Amid_names ["self"] (defScope s_Amid_names) := ⟨rfl, rfl, rfl, by decide +kernel, rfl, by decide +kernel, by decide +kernel⟩
abbrev N_Amid_adds : List Str := ["self", "begin", "reach", "parts", "name"]
theorem sc_Amid_adds : FnScope N_Amid_adds ["self"] (defScope s_Amid_adds) := ⟨rfl, rfl, rfl, by decide +kernel, rfl, by decide +kernel, by decide +kernel⟩
abbrev N_Amid_keeps : List Str := ["self", "places"]
theorem sc_Amid_keeps : FnScope N_Amid_keeps ["self", "places"] (defScope s_Amid_keeps) := ⟨rfl, rfl, rfl, by decide +kernel, rfl, by decide +kernel, by decide +kernel⟩
abbrev N_check_boxes : List Str := ["names"]
theorem sc_check_boxes : FnScope N_check_boxes ["names"] (defScope s_check_boxes) := ⟨rfl, rfl, rfl, by decide +kernel, rfl, by decide +kernel, by decide +kernel⟩
abbrev N_is_saying_of : List Str := ["value", "names", "name"]
theorem sc_is_saying_of : FnScope N_is_saying_of ["value", "names"] (defScope s_is_saying_of) := ⟨rfl, rfl, rfl, by decide +kernel, rfl, by decide +kernel, by decide +kernel⟩
abbrev N_check_sayings : List Str := ["sayings", "names", "saying"]
theorem sc_check_sayings : FnScope N_check_sayings ["sayings", "names"] (defScope s_check_sayings) := ⟨rfl, rfl, rfl, by decide +kernel, rfl, by decide +kernel, by decide +kernel⟩
abbrev N_check_sheet : List Str := ["value"]
theorem sc_check_sheet : FnScope N_check_sheet ["value"] (defScope s_check_sheet) := ⟨rfl, rfl, rfl, by decide +kernel, rfl, by decide +kernel, by decide +kernel⟩
abbrev N_Sheet_init : List Str := ["self", "names", "sayings"]
theorem sc_Sheet_init : FnScope N_Sheet_init ["self", "names", "sayings"] (defScope s_Sheet_init) := ⟨rfl, rfl, rfl, by decide +kernel, rfl, by decide +kernel, by decide +kernel⟩
abbrev N_Sheet_names : List Str := ["self"]
theorem sc_Sheet_names : FnScope N_Sheet_names ["self"] (defScope s_Sheet_names) := ⟨rfl, rfl, rfl, by decide +kernel, rfl, by decide +kernel, by decide +kernel⟩
abbrev N_Sheet_sayings : List Str := ["self"]
theorem sc_Sheet_sayings : FnScope N_Sheet_sayings ["self"] (defScope s_Sheet_sayings) := ⟨rfl, rfl, rfl, by decide +kernel, rfl, by decide +kernel, by decide +kernel⟩
abbrev N_row_of : List Str := ["saying"]
theorem sc_row_of : FnScope N_row_of ["saying"] (defScope s_row_of) := ⟨rfl, rfl, rfl, by decide +kernel, rfl, by decide +kernel, by decide +kernel⟩
abbrev N_written : List Str := ["sheet", "rows", "name", "saying"]
theorem sc_written : FnScope N_written ["sheet"] (defScope s_written) := ⟨rfl, rfl, rfl, by decide +kernel, rfl, by decide +kernel, by decide +kernel⟩
abbrev N_number_of : List Str := ["word", "digits", "digit", "number"]
theorem sc_number_of : FnScope N_number_of ["word"] (defScope s_number_of) := ⟨rfl, rfl, rfl, by decide +kernel, rfl, by decide +kernel, by decide +kernel⟩
abbrev N_saying_of : List Str := ["words"]
theorem sc_saying_of : FnScope N_saying_of ["words"] (defScope s_saying_of) := ⟨rfl, rfl, rfl, by decide +kernel, rfl, by decide +kernel, by decide +kernel⟩
abbrev N_take_box : List Str := ["names", "sayings", "words", "at", "name"]
theorem sc_take_box : FnScope N_take_box ["names", "sayings", "words", "at"] (defScope s_take_box) := ⟨rfl, rfl, rfl, by decide +kernel, rfl, by decide +kernel, by decide +kernel⟩
abbrev N_take_saying : List Str := ["names", "sayings", "words", "at", "saying"]
theorem sc_take_saying : FnScope N_take_saying ["names", "sayings", "words", "at"] (defScope s_take_saying) := ⟨rfl, rfl, rfl, by decide +kernel, rfl, by decide +kernel, by decide +kernel⟩
abbrev N_read : List Str := ["text", "names", "sayings", "at", "row", "words"]
theorem sc_read : FnScope N_read ["text"] (defScope s_read) := ⟨rfl, rfl, rfl, by decide +kernel, rfl, by decide +kernel, by decide +kernel⟩
abbrev N_l_cell_at : List Str := ["_law_script", "_law_k"]
theorem sc_l_cell_at : FnScope N_l_cell_at ["_law_script", "_law_k"] (defScope s_l_cell_at) := ⟨rfl, rfl, rfl, by decide +kernel, rfl, by decide +kernel, by decide +kernel⟩
abbrev N_l_numbers : List Str := ["_law_cell", "_law_bounds", "_law_left_here", "_law_found", "_law_bound"]
theorem sc_l_numbers : FnScope N_l_numbers ["_law_cell", "_law_bounds"] (defScope s_l_numbers) := ⟨rfl, rfl, rfl, by decide +kernel, rfl, by decide +kernel, by decide +kernel⟩
abbrev N_l_names : List Str := ["_law_cell", "_law_words_here", "_law_start", "_law_many", "_law_k"]
theorem sc_l_names : FnScope N_l_names ["_law_cell"] (defScope s_l_names) := ⟨rfl, rfl, rfl, by decide +kernel, rfl, by decide +kernel, by decide +kernel⟩
abbrev N_l_parts : List Str := []
theorem sc_l_parts : FnScope N_l_parts [] (defScope s_l_parts) := ⟨rfl, rfl, rfl, by decide +kernel, rfl, by decide +kernel, by decide +kernel⟩
abbrev N_l_saying : List Str := ["_law_cell", "_law_names_here", "_law_hidden", "_law_digits", "_law_one", "_law_others", "_law_name", "_law_kind", "_law_part", "_law_spoil", "_law_first", "_law_rest", "_law_said", "_law_side", "_law_many"]
theorem sc_l_saying : FnScope N_l_saying ["_law_cell", "_law_names_here", "_law_hidden"] (defScope s_l_saying) := ⟨rfl, rfl, rfl, by decide +kernel, rfl, by decide +kernel, by decide +kernel⟩
abbrev N_l_by : List Str := ["_law_side", "_law_left_here"]
theorem sc_l_by : FnScope N_l_by ["_law_side", "_law_left_here"] (defScope s_l_by) := ⟨rfl, rfl, rfl, by decide +kernel, rfl, by decide +kernel, by decide +kernel⟩
abbrev N_l_terms : List Str := ["_law_said", "_law_near", "_law_far", "_law_found", "_law_name"]
theorem sc_l_terms : FnScope N_l_terms ["_law_said"] (defScope s_l_terms) := ⟨rfl, rfl, rfl, by decide +kernel, rfl, by decide +kernel, by decide +kernel⟩
abbrev N_l_left : List Str := ["_law_names_here", "_law_said", "_law_hidden", "_law_terms_here", "_law_number_here", "_law_name", "_law_part", "_law_many"]
theorem sc_l_left : FnScope N_l_left ["_law_names_here", "_law_said", "_law_hidden"] (defScope s_l_left) := ⟨rfl, rfl, rfl, by decide +kernel, rfl, by decide +kernel, by decide +kernel⟩
abbrev N_l_sheet : List Str := ["_law_script", "_law_limit", "_law_names_here", "_law_hidden", "_law_k", "_law_said"]
theorem sc_l_sheet : FnScope N_l_sheet ["_law_script", "_law_limit"] (defScope s_l_sheet) := ⟨rfl, rfl, rfl, by decide +kernel, rfl, by decide +kernel, by decide +kernel⟩
abbrev N_l_made : List Str := ["_law_said"]
theorem sc_l_made : FnScope N_l_made ["_law_said"] (defScope s_l_made) := ⟨rfl, rfl, rfl, by decide +kernel, rfl, by decide +kernel, by decide +kernel⟩
abbrev N_l_sheet_of : List Str := ["_law_names_here", "_law_said", "_law_one"]
theorem sc_l_sheet_of : FnScope N_l_sheet_of ["_law_names_here", "_law_said"] (defScope s_l_sheet_of) := ⟨rfl, rfl, rfl, by decide +kernel, rfl, by decide +kernel, by decide +kernel⟩
abbrev N_l_words : List Str := ["_law_said"]
theorem sc_l_words : FnScope N_l_words ["_law_said"] (defScope s_l_words) := ⟨rfl, rfl, rfl, by decide +kernel, rfl, by decide +kernel, by decide +kernel⟩
abbrev N_l_text : List Str := ["_law_names_here", "_law_said", "_law_name", "_law_one"]
theorem sc_l_text : FnScope N_l_text ["_law_names_here", "_law_said"] (defScope s_l_text) := ⟨rfl, rfl, rfl, by decide +kernel, rfl, by decide +kernel, by decide +kernel⟩
abbrev N_l_number : List Str := ["_law_word", "_law_least", "_law_most", "_law_figures", "_law_sign"]
theorem sc_l_number : FnScope N_l_number ["_law_word", "_law_least", "_law_most"] (defScope s_l_number) := ⟨rfl, rfl, rfl, by decide +kernel, rfl, by decide +kernel, by decide +kernel⟩
abbrev N_l_read_saying : List Str := ["_law_words_here", "_law_number_here", "_law_said"]
theorem sc_l_read_saying : FnScope N_l_read_saying ["_law_words_here"] (defScope s_l_read_saying) := ⟨rfl, rfl, rfl, by decide +kernel, rfl, by decide +kernel, by decide +kernel⟩
abbrev N_l_is_name : List Str := ["_law_word", "_law_sign"]
theorem sc_l_is_name : FnScope N_l_is_name ["_law_word"] (defScope s_l_is_name) := ⟨rfl, rfl, rfl, by decide +kernel, rfl, by decide +kernel, by decide +kernel⟩
abbrev N_l_row_taken : List Str := ["_law_words_here", "_law_names_here", "_law_said", "_law_one", "_law_some", "_law_name"]
theorem sc_l_row_taken : FnScope N_l_row_taken ["_law_words_here", "_law_names_here", "_law_said"] (defScope s_l_row_taken) := ⟨rfl, rfl, rfl, by decide +kernel, rfl, by decide +kernel, by decide +kernel⟩
abbrev N_l_read : List Str := ["_law_text_here", "_law_names_here", "_law_said", "_law_rows", "_law_at"]
theorem sc_l_read : FnScope N_l_read ["_law_text_here"] (defScope s_l_read) := ⟨rfl, rfl, rfl, by decide +kernel, rfl, by decide +kernel, by decide +kernel⟩
abbrev N_l_judged : List Str := ["_law_text_here", "_law_row", "_law_names_here", "_law_said", "_law_sheet_here", "e", "_law_made_here", "_law_one", "_law_saying_here"]
theorem sc_l_judged : FnScope N_l_judged ["_law_text_here"] (defScope s_l_judged) := ⟨rfl, rfl, rfl, by decide +kernel, rfl, by decide +kernel, by decide +kernel⟩
abbrev N_l_spoilt : List Str := ["_law_text_here", "_law_cell", "_law_at", "_law_signs", "_law_sign", "_law_pair"]
theorem sc_l_spoilt : FnScope N_l_spoilt ["_law_text_here", "_law_cell"] (defScope s_l_spoilt) := ⟨rfl, rfl, rfl, by decide +kernel, rfl, by decide +kernel, by decide +kernel⟩
abbrev N_l_rows_changed : List Str := ["_law_text_here", "_law_cell", "_law_rows", "_law_at", "_law_more", "_law_pair", "_law_words_here", "_law_place", "_law_some", "_law_word", "_law_rest"]
theorem sc_l_rows_changed : FnScope N_l_rows_changed ["_law_text_here", "_law_cell"] (defScope s_l_rows_changed) := ⟨rfl, rfl, rfl, by decide +kernel, rfl, by decide +kernel, by decide +kernel⟩
abbrev N_l_paper : List Str := ["_law_good", "_law_old", "_law_new", "_law_some", "_law_text_here"]
theorem sc_l_paper : FnScope N_l_paper [] (defScope s_l_paper) := ⟨rfl, rfl, rfl, by decide +kernel, rfl, by decide +kernel, by decide +kernel⟩
abbrev N_law : List Str := ["_law_script", "_law_names_here", "_law_said", "_law_text_here", "_law_k"]
theorem sc_law : FnScope N_law ["_law_script"] (defScope s_law) := ⟨rfl, rfl, rfl, by decide +kernel, rfl, by decide +kernel, by decide +kernel⟩
/-- what the head says of the program -/
structure Env (K : PySem.W.Frag) (mg : Str → Option Value) (w : World) where
  p_ : Unit
  d__wall : FuncData
  F__wall : FunD K "_wall" "_wall" (defArgs s__wall) (defBody s__wall) (defScope s__wall) [] [] (He.ga K "_wall") d__wall
  m__wall : mg "_wall" = some (.ref (He.ga K "_wall"))
  d_is_whole : FuncData
  F_is_whole : FunD K "is_whole" "is_whole" (defArgs s_is_whole) (defBody s_is_whole) (defScope s_is_whole) [] [] (He.ga K "is_whole") d_is_whole
  m_is_whole : mg "is_whole" = some (.ref (He.ga K "is_whole"))
  d_is_number : FuncData
  F_is_number : FunD K "is_number" "is_number" (defArgs s_is_number) (defBody s_is_number) (defScope s_is_number) [] [] (He.ga K "is_number") d_is_number
  m_is_number : mg "is_number" = some (.ref (He.ga K "is_number"))
  d_is_name : FuncData
  F_is_name : FunD K "is_name" "is_name" (defArgs s_is_name) (defBody s_is_name) (defScope s_is_name) [] [] (He.ga K "is_name") d_is_name
  m_is_name : mg "is_name" = some (.ref (He.ga K "is_name"))
  d_are_unlike_names : FuncData
  F_are_unlike_names : FunD K "are_unlike_names" "are_unlike_names" (defArgs s_are_unlike_names) (defBody s_are_unlike_names) (defScope s_are_unlike_names) [] [] (He.ga K "are_unlike_names") d_are_unlike_names
  m_are_unlike_names : mg "are_unlike_names" = some (.ref (He.ga K "are_unlike_names"))
  d_check_names : FuncData
  F_check_names : FunD K "check_names" "check_names" (defArgs s_check_names) (defBody s_check_names) (defScope s_check_names) [] [] (He.ga K "check_names") d_check_names
  m_check_names : mg "check_names" = some (.ref (He.ga K "check_names"))
  d_check_word : FuncData
  F_check_word : FunD K "check_word" "check_word" (defArgs s_check_word) (defBody s_check_word) (defScope s_check_word) [] [] (He.ga K "check_word") d_check_word
  m_check_word : mg "check_word" = some (.ref (He.ga K "check_word"))
  d_check_number : FuncData
  F_check_number : FunD K "check_number" "check_number" (defArgs s_check_number) (defBody s_check_number) (defScope s_check_number) [] [] (He.ga K "check_number") d_check_number
  m_check_number : mg "check_number" = some (.ref (He.ga K "check_number"))
  d_Saying_names : FuncData
  F_Saying_names : FunD K "names" "Saying.names" (defArgs s_Saying_names) (defBody s_Saying_names) (defScope s_Saying_names) [] [] (He.ma K (He.ga K "Saying") "names") d_Saying_names
  M_Saying_names : Meth K (He.ga K "Saying") "names" (He.ma K (He.ga K "Saying") "names")
  d_Saying_adds : FuncData
  F_Saying_adds : FunD K "adds" "Saying.adds" (defArgs s_Saying_adds) (defBody s_Saying_adds) (defScope s_Saying_adds) [] [] (He.ma K (He.ga K "Saying") "adds") d_Saying_adds
  M_Saying_adds : Meth K (He.ga K "Saying") "adds" (He.ma K (He.ga K "Saying") "adds")
  d_Saying_keeps : FuncData
  F_Saying_keeps : FunD K "keeps" "Saying.keeps" (defArgs s_Saying_keeps) (defBody s_Saying_keeps) (defScope s_Saying_keeps) [] [] (He.ma K (He.ga K "Saying") "keeps") d_Saying_keeps
  M_Saying_keeps : Meth K (He.ga K "Saying") "keeps" (He.ma K (He.ga K "Saying") "keeps")
  d_At_init : FuncData
  F_At_init : FunD K "__init__" "At.__init__" (defArgs s_At_init) (defBody s_At_init) (defScope s_At_init) [] [] (He.ma K (He.ga K "At") "__init__") d_At_init
  M_At_init : Mk K (He.ga K "At") (He.ma K (He.ga K "At") "__init__")
  d_At_names : FuncData
  F_At_names : FunD K "names" "At.names" (defArgs s_At_names) (defBody s_At_names) (defScope s_At_names) [] [] (He.ma K (He.ga K "At") "names") d_At_names
  M_At_names : Meth K (He.ga K "At") "names" (He.ma K (He.ga K "At") "names")
  d_At_adds : FuncData
  F_At_adds : FunD K "adds" "At.adds" (defArgs s_At_adds) (defBody s_At_adds) (defScope s_At_adds) [] [] (He.ma K (He.ga K "At") "adds") d_At_adds
  M_At_adds : Meth K (He.ga K "At") "adds" (He.ma K (He.ga K "At") "adds")
  d_At_keeps : FuncData
  F_At_keeps : FunD K "keeps" "At.keeps" (defArgs s_At_keeps) (defBody s_At_keeps) (defScope s_At_keeps) [] [] (He.ma K (He.ga K "At") "keeps") d_At_keeps
  M_At_keeps : Meth K (He.ga K "At") "keeps" (He.ma K (He.ga K "At") "keeps")
  d_Beside_init : FuncData
  F_Beside_init : FunD K "__init__" "Beside.__init__" (defArgs s_Beside_init) (defBody s_Beside_init) (defScope s_Beside_init) [.int 0] [] (He.ma K (He.ga K "Beside") "__init__") d_Beside_init
  M_Beside_init : Mk K (He.ga K "Beside") (He.ma K (He.ga K "Beside") "__init__")
  d_Beside_names : FuncData
  F_Beside_names : FunD K "names" "Beside.names" (defArgs s_Beside_names) (defBody s_Beside_names) (defScope s_Beside_names) [] [] (He.ma K (He.ga K "Beside") "names") d_Beside_names
  M_Beside_names : Meth K (He.ga K "Beside") "names" (He.ma K (He.ga K "Beside") "names")
  d_Beside_adds : FuncData
  F_Beside_adds : FunD K "adds" "Beside.adds" (defArgs s_Beside_adds) (defBody s_Beside_adds) (defScope s_Beside_adds) [] [] (He.ma K (He.ga K "Beside") "adds") d_Beside_adds
  M_Beside_adds : Meth K (He.ga K "Beside") "adds" (He.ma K (He.ga K "Beside") "adds")
  d_Beside_keeps : FuncData
  F_Beside_keeps : FunD K "keeps" "Beside.keeps" (defArgs s_Beside_keeps) (defBody s_Beside_keeps) (defScope s_Beside_keeps) [] [] (He.ma K (He.ga K "Beside") "keeps") d_Beside_keeps
  M_Beside_keeps : Meth K (He.ga K "Beside") "keeps" (He.ma K (He.ga K "Beside") "keeps")
  d_Alike_init : FuncData
  F_Alike_init : FunD K "__init__" "Alike.__init__" (defArgs s_Alike_init) (defBody s_Alike_init) (defScope s_Alike_init) [.int 1] [] (He.ma K (He.ga K "Alike") "__init__") d_Alike_init
  M_Alike_init : Mk K (He.ga K "Alike") (He.ma K (He.ga K "Alike") "__init__")
  d_Alike_names : FuncData
  F_Alike_names : FunD K "names" "Alike.names" (defArgs s_Alike_names) (defBody s_Alike_names) (defScope s_Alike_names) [] [] (He.ma K (He.ga K "Alike") "names") d_Alike_names
  M_Alike_names : Meth K (He.ga K "Alike") "names" (He.ma K (He.ga K "Alike") "names")
  d_Alike_adds : FuncData
  F_Alike_adds : FunD K "adds" "Alike.adds" (defArgs s_Alike_adds) (defBody s_Alike_adds) (defScope s_Alike_adds) [] [] (He.ma K (He.ga K "Alike") "adds") d_Alike_adds
  M_Alike_adds : Meth K (He.ga K "Alike") "adds" (He.ma K (He.ga K "Alike") "adds")
  d_Alike_keeps : FuncData
  F_Alike_keeps : FunD K "keeps" "Alike.keeps" (defArgs s_Alike_keeps) (defBody s_Alike_keeps) (defScope s_Alike_keeps) [] [] (He.ma K (He.ga K "Alike") "keeps") d_Alike_keeps
  M_Alike_keeps : Meth K (He.ga K "Alike") "keeps" (He.ma K (He.ga K "Alike") "keeps")
  d_Amid_init : FuncData
  F_Amid_init : FunD K "__init__" "Amid.__init__" (defArgs s_Amid_init) (defBody s_Amid_init) (defScope s_Amid_init) [] [] (He.ma K (He.ga K "Amid") "__init__") d_Amid_init
  M_Amid_init : Mk K (He.ga K "Amid") (He.ma K (He.ga K "Amid") "__init__")
  d_Amid_names : FuncData
  F_Amid_names : FunD K "names" "Amid.names" (defArgs s_Amid_names) (defBody s_Amid_names) (defScope s_Amid_names) [] [] (He.ma K (He.ga K "Amid") "names") d_Amid_names
  M_Amid_names : Meth K (He.ga K "Amid") "names" (He.ma K (He.ga K "Amid") "names")
  d_Amid_adds : FuncData
  F_Amid_adds : FunD K "adds" "Amid.adds" (defArgs s_Amid_adds) (defBody s_Amid_adds) (defScope s_Amid_adds) [] [] (He.ma K (He.ga K "Amid") "adds") d_Amid_adds
  M_Amid_adds : Meth K (He.ga K "Amid") "adds" (He.ma K (He.ga K "Amid") "adds")
  d_Amid_keeps : FuncData
  F_Amid_keeps : FunD K "keeps" "Amid.keeps" (defArgs s_Amid_keeps) (defBody s_Amid_keeps) (defScope s_Amid_keeps) [] [] (He.ma K (He.ga K "Amid") "keeps") d_Amid_keeps
  M_Amid_keeps : Meth K (He.ga K "Amid") "keeps" (He.ma K (He.ga K "Amid") "keeps")
  d_check_boxes : FuncData
  F_check_boxes : FunD K "check_boxes" "check_boxes" (defArgs s_check_boxes) (defBody s_check_boxes) (defScope s_check_boxes) [] [] (He.ga K "check_boxes") d_check_boxes
  m_check_boxes : mg "check_boxes" = some (.ref (He.ga K "check_boxes"))
  d_is_saying_of : FuncData
  F_is_saying_of : FunD K "is_saying_of" "is_saying_of" (defArgs s_is_saying_of) (defBody s_is_saying_of) (defScope s_is_saying_of) [] [] (He.ga K "is_saying_of") d_is_saying_of
  m_is_saying_of : mg "is_saying_of" = some (.ref (He.ga K "is_saying_of"))
  d_check_sayings : FuncData
  F_check_sayings : FunD K "check_sayings" "check_sayings" (defArgs s_check_sayings) (defBody s_check_sayings) (defScope s_check_sayings) [] [] (He.ga K "check_sayings") d_check_sayings
  m_check_sayings : mg "check_sayings" = some (.ref (He.ga K "check_sayings"))
  d_check_sheet : FuncData
  F_check_sheet : FunD K "check_sheet" "check_sheet" (defArgs s_check_sheet) (defBody s_check_sheet) (defScope s_check_sheet) [] [] (He.ga K "check_sheet") d_check_sheet
  m_check_sheet : mg "check_sheet" = some (.ref (He.ga K "check_sheet"))
  d_Sheet_init : FuncData
  F_Sheet_init : FunD K "__init__" "Sheet.__init__" (defArgs s_Sheet_init) (defBody s_Sheet_init) (defScope s_Sheet_init) [] [] (He.ma K (He.ga K "Sheet") "__init__") d_Sheet_init
  M_Sheet_init : Mk K (He.ga K "Sheet") (He.ma K (He.ga K "Sheet") "__init__")
  d_Sheet_names : FuncData
  F_Sheet_names : FunD K "names" "Sheet.names" (defArgs s_Sheet_names) (defBody s_Sheet_names) (defScope s_Sheet_names) [] [] (He.ma K (He.ga K "Sheet") "names") d_Sheet_names
  M_Sheet_names : Meth K (He.ga K "Sheet") "names" (He.ma K (He.ga K "Sheet") "names")
  d_Sheet_sayings : FuncData
  F_Sheet_sayings : FunD K "sayings" "Sheet.sayings" (defArgs s_Sheet_sayings) (defBody s_Sheet_sayings) (defScope s_Sheet_sayings) [] [] (He.ma K (He.ga K "Sheet") "sayings") d_Sheet_sayings
  M_Sheet_sayings : Meth K (He.ga K "Sheet") "sayings" (He.ma K (He.ga K "Sheet") "sayings")
  d_row_of : FuncData
  F_row_of : FunD K "row_of" "row_of" (defArgs s_row_of) (defBody s_row_of) (defScope s_row_of) [] [] (He.ga K "row_of") d_row_of
  m_row_of : mg "row_of" = some (.ref (He.ga K "row_of"))
  d_written : FuncData
  F_written : FunD K "written" "written" (defArgs s_written) (defBody s_written) (defScope s_written) [] [] (He.ga K "written") d_written
  m_written : mg "written" = some (.ref (He.ga K "written"))
  d_number_of : FuncData
  F_number_of : FunD K "number_of" "number_of" (defArgs s_number_of) (defBody s_number_of) (defScope s_number_of) [] [] (He.ga K "number_of") d_number_of
  m_number_of : mg "number_of" = some (.ref (He.ga K "number_of"))
  d_saying_of : FuncData
  F_saying_of : FunD K "saying_of" "saying_of" (defArgs s_saying_of) (defBody s_saying_of) (defScope s_saying_of) [] [] (He.ga K "saying_of") d_saying_of
  m_saying_of : mg "saying_of" = some (.ref (He.ga K "saying_of"))
  d_take_box : FuncData
  F_take_box : FunD K "take_box" "take_box" (defArgs s_take_box) (defBody s_take_box) (defScope s_take_box) [] [] (He.ga K "take_box") d_take_box
  m_take_box : mg "take_box" = some (.ref (He.ga K "take_box"))
  d_take_saying : FuncData
  F_take_saying : FunD K "take_saying" "take_saying" (defArgs s_take_saying) (defBody s_take_saying) (defScope s_take_saying) [] [] (He.ga K "take_saying") d_take_saying
  m_take_saying : mg "take_saying" = some (.ref (He.ga K "take_saying"))
  d_read : FuncData
  F_read : FunD K "read" "read" (defArgs s_read) (defBody s_read) (defScope s_read) [] [] (He.ga K "read") d_read
  m_read : mg "read" = some (.ref (He.ga K "read"))
  d_l_cell_at : FuncData
  F_l_cell_at : FunD K "_law_cell_at" "_law_cell_at" (defArgs s_l_cell_at) (defBody s_l_cell_at) (defScope s_l_cell_at) [] [] (He.ga K "_law_cell_at") d_l_cell_at
  m_l_cell_at : mg "_law_cell_at" = some (.ref (He.ga K "_law_cell_at"))
  d_l_numbers : FuncData
  F_l_numbers : FunD K "_law_numbers" "_law_numbers" (defArgs s_l_numbers) (defBody s_l_numbers) (defScope s_l_numbers) [] [] (He.ga K "_law_numbers") d_l_numbers
  m_l_numbers : mg "_law_numbers" = some (.ref (He.ga K "_law_numbers"))
  d_l_names : FuncData
  F_l_names : FunD K "_law_names" "_law_names" (defArgs s_l_names) (defBody s_l_names) (defScope s_l_names) [] [] (He.ga K "_law_names") d_l_names
  m_l_names : mg "_law_names" = some (.ref (He.ga K "_law_names"))
  d_l_parts : FuncData
  F_l_parts : FunD K "_law_parts" "_law_parts" (defArgs s_l_parts) (defBody s_l_parts) (defScope s_l_parts) [] [] (He.ga K "_law_parts") d_l_parts
  m_l_parts : mg "_law_parts" = some (.ref (He.ga K "_law_parts"))
  d_l_saying : FuncData
  F_l_saying : FunD K "_law_saying" "_law_saying" (defArgs s_l_saying) (defBody s_l_saying) (defScope s_l_saying) [] [] (He.ga K "_law_saying") d_l_saying
  m_l_saying : mg "_law_saying" = some (.ref (He.ga K "_law_saying"))
  d_l_by : FuncData
  F_l_by : FunD K "_law_by" "_law_by" (defArgs s_l_by) (defBody s_l_by) (defScope s_l_by) [] [] (He.ga K "_law_by") d_l_by
  m_l_by : mg "_law_by" = some (.ref (He.ga K "_law_by"))
  d_l_terms : FuncData
  F_l_terms : FunD K "_law_terms" "_law_terms" (defArgs s_l_terms) (defBody s_l_terms) (defScope s_l_terms) [] [] (He.ga K "_law_terms") d_l_terms
  m_l_terms : mg "_law_terms" = some (.ref (He.ga K "_law_terms"))
  d_l_left : FuncData
  F_l_left : FunD K "_law_left" "_law_left" (defArgs s_l_left) (defBody s_l_left) (defScope s_l_left) [] [] (He.ga K "_law_left") d_l_left
  m_l_left : mg "_law_left" = some (.ref (He.ga K "_law_left"))
  d_l_sheet : FuncData
  F_l_sheet : FunD K "_law_sheet" "_law_sheet" (defArgs s_l_sheet) (defBody s_l_sheet) (defScope s_l_sheet) [] [] (He.ga K "_law_sheet") d_l_sheet
  m_l_sheet : mg "_law_sheet" = some (.ref (He.ga K "_law_sheet"))
  d_l_made : FuncData
  F_l_made : FunD K "_law_made" "_law_made" (defArgs s_l_made) (defBody s_l_made) (defScope s_l_made) [] [] (He.ga K "_law_made") d_l_made
  m_l_made : mg "_law_made" = some (.ref (He.ga K "_law_made"))
  d_l_sheet_of : FuncData
  F_l_sheet_of : FunD K "_law_sheet_of" "_law_sheet_of" (defArgs s_l_sheet_of) (defBody s_l_sheet_of) (defScope s_l_sheet_of) [] [] (He.ga K "_law_sheet_of") d_l_sheet_of
  m_l_sheet_of : mg "_law_sheet_of" = some (.ref (He.ga K "_law_sheet_of"))
  d_l_words : FuncData
  F_l_words : FunD K "_law_words" "_law_words" (defArgs s_l_words) (defBody s_l_words) (defScope s_l_words) [] [] (He.ga K "_law_words") d_l_words
  m_l_words : mg "_law_words" = some (.ref (He.ga K "_law_words"))
  d_l_text : FuncData
  F_l_text : FunD K "_law_text" "_law_text" (defArgs s_l_text) (defBody s_l_text) (defScope s_l_text) [] [] (He.ga K "_law_text") d_l_text
  m_l_text : mg "_law_text" = some (.ref (He.ga K "_law_text"))
  d_l_number : FuncData
  F_l_number : FunD K "_law_number" "_law_number" (defArgs s_l_number) (defBody s_l_number) (defScope s_l_number) [] [] (He.ga K "_law_number") d_l_number
  m_l_number : mg "_law_number" = some (.ref (He.ga K "_law_number"))
  d_l_read_saying : FuncData
  F_l_read_saying : FunD K "_law_read_saying" "_law_read_saying" (defArgs s_l_read_saying) (defBody s_l_read_saying) (defScope s_l_read_saying) [] [] (He.ga K "_law_read_saying") d_l_read_saying
  m_l_read_saying : mg "_law_read_saying" = some (.ref (He.ga K "_law_read_saying"))
  d_l_is_name : FuncData
  F_l_is_name : FunD K "_law_is_name" "_law_is_name" (defArgs s_l_is_name) (defBody s_l_is_name) (defScope s_l_is_name) [] [] (He.ga K "_law_is_name") d_l_is_name
  m_l_is_name : mg "_law_is_name" = some (.ref (He.ga K "_law_is_name"))
  d_l_row_taken : FuncData
  F_l_row_taken : FunD K "_law_row_taken" "_law_row_taken" (defArgs s_l_row_taken) (defBody s_l_row_taken) (defScope s_l_row_taken) [] [] (He.ga K "_law_row_taken") d_l_row_taken
  m_l_row_taken : mg "_law_row_taken" = some (.ref (He.ga K "_law_row_taken"))
  d_l_read : FuncData
  F_l_read : FunD K "_law_read" "_law_read" (defArgs s_l_read) (defBody s_l_read) (defScope s_l_read) [] [] (He.ga K "_law_read") d_l_read
  m_l_read : mg "_law_read" = some (.ref (He.ga K "_law_read"))
  d_l_judged : FuncData
  F_l_judged : FunD K "_law_judged" "_law_judged" (defArgs s_l_judged) (defBody s_l_judged) (defScope s_l_judged) [] [] (He.ga K "_law_judged") d_l_judged
  m_l_judged : mg "_law_judged" = some (.ref (He.ga K "_law_judged"))
  d_l_spoilt : FuncData
  F_l_spoilt : FunD K "_law_spoilt" "_law_spoilt" (defArgs s_l_spoilt) (defBody s_l_spoilt) (defScope s_l_spoilt) [] [] (He.ga K "_law_spoilt") d_l_spoilt
  m_l_spoilt : mg "_law_spoilt" = some (.ref (He.ga K "_law_spoilt"))
  d_l_rows_changed : FuncData
  F_l_rows_changed : FunD K "_law_rows_changed" "_law_rows_changed" (defArgs s_l_rows_changed) (defBody s_l_rows_changed) (defScope s_l_rows_changed) [] [] (He.ga K "_law_rows_changed") d_l_rows_changed
  m_l_rows_changed : mg "_law_rows_changed" = some (.ref (He.ga K "_law_rows_changed"))
  d_l_paper : FuncData
  F_l_paper : FunD K "_law_paper" "_law_paper" (defArgs s_l_paper) (defBody s_l_paper) (defScope s_l_paper) [] [] (He.ga K "_law_paper") d_l_paper
  m_l_paper : mg "_law_paper" = some (.ref (He.ga K "_law_paper"))
  d_law : FuncData
  F_law : FunD K "law" "law" (defArgs s_law) (defBody s_law) (defScope s_law) [] [] (He.ga K "law") d_law
  m_law : mg "law" = some (.ref (He.ga K "law"))
  m_SayError : mg "SayError" = some (.ref (He.ga K "SayError"))
  X_SayError : ExcK K "SayError"
  em_SayError : PySem.W.exmOne K (.ref (He.ga K "SayError")) (.ref (He.ga K "SayError")) = some true
  m_BadSaying : mg "BadSaying" = some (.ref (He.ga K "BadSaying"))
  X_BadSaying : ExcK K "BadSaying"
  em_BadSaying : PySem.W.exmOne K (.ref (He.ga K "BadSaying")) (.ref (He.ga K "BadSaying")) = some true
  m_BadSheet : mg "BadSheet" = some (.ref (He.ga K "BadSheet"))
  X_BadSheet : ExcK K "BadSheet"
  em_BadSheet : PySem.W.exmOne K (.ref (He.ga K "BadSheet")) (.ref (He.ga K "BadSheet")) = some true
  m_BadRows : mg "BadRows" = some (.ref (He.ga K "BadRows"))
  fd_BadRows : FuncData
  E_BadRows : ExcF K "BadRows" "row" fd_BadRows "BadRows.__init__" (defArgs s_BadRows_init) (defBody s_BadRows_init) (defScope s_BadRows_init) PySem.Challenge.pw_wheresay_k09_whole_texts.main.file
  m_Saying : mg "Saying" = some (.ref (He.ga K "Saying"))
  c_Saying : Cls K (He.ga K "Saying")
  o_Saying : OwnC K (He.ga K "Saying")
  m_At : mg "At" = some (.ref (He.ga K "At"))
  c_At : Cls K (He.ga K "At")
  o_At : OwnC K (He.ga K "At")
  na_At_name : NoAttr K (He.ga K "At") "name"
  na_At_part : NoAttr K (He.ga K "At") "part"
  na_At_number : NoAttr K (He.ga K "At") "number"
  m_Beside : mg "Beside" = some (.ref (He.ga K "Beside"))
  c_Beside : Cls K (He.ga K "Beside")
  o_Beside : OwnC K (He.ga K "Beside")
  na_Beside_name : NoAttr K (He.ga K "Beside") "name"
  na_Beside_side : NoAttr K (He.ga K "Beside") "side"
  na_Beside_other : NoAttr K (He.ga K "Beside") "other"
  na_Beside_by : NoAttr K (He.ga K "Beside") "by"
  m_Alike : mg "Alike" = some (.ref (He.ga K "Alike"))
  c_Alike : Cls K (He.ga K "Alike")
  o_Alike : OwnC K (He.ga K "Alike")
  na_Alike_name : NoAttr K (He.ga K "Alike") "name"
  na_Alike_part : NoAttr K (He.ga K "Alike") "part"
  na_Alike_other : NoAttr K (He.ga K "Alike") "other"
  na_Alike_times : NoAttr K (He.ga K "Alike") "times"
  m_Amid : mg "Amid" = some (.ref (He.ga K "Amid"))
  c_Amid : Cls K (He.ga K "Amid")
  o_Amid : OwnC K (He.ga K "Amid")
  na_Amid_name : NoAttr K (He.ga K "Amid") "name"
  na_Amid_way : NoAttr K (He.ga K "Amid") "way"
  na_Amid_one : NoAttr K (He.ga K "Amid") "one"
  na_Amid_other : NoAttr K (He.ga K "Amid") "other"
  m_Sheet : mg "Sheet" = some (.ref (He.ga K "Sheet"))
  c_Sheet : Cls K (He.ga K "Sheet")
  o_Sheet : OwnC K (He.ga K "Sheet")
  na_Sheet_boxes : NoAttr K (He.ga K "Sheet") "boxes"
  na_Sheet_said : NoAttr K (He.ga K "Sheet") "said"
  kt_Saying_Saying : PySem.W.kitOne K (.ref (He.ga K "Saying")) (.ref (He.ga K "Saying")) = some true
  kt_Saying_At : PySem.W.kitOne K (.ref (He.ga K "Saying")) (.ref (He.ga K "At")) = some false
  kt_Saying_Beside : PySem.W.kitOne K (.ref (He.ga K "Saying")) (.ref (He.ga K "Beside")) = some false
  kt_Saying_Alike : PySem.W.kitOne K (.ref (He.ga K "Saying")) (.ref (He.ga K "Alike")) = some false
  kt_Saying_Amid : PySem.W.kitOne K (.ref (He.ga K "Saying")) (.ref (He.ga K "Amid")) = some false
  kt_Saying_Sheet : PySem.W.kitOne K (.ref (He.ga K "Saying")) (.ref (He.ga K "Sheet")) = some false
  kt_At_Saying : PySem.W.kitOne K (.ref (He.ga K "At")) (.ref (He.ga K "Saying")) = some true
  kt_At_At : PySem.W.kitOne K (.ref (He.ga K "At")) (.ref (He.ga K "At")) = some true
  kt_At_Beside : PySem.W.kitOne K (.ref (He.ga K "At")) (.ref (He.ga K "Beside")) = some false
  kt_At_Alike : PySem.W.kitOne K (.ref (He.ga K "At")) (.ref (He.ga K "Alike")) = some false
  kt_At_Amid : PySem.W.kitOne K (.ref (He.ga K "At")) (.ref (He.ga K "Amid")) = some false
  kt_At_Sheet : PySem.W.kitOne K (.ref (He.ga K "At")) (.ref (He.ga K "Sheet")) = some false
  kt_Beside_Saying : PySem.W.kitOne K (.ref (He.ga K "Beside")) (.ref (He.ga K "Saying")) = some true
  kt_Beside_At : PySem.W.kitOne K (.ref (He.ga K "Beside")) (.ref (He.ga K "At")) = some false
  kt_Beside_Beside : PySem.W.kitOne K (.ref (He.ga K "Beside")) (.ref (He.ga K "Beside")) = some true
  kt_Beside_Alike : PySem.W.kitOne K (.ref (He.ga K "Beside")) (.ref (He.ga K "Alike")) = some false
  kt_Beside_Amid : PySem.W.kitOne K (.ref (He.ga K "Beside")) (.ref (He.ga K "Amid")) = some false
  kt_Beside_Sheet : PySem.W.kitOne K (.ref (He.ga K "Beside")) (.ref (He.ga K "Sheet")) = some false
  kt_Alike_Saying : PySem.W.kitOne K (.ref (He.ga K "Alike")) (.ref (He.ga K "Saying")) = some true
  kt_Alike_At : PySem.W.kitOne K (.ref (He.ga K "Alike")) (.ref (He.ga K "At")) = some false
  kt_Alike_Beside : PySem.W.kitOne K (.ref (He.ga K "Alike")) (.ref (He.ga K "Beside")) = some false
  kt_Alike_Alike : PySem.W.kitOne K (.ref (He.ga K "Alike")) (.ref (He.ga K "Alike")) = some true
  kt_Alike_Amid : PySem.W.kitOne K (.ref (He.ga K "Alike")) (.ref (He.ga K "Amid")) = some false
  kt_Alike_Sheet : PySem.W.kitOne K (.ref (He.ga K "Alike")) (.ref (He.ga K "Sheet")) = some false
  kt_Amid_Saying : PySem.W.kitOne K (.ref (He.ga K "Amid")) (.ref (He.ga K "Saying")) = some true
  kt_Amid_At : PySem.W.kitOne K (.ref (He.ga K "Amid")) (.ref (He.ga K "At")) = some false
  kt_Amid_Beside : PySem.W.kitOne K (.ref (He.ga K "Amid")) (.ref (He.ga K "Beside")) = some false
  kt_Amid_Alike : PySem.W.kitOne K (.ref (He.ga K "Amid")) (.ref (He.ga K "Alike")) = some false
  kt_Amid_Amid : PySem.W.kitOne K (.ref (He.ga K "Amid")) (.ref (He.ga K "Amid")) = some true
  kt_Amid_Sheet : PySem.W.kitOne K (.ref (He.ga K "Amid")) (.ref (He.ga K "Sheet")) = some false
  kt_Sheet_Saying : PySem.W.kitOne K (.ref (He.ga K "Sheet")) (.ref (He.ga K "Saying")) = some false
  kt_Sheet_At : PySem.W.kitOne K (.ref (He.ga K "Sheet")) (.ref (He.ga K "At")) = some false
  kt_Sheet_Beside : PySem.W.kitOne K (.ref (He.ga K "Sheet")) (.ref (He.ga K "Beside")) = some false
  kt_Sheet_Alike : PySem.W.kitOne K (.ref (He.ga K "Sheet")) (.ref (He.ga K "Alike")) = some false
  kt_Sheet_Amid : PySem.W.kitOne K (.ref (He.ga K "Sheet")) (.ref (He.ga K "Amid")) = some false
  kt_Sheet_Sheet : PySem.W.kitOne K (.ref (He.ga K "Sheet")) (.ref (He.ga K "Sheet")) = some true
  i_LETTERS : ∃ t, mg "LETTERS" = some (.str "abcdefghijklmnopqrstuvwxyz" t)
  i_LONGEST_NAME : ∃ t, mg "LONGEST_NAME" = some (.int 8 t)
  m_PARTS : mg "PARTS" = some (.ref (He.ga K "PARTS"))
  t_PARTS : ∃ ob its n, (K.lookup (He.ga K "PARTS") = some ob ∧ ob.cls = .type "tuple" ∧ ob.dict = none ∧ ob.data = .seq its n ∧ its.size ≤ sizeLine) ∧ Vals ((["left", "top", "wide", "high"] : List Str).map V.str) its.toList
  m_SIDES : mg "SIDES" = some (.ref (He.ga K "SIDES"))
  k_SIDES : WKeys K (He.ga K "SIDES") ["right", "left", "below", "above"]
  v_SIDES : ∀ z l, (z, l) ∈ ([("right", ["left", "wide"]), ("left", ["left", "wide"]), ("below", ["top", "high"]), ("above", ["top", "high"])] : List (Str × List Str)) → ∃ q, KDct K w (He.ga K "SIDES") z (.ref q) ∧ ∃ ob its n, (K.lookup q = some ob ∧ ob.cls = .type "tuple" ∧ ob.dict = none ∧ ob.data = .seq its n ∧ its.size ≤ sizeLine) ∧ Vals (l.map V.str) its.toList
  m_WAYS : mg "WAYS" = some (.ref (He.ga K "WAYS"))
  k_WAYS : WKeys K (He.ga K "WAYS") ["across", "down"]
  v_WAYS : ∀ z l, (z, l) ∈ ([("across", ["left", "wide"]), ("down", ["top", "high"])] : List (Str × List Str)) → ∃ q, KDct K w (He.ga K "WAYS") z (.ref q) ∧ ∃ ob its n, (K.lookup q = some ob ∧ ob.cls = .type "tuple" ∧ ob.dict = none ∧ ob.data = .seq its n ∧ its.size ≤ sizeLine) ∧ Vals (l.map V.str) its.toList
  i_FARTHEST : ∃ t, mg "FARTHEST" = some (.int 1000 t)
  i_MOST_TIMES : ∃ t, mg "MOST_TIMES" = some (.int 9 t)
  i_MOST_NAMES : ∃ t, mg "MOST_NAMES" = some (.int 6 t)
  i_MOST_SAYINGS : ∃ t, mg "MOST_SAYINGS" = some (.int 16 t)
  i_DIGITS : ∃ t, mg "DIGITS" = some (.str "0123456789" t)
  i_MOST_DIGITS : ∃ t, mg "MOST_DIGITS" = some (.int 4 t)
  b_all : mg "all" = none
  b_bool : mg "bool" = none
  b_enumerate : mg "enumerate" = none
  b_int : mg "int" = none
  b_isinstance : mg "isinstance" = none
  b_len : mg "len" = none
  b_list : mg "list" = none
  b_range : mg "range" = none
  b_set : mg "set" = none
  b_str : mg "str" = none
  b_sum : mg "sum" = none
  b_super : mg "super" = none
end K9
set_option Elab.async false
set_option linter.all false
set_option maxRecDepth 100000
set_option maxHeartbeats 4000000
namespace K9
open PySem PySem.Spec L2 Wd
open PyProof.Rows hiding St

/-! ### names and numbers -/
theorem pd_not {ι : Type} {Xs : ι → Cx} {K : PySem.W.Frag} {γ : Gm} {a : Expr} {pos : Pos} {tv : Bool} (h : PED K Xs a γ (.sh (.bl tv))) : PED K Xs (.UnaryOp .Not a pos) γ (.sh (.bl (!tv))) :=
  .of (fun i => pe_not (pe_any a i)) fun H0 S0 S H σ k Q q => h H0 S0 S H σ k _ fun v S' H' g s r => by
    cases r
    exact ⟨tv, rfl, q _ S' H' g s .bl⟩
def PrWhole (ds : List D) (r : Wd.Slot) : Prop := ∃ v : Int, ds = [.int v] ∧ r = .sh (.bl true)
def letters : Str := "abcdefghijklmnopqrstuvwxyz"
def nameOk (x : Str) : Bool := (decide (1 ≤ (x.length : Int)) && decide ((x.length : Int) ≤ 8)) && x.cps.toList.all fun c => decide (c ∈ letters.cps.toList)
def PrNum (ds : List D) (r : Wd.Slot) : Prop := ∃ v a b : Int, ds = [.int v, .int a, .int b] ∧ r = .sh (.bl (decide (a ≤ v) && decide (v ≤ b)))
def PrName (ds : List D) (r : Wd.Slot) : Prop := ∃ x : Str, x.length ≤ 1000 ∧ ds = [.str x] ∧ r = .sh (.bl (nameOk x))
def unlikeOk (xs : List Str) : Bool := xs.all nameOk && decide (unlikes xs = xs.length)
def PrUnlike (ds : List D) (r : Wd.Slot) : Prop := ∃ xs : List Str, (xs.length ≤ 1000 ∧ ∀ x ∈ xs, x.length ≤ 1000) ∧ ds = [.lst (xs.map .str)] ∧ r = .sh (.bl (unlikeOk xs))
def PrNames (ds : List D) (r : Wd.Slot) : Prop := ∃ xs : List Str, (xs.length ≤ 1000 ∧ ∀ x ∈ xs, x.length ≤ 1000) ∧ unlikeOk xs = true ∧ ds = [.lst (xs.map .str)] ∧ r = .sh .non
theorem inV_mem {x : Str} {xs : List Str} (h : x ∈ xs) : inV (.str x) (xs.map V.str) = true := by
  unfold inV
  rw [List.any_map]
  exact List.any_eq_true.mpr ⟨x, h, beq_self_eq_true x⟩
section
variable {P : Program} {w : World} {K : PySem.W.Frag} {mg : Str → Option Value} {base : Heap} (Z : Env K mg w)
include Z
theorem ok_is_whole : FnOk P w K mg base (L2.CX P w) 1 (He.ga K "is_whole") Z.d_is_whole ["value"] (spD K PrWhole) := by
  refine fn_data Z.F_is_whole sc_is_whole (fun ds r ⟨v, e, _⟩ => (by rw [e]; rfl)) fun cdv A outer s H E fx ds r hp => ?_
  obtain ⟨v, rfl, rfl⟩ := hp
  exact ⟨.rt _, pssd_rt (psd_ret (pd_and (tv := true) (tw := true) (pd_isi fx (pad_cons (pd_var fx 0) (pad_cons (pd_ty fx (n := "int") Z.b_int) pad_nil)) Z.b_isinstance (.one (.bt rfl) rfl rfl)) fun _ => pd_one (pd_not (tv := false) (pd_isi fx (pad_cons (pd_var fx 0) (pad_cons (pd_ty fx (n := "bool") Z.b_bool) pad_nil)) Z.b_isinstance (.one (.bt rfl) rfl rfl))))), .rt⟩
theorem bi_is_whole : Binds K Z.d_is_whole ["value"] [] := Z.F_is_whole.bindsN fun _ _ _ _ _ _ us hl => match us, hl with | [_], _ => rfl
theorem ok_is_number : FnOk P w K mg base (L2.CX P w) 2 (He.ga K "is_number") Z.d_is_number ["value", "least", "most"] (spD K PrNum) := by
  refine fn_data Z.F_is_number sc_is_number (fun ds r ⟨v, a, b, e, _⟩ => (by rw [e]; rfl)) fun cdv A outer s H E fx ds r hp => ?_
  obtain ⟨v, a, b, rfl, rfl⟩ := hp
  exact ⟨.rt _, pssd_rt (psd_ret (pd_cast (congrArg (fun b => Wd.Slot.sh (.bl b)) (Bool.true_and _)) (pd_and (tv := true) (tw := decide (a ≤ v) && decide (v ≤ b)) (pd_call fx (ok_is_whole Z) Z.m_is_whole Z.F_is_whole.kp (bi_is_whole Z) .nil (fun _ => .nil) (pad_cons (pd_var fx 0) pad_nil) ⟨v, rfl, rfl⟩) fun _ => pd_one (pd_within (pd_var fx 1) (pd_var fx 0) (pd_var fx 2))))), .rt⟩
theorem ok_is_name : FnOk P w K mg base (L2.CX P w) 1 (He.ga K "is_name") Z.d_is_name ["value"] (spD K PrName) := by
  refine fn_data Z.F_is_name sc_is_name (fun ds r ⟨x, _, e, _⟩ => (by rw [e]; rfl)) fun cdv A outer s H E fx ds r hp => ?_
  obtain ⟨x, hx, rfl, rfl⟩ := hp
  refine ⟨.rt _, ?_, .rt⟩
  obtain ⟨t1, g1⟩ := Z.i_LONGEST_NAME
  obtain ⟨t2, g2⟩ := Z.i_LETTERS
  refine pssd_ifret (PWD.t (pwd_or (tv := false) (ptd_not (tv := true) (ptd_val (pd_isi fx (pad_cons (pd_var fx 0) (pad_cons (pd_ty fx (n := "str") Z.b_str) pad_nil)) Z.b_isinstance (.one (.bt rfl) rfl rfl)))) fun _ => pwd_or1 (ptd_not (ptd_within pd_int (pd_blt fx (fun _ => call_lenU) Z.b_len (pad_cons (pd_var fx 0) pad_nil) (rc_len (.str (by rw [sizeLine_eq]; omega)))) (pd_globI fx g1))))) (fun h => ?_) (fun h => pssd_rt (psd_ret ?_))
  · have e : nameOk x = false := by
      unfold nameOk
      simp only [Bool.false_or, Bool.not_eq_true'] at h
      rw [h]
      rfl
    rw [e]
    exact pssd_rt (psd_ret pd_bl)
  · have e : nameOk x = x.cps.toList.all fun c => decide (c ∈ letters.cps.toList) := by
      unfold nameOk
      simp only [Bool.false_or, Bool.not_eq_false'] at h
      rw [h]
      rfl
    rw [e]
    exact pd_allC fx [("letter", 1)] x.cps.toList (fun c => D.str ⟨#[c]⟩) _ Z.b_all (pid_str (pd_var fx 0)) (by rw [Array.length_toList, sizeLine_eq]; exact Nat.lt_of_le_of_lt hx (by decide)) fun c hc => ⟨_, _, tgd_name fx.bk 1, fun _ h => h, pd_in fx.bk (pd_var fx.bk 1) (pd_globS fx.bk g2) .sign⟩
theorem bi_is_number : Binds K Z.d_is_number ["value", "least", "most"] [] := Z.F_is_number.bindsN fun _ _ _ _ _ _ us hl => match us, hl with | [_, _, _], _ => rfl
theorem bi_is_name : Binds K Z.d_is_name ["value"] [] := Z.F_is_name.bindsN fun _ _ _ _ _ _ us hl => match us, hl with | [_], _ => rfl
theorem bi_are_unlike_names : Binds K Z.d_are_unlike_names ["values"] [] := Z.F_are_unlike_names.bindsN fun _ _ _ _ _ _ us hl => match us, hl with | [_], _ => rfl
theorem bi_check_names : Binds K Z.d_check_names ["names"] [] := Z.F_check_names.bindsN fun _ _ _ _ _ _ us hl => match us, hl with | [_], _ => rfl
theorem bi_check_word : Binds K Z.d_check_word ["word", "words"] [] := Z.F_check_word.bindsN fun _ _ _ _ _ _ us hl => match us, hl with | [_, _], _ => rfl
theorem bi_check_number : Binds K Z.d_check_number ["value", "least", "most"] [] := Z.F_check_number.bindsN fun _ _ _ _ _ _ us hl => match us, hl with | [_, _, _], _ => rfl
theorem ok_are_unlike_names : FnOk P w K mg base (L2.CX P w) 2 (He.ga K "are_unlike_names") Z.d_are_unlike_names ["values"] (spD K PrUnlike) := by
  refine fn_data Z.F_are_unlike_names sc_are_unlike_names (fun ds r ⟨x, _, e, _⟩ => (by rw [e]; rfl)) fun cdv A outer s H E fx ds r hp => ?_
  obtain ⟨xs, ⟨hx, hy⟩, rfl, rfl⟩ := hp
  refine ⟨.rt _, ?_, .rt⟩
  refine pssd_ifret (tv := !(xs.all nameOk)) (ptd_not (ptd_val (pd_allC fx [("value", 1)] xs (fun x => D.str x) nameOk Z.b_all (pid_list fx .lst (pd_var fx 0)) (by rw [sizeLine_eq]; omega) fun x hm => ⟨_, _, tgd_name fx.bk 1, fun _ h => h, pd_call fx.bk (ok_is_name Z) Z.m_is_name Z.F_is_name.kp (bi_is_name Z) .nil (fun _ => .nil) (pad_cons (pd_var fx.bk 1) pad_nil) ⟨x, hy x hm, rfl, rfl⟩⟩))) (fun h => ?_) (fun h => ?_)
  · have e : unlikeOk xs = false := by
      unfold unlikeOk
      rw [show xs.all nameOk = false by simpa using h]
      rfl
    rw [e]
    exact pssd_rt (psd_ret pd_bl)
  · have e : unlikeOk xs = decide (V.int (unlikes xs : Nat) = V.int (xs.map D.str).length) := by
      unfold unlikeOk
      rw [show xs.all nameOk = true by simpa using h, List.length_map, Bool.true_and]
      exact decide_eq_decide.mpr ⟨fun z => by rw [z], fun z => by injection z with z; exact Int.ofNat.inj z⟩
    rw [e]
    exact pssd_rt (psd_ret (pd_eq fx (pd_lenSet fx (pd_var fx 0) .lst Z.b_len Z.b_set (by omega)) (pd_blt fx (fun _ => call_lenU) Z.b_len (pad_cons (pd_var fx 0) pad_nil) (rc_len (.lst .lst))) (.flat rfl rfl rfl)))
theorem ok_check_names : FnOk P w K mg base (L2.CX P w) 3 (He.ga K "check_names") Z.d_check_names ["names"] (spD K PrNames) := by
  refine fn_data Z.F_check_names sc_check_names (fun ds r ⟨x, _, _, e, _⟩ => (by rw [e]; rfl)) fun cdv A outer s H E fx ds r hp => ?_
  obtain ⟨xs, hx, hu, rfl, rfl⟩ := hp
  refine ⟨.nx (γ0 N_check_names [.lst (xs.map .str)]), ?_, .nx⟩
  exact pssd_ifF (ptd_not (tv := true) (ptd_cast hu (ptd_val (pd_call fx (ok_are_unlike_names Z) Z.m_are_unlike_names Z.F_are_unlike_names.kp (bi_are_unlike_names Z) .nil (fun _ => .nil) (pad_cons (pd_var fx 0) pad_nil) ⟨xs, hx, rfl, rfl⟩)))) pssd_nil
/-! words and numbers -/
def PrWord (ds : List D) (r : Wd.Slot) : Prop := ∃ (x : Str) (xs : List Str) (c : D), (IsL c (xs.map .str) ∨ IsT c (xs.map .str)) ∧ x ∈ xs ∧ ds = [.str x, c] ∧ r = .sh .non
theorem ok_check_word : FnOk P w K mg base (L2.CX P w) 1 (He.ga K "check_word") Z.d_check_word ["word", "words"] (spD K PrWord) := by
  refine fn_data Z.F_check_word sc_check_word (fun ds r ⟨x, xs, c, _, _, e, _⟩ => (by rw [e]; rfl)) fun cdv A outer s H E fx ds r hp => ?_
  obtain ⟨x, xs, c, hc, hx, rfl, rfl⟩ := hp
  refine ⟨.nx (γ0 N_check_word [.str x, c]), ?_, .nx⟩
  have i : InD (.str x) c true := by
    rw [← inV_mem hx]
    rcases hc with hc | hc
    · exact .lst hc (by rw [List.map_map, List.map_map]; rfl) rfl
    · exact .tup hc (by rw [List.map_map, List.map_map]; rfl) rfl
  exact pssd_ifF (PWD.t (pwd_or (tv := false) (tw := false) (ptd_not (tv := true) (ptd_val (pd_isi fx (pad_cons (pd_var fx 0) (pad_cons (pd_ty fx (n := "str") Z.b_str) pad_nil)) Z.b_isinstance (.one (.bt rfl) rfl rfl)))) fun _ => pwd_or1 (ptd_ni fx (pd_var fx 0) (pd_var fx 1) i))) pssd_nil
def PrNumb (ds : List D) (r : Wd.Slot) : Prop := ∃ v a b : Int, (a ≤ v ∧ v ≤ b) ∧ ds = [.int v, .int a, .int b] ∧ r = .sh .non
theorem ok_check_number : FnOk P w K mg base (L2.CX P w) 3 (He.ga K "check_number") Z.d_check_number ["value", "least", "most"] (spD K PrNumb) := by
  refine fn_data Z.F_check_number sc_check_number (fun ds r ⟨v, a, b, _, e, _⟩ => (by rw [e]; rfl)) fun cdv A outer s H E fx ds r hp => ?_
  obtain ⟨v, a, b, hv, rfl, rfl⟩ := hp
  refine ⟨.nx (γ0 N_check_number [.int v, .int a, .int b]), ?_, .nx⟩
  exact pssd_ifF (ptd_not (tv := true) (ptd_cast (by rw [decide_eq_true hv.1, decide_eq_true hv.2]; rfl) (ptd_val (pd_call fx (ok_is_number Z) Z.m_is_number Z.F_is_number.kp (bi_is_number Z) .nil (fun _ => .nil) (pad_cons (pd_var fx 0) (pad_cons (pd_var fx 1) (pad_cons (pd_var fx 2) pad_nil))) ⟨v, a, b, rfl, rfl⟩)))) pssd_nil
end
end K9
set_option Elab.async false
set_option linter.all false
set_option maxRecDepth 100000
set_option maxHeartbeats 4000000
namespace K9
open PySem PySem.Spec L2 Wd
open PyProof.Rows hiding St

/-! ### comes_out -/
abbrev Sh : Type := Int × Int
abbrev Tm : Type := Str × Str × Int
abbrev Pls : Type := List (Str × List Sh)
def partL : List Str := ["left", "top", "wide", "high"]
def encSh (s : Sh) : D := .tup [.int s.1, .int s.2]
def encPls (ps : Pls) : D := .dk (ps.map fun p => ((Sum.inr p.1 : Key), D.tup (p.2.map encSh)))
def encTms (ts : List Tm) : D := .dt (ts.map fun t => ([(Sum.inr t.1 : Key), (Sum.inr t.2.1 : Key)], D.int t.2.2))
def partIx (p : Str) : Nat := partL.findIdx (· == p)
/-- the share of a part of a box -/
def shareAt (ps : Pls) (n p : Str) : Option Sh := (getK ps n).bind fun l => l[partIx p]?
def stepOut (ps : Pls) (a : Int × Int) (t : Tm) : Int × Int :=
  match shareAt ps t.1 t.2.1 with
  | some s => (a.1 * s.2 + t.2.2 * s.1 * a.2, a.2 * s.2)
  | none => a
def sumOut (ps : Pls) (ts : List Tm) (n : Int) : Int × Int := ts.foldl (stepOut ps) (-n, 1)
def sm (i : Int) : Prop := -(2 ^ 30) < i ∧ i < 2 ^ 30
def TmOk (ps : Pls) (t : Tm) : Prop := t.2.1 ∈ partL ∧ sm t.2.2 ∧ ∃ s, shareAt ps t.1 t.2.1 = some s ∧ sm s.1 ∧ sm s.2
def PrOut (ds : List D) (r : Wd.Slot) : Prop := ∃ (ps : Pls) (ts : List Tm) (n : Int), ts.length ≤ 1000 ∧ (∀ t ∈ ts, TmOk ps t) ∧ ds = [.tup [encTms ts, .int n], encPls ps] ∧ r = .sh (.bl (decide ((sumOut ps ts n).1 = 0)))
theorem getK_map {κ α β : Type} [DecidableEq κ] {κ' : Type} [DecidableEq κ'] (f : κ → κ') (hf : ∀ a b, f a = f b → a = b) (g : α → β) : ∀ (l : List (κ × α)) (k : κ), getK (l.map fun p => (f p.1, g p.2)) (f k) = (getK l k).map g
  | [], _ => rfl
  | p :: r, k => by
    rw [List.map_cons]
    unfold getK
    by_cases e : p.1 = k
    · rw [if_pos e, if_pos (congrArg f e)]; rfl
    · rw [if_neg e, if_neg (fun z => e (hf _ _ z))]; exact getK_map f hf g r k
theorem inr_inj (a b : Str) (h : (Sum.inr a : Key) = Sum.inr b) : a = b := by injection h
theorem part_first {p : Str} (h : p ∈ partL) : firstAt partL p (partIx p) := by
  unfold partL at h
  simp only [List.mem_cons, List.not_mem_nil, or_false] at h
  rcases h with rfl | rfl | rfl | rfl
  · exact ⟨by decide +kernel, by decide +kernel⟩
  · exact ⟨by decide +kernel, by decide +kernel⟩
  · exact ⟨by decide +kernel, by decide +kernel⟩
  · exact ⟨by decide +kernel, by decide +kernel⟩
theorem sm64 {i : Int} (h : sm i) : -(2 ^ 64) < i ∧ i < 2 ^ 64 := by unfold sm at h; omega
theorem smm {i j : Int} (h : sm i) (g : sm j) : -(2 ^ 64) < i * j ∧ i * j < 2 ^ 64 := by
  unfold sm at h g
  have h1 : (i * j).natAbs < 2 ^ 60 := by
    rw [Int.natAbs_mul]
    have a : i.natAbs < 2 ^ 30 := by omega
    have b : j.natAbs < 2 ^ 30 := by omega
    calc i.natAbs * j.natAbs ≤ i.natAbs * 2 ^ 30 := Nat.mul_le_mul_left _ (Nat.le_of_lt b)
      _ < 2 ^ 30 * 2 ^ 30 := Nat.mul_lt_mul_of_pos_right a (by decide)
      _ = 2 ^ 60 := by decide
  omega
theorem atI_nat {α : Type} {xs : List α} {j : Nat} {x : α} (h : xs[j]? = some x) : atI xs (j : Int) = some x := by
  have hj : j < xs.length := by
    rcases Nat.lt_or_ge j xs.length with z | z
    · exact z
    · rw [List.getElem?_eq_none z] at h; cases h
  unfold atI ixN
  rw [if_pos (by omega), if_pos (by omega)]
  exact h
theorem decV {i j : Int} : decide (V.int i = V.int j) = decide (i = j) := decide_eq_decide.mpr ⟨fun z => by injection z, fun z => by rw [z]⟩
section
variable {P : Program} {w : World} {K : PySem.W.Frag} {mg : Str → Option Value} {base : Heap} (Z : Env K mg w)
include Z
end
end K9
set_option Elab.async false
set_option linter.all false
set_option maxRecDepth 100000
set_option maxHeartbeats 4000000
namespace K9
open PySem PySem.Spec L2 Wd
open PyProof.Rows hiding St

/-! ### the class At -/
def atF (n p : Str) (i : Int) : List (Str × D) := [("name", .str n), ("part", .str p), ("number", .int i)]
def AtOk (n p : Str) (i : Int) : Prop := n.length ≤ 1000 ∧ nameOk n = true ∧ p ∈ partL ∧ -1000 ≤ i ∧ i ≤ 1000
def PrAtI (ds : List D) (fs : List (Str × D)) : Prop := ∃ (n p : Str) (i : Int), AtOk n p i ∧ ds = [.str n, .str p, .int i] ∧ fs = atF n p i
def PrAtNames (ds : List D) (r : Wd.Slot) : Prop := ∃ (n p : Str) (i : Int), ds = [.obj "At" (atF n p i)] ∧ r = .ow (.lst [.str n])
def atT (n p : Str) : List Tm := [(n, p, 1)]
def tmK (ts : List Tm) : List (List Key × D) := ts.map fun t => ([(Sum.inr t.1 : Key), (Sum.inr t.2.1 : Key)], D.int t.2.2)
def PrAtAdds (ds : List D) (r : Wd.Slot) : Prop := ∃ (n p : Str) (i : Int), ds = [.obj "At" (atF n p i)] ∧ r = .tw (tmK (atT n p)) (.int i)
def PrAtKeeps (ds : List D) (r : Wd.Slot) : Prop := ∃ (n p : Str) (i : Int) (ps : Pls), (∀ t ∈ atT n p, TmOk ps t) ∧ ds = [.obj "At" (atF n p i), encPls ps] ∧ r = .sh (.bl (decide ((sumOut ps (atT n p) i).1 = 0)))
theorem unlike1 {n : Str} (h : nameOk n = true) : unlikeOk [n] = true := by
  unfold unlikeOk
  rw [List.all_cons, h]
  rfl
section
variable {P : Program} {w : World} {K : PySem.W.Frag} {mg : Str → Option Value} {base : Heap} (Z : Env K mg w)
include Z
theorem dat_PARTS : ∀ S, Dat K S (.ref (He.ga K "PARTS")) (.rot (partL.map .str)) := fun S => by
  obtain ⟨ob, its, m, hk, hv⟩ := Z.t_PARTS
  exact .rot (.inr ⟨ob, its, m, hk.1, hk.2.1, hk.2.2.2.1, hk.2.2.2.2, hv⟩) (.cons .str (.cons .str (.cons .str (.cons .str .nil))))
theorem bi_At_init : Binds K Z.d_At_init ["self", "name", "part", "number"] [] := Z.F_At_init.bindsN fun _ _ _ _ _ _ us hl => match us, hl with | [_, _, _, _], _ => rfl
theorem bi_At_names : Binds K Z.d_At_names ["self"] [] := Z.F_At_names.bindsN fun _ _ _ _ _ _ us hl => match us, hl with | [_], _ => rfl
theorem bi_At_adds : Binds K Z.d_At_adds ["self"] [] := Z.F_At_adds.bindsN fun _ _ _ _ _ _ us hl => match us, hl with | [_], _ => rfl
theorem bi_At_keeps : Binds K Z.d_At_keeps ["self", "places"] [] := Z.F_At_keeps.bindsN fun _ _ _ _ _ _ us hl => match us, hl with | [_, _], _ => rfl
theorem ok_At_init : FnOk P w K mg base (L2.CX P w) 4 (He.ma K (He.ga K "At") "__init__") Z.d_At_init ["self", "name", "part", "number"] (spI K "At" PrAtI) := by
  refine init_data Z.F_At_init sc_At_init (fun ds fs ⟨n, p, i, _, e, _⟩ => (by rw [e]; rfl)) fun cdv A outer s H E fx ds fs hp => ?_
  obtain ⟨n, p, i, ⟨h0, h1, h2, h3, h4⟩, rfl, rfl⟩ := hp
  obtain ⟨t1, g1⟩ := Z.i_FARTHEST
  refine ⟨_, psse_cons (pse_expr (pd_call fx (ok_check_names Z) Z.m_check_names Z.F_check_names.kp (bi_check_names Z) .nil (fun _ => .nil) (pad_cons (PED.share (pd_lst (pad_cons (pd_var fx 1) pad_nil))) pad_nil) ⟨[n], ⟨Nat.le_of_ble_eq_true rfl, fun x hx => (List.mem_singleton.mp hx) ▸ h0⟩, unlike1 h1, rfl, rfl⟩))
    (psse_cons (pse_expr (pd_call fx (ok_check_word Z) Z.m_check_word Z.F_check_word.kp (bi_check_word Z) .nil (fun _ => .nil) (pad_cons (pd_var fx 2) (pad_cons (pd_globR fx Z.m_PARTS (dat_PARTS Z)) pad_nil)) ⟨p, partL, .rot (partL.map .str), .inr .rot, h2, rfl, rfl⟩))
    (psse_cons (pse_expr (pd_call fx (ok_check_number Z) Z.m_check_number Z.F_check_number.kp (bi_check_number Z) .nil (fun _ => .nil) (pad_cons (pd_var fx 3) (pad_cons (pd_neg (pd_globI fx g1)) (pad_cons (pd_globI fx g1) pad_nil))) ⟨i, -1000, 1000, ⟨h3, h4⟩, rfl, rfl⟩))
    (psse_cons (pse_fput fx (he := pd_var fx 1) (hc := Z.c_At) (hn := Z.na_At_name)) (psse_cons (pse_fput fx (he := pd_var fx 2) (hc := Z.c_At) (hn := Z.na_At_part)) (psse_cons (pse_fput fx (he := pd_var fx 3) (hc := Z.c_At) (hn := Z.na_At_number)) psse_nil))))), ?_⟩
  rfl
theorem ok_At_names : FnOk P w K mg base (L2.CX P w) 1 (He.ma K (He.ga K "At") "names") Z.d_At_names ["self"] (spD K PrAtNames) := by
  refine fn_data Z.F_At_names sc_At_names (fun ds r ⟨n, p, i, e, _⟩ => (by rw [e]; rfl)) fun cdv A outer s H E fx ds r hp => ?_
  obtain ⟨n, p, i, rfl, rfl⟩ := hp
  exact ⟨.rt _, pssd_rt (psd_ret (pd_lst (pad_cons (pd_fld fx (pd_var fx 0) Z.c_At Z.na_At_name rfl) pad_nil))), .rt⟩
theorem ok_At_adds : FnOk P w K mg base (L2.CX P w) 1 (He.ma K (He.ga K "At") "adds") Z.d_At_adds ["self"] (spD K PrAtAdds) := by
  refine fn_data Z.F_At_adds sc_At_adds (fun ds r ⟨n, p, i, e, _⟩ => (by rw [e]; rfl)) fun cdv A outer s H E fx ds r hp => ?_
  obtain ⟨n, p, i, rfl, rfl⟩ := hp
  exact ⟨.rt _, pssd_rt (psd_ret (pd_tupTw (pd_dispT fx (tmK (atT n p)) (ppd_cons (pd_tup (pad_cons (pd_fld fx (pd_var fx 0) Z.c_At Z.na_At_name rfl) (pad_cons (pd_fld fx (pd_var fx 0) Z.c_At Z.na_At_part rfl) pad_nil))) pd_int ppd_nil) (by simp [tmK, atT]) (Nat.le_of_ble_eq_true rfl)) (pd_fld fx (pd_var fx 0) Z.c_At Z.na_At_number rfl))), .rt⟩
end
end K9
set_option Elab.async false
set_option linter.all false
set_option maxRecDepth 100000
set_option maxHeartbeats 4000000
namespace K9
open PySem PySem.Spec L2 Wd
open PyProof.Rows hiding St

/-! ### the class Beside -/
def sideL : List Str := ["right", "left", "below", "above"]
def sidesT : List (Str × List Str) := [("right", ["left", "wide"]), ("left", ["left", "wide"]), ("below", ["top", "high"]), ("above", ["top", "high"])]
def near (s : Str) : Str := if s = "right" ∨ s = "left" then "left" else "top"
def far (s : Str) : Str := if s = "right" ∨ s = "left" then "wide" else "high"
def fwd (s : Str) : Bool := inV (.str s) [.str "right", .str "below"]
def besF (n s o : Str) (b : Int) : List (Str × D) := [("name", .str n), ("side", .str s), ("other", .str o), ("by", .int b)]
def besT (n s o : Str) : List Tm := if fwd s = true then [(n, near s, 1), (o, near s, -1), (o, far s, -1)] else [(n, near s, 1), (n, far s, 1), (o, near s, -1)]
def besN (s : Str) (b : Int) : Int := if fwd s = true then b else -b
def BesOk (n s o : Str) (b : Int) : Prop := (n.length ≤ 1000 ∧ o.length ≤ 1000) ∧ unlikeOk [n, o] = true ∧ s ∈ sideL ∧ -1000 ≤ b ∧ b ≤ 1000
def PrBesI (ds : List D) (fs : List (Str × D)) : Prop := ∃ (n s o : Str) (b : Int), BesOk n s o b ∧ ds = [.str n, .str s, .str o, .int b] ∧ fs = besF n s o b
def PrBesNames (ds : List D) (r : Wd.Slot) : Prop := ∃ (n s o : Str) (b : Int), ds = [.obj "Beside" (besF n s o b)] ∧ r = .ow (.lst [.str n, .str o])
def PrBesAdds (ds : List D) (r : Wd.Slot) : Prop := ∃ (n s o : Str) (b : Int), s ∈ sideL ∧ n ≠ o ∧ ds = [.obj "Beside" (besF n s o b)] ∧ r = .tw (tmK (besT n s o)) (.int (besN s b))
def PrBesKeeps (ds : List D) (r : Wd.Slot) : Prop := ∃ (n s o : Str) (b : Int) (ps : Pls), s ∈ sideL ∧ n ≠ o ∧ (∀ t ∈ besT n s o, TmOk ps t) ∧ ds = [.obj "Beside" (besF n s o b), encPls ps] ∧ r = .sh (.bl (decide ((sumOut ps (besT n s o) (besN s b)).1 = 0)))
theorem side_t {s : Str} (h : s ∈ sideL) : (s, [near s, far s]) ∈ sidesT := by
  unfold sideL at h
  simp only [List.mem_cons, List.not_mem_nil, or_false] at h
  rcases h with rfl | rfl | rfl | rfl <;> decide +kernel
theorem near_far {s : Str} (h : s ∈ sideL) : near s ≠ far s := by
  unfold sideL at h
  simp only [List.mem_cons, List.not_mem_nil, or_false] at h
  rcases h with rfl | rfl | rfl | rfl <;> decide +kernel
theorem key2 {a b c d : Str} : ([(Sum.inr a : Key), (Sum.inr b : Key)] = [Sum.inr c, Sum.inr d]) ↔ a = c ∧ b = d := by
  constructor
  · intro h
    injection h with h1 h2
    injection h2 with h2 _
    injection h1 with h1
    injection h2 with h2
    exact ⟨h1, h2⟩
  · rintro ⟨rfl, rfl⟩; rfl
section
variable {P : Program} {w : World} {K : PySem.W.Frag} {mg : Str → Option Value} {base : Heap} (Z : Env K mg w)
include Z
theorem bi_Beside_names : Binds K Z.d_Beside_names ["self"] [] := Z.F_Beside_names.bindsN fun _ _ _ _ _ _ us hl => match us, hl with | [_], _ => rfl
theorem bi_Beside_adds : Binds K Z.d_Beside_adds ["self"] [] := Z.F_Beside_adds.bindsN fun _ _ _ _ _ _ us hl => match us, hl with | [_], _ => rfl
theorem bi_Beside_keeps : Binds K Z.d_Beside_keeps ["self", "places"] [] := Z.F_Beside_keeps.bindsN fun _ _ _ _ _ _ us hl => match us, hl with | [_, _], _ => rfl
theorem ok_Beside_init : FnOk P w K mg base (L2.CX P w) 4 (He.ma K (He.ga K "Beside") "__init__") Z.d_Beside_init ["self", "name", "side", "other", "by"] (spI K "Beside" PrBesI) := by
  refine init_data Z.F_Beside_init sc_Beside_init (fun ds fs ⟨n, s, o, b, _, e, _⟩ => (by rw [e]; rfl)) fun cdv A outer s H E fx ds fs hp => ?_
  obtain ⟨n, s, o, b, ⟨⟨l1, l2⟩, h1, h2, h3, h4⟩, rfl, rfl⟩ := hp
  obtain ⟨t1, g1⟩ := Z.i_FARTHEST
  refine ⟨_, psse_cons (pse_expr (pd_call fx (ok_check_names Z) Z.m_check_names Z.F_check_names.kp (bi_check_names Z) .nil (fun _ => .nil) (pad_cons (PED.share (pd_lst (pad_cons (pd_var fx 1) (pad_cons (pd_var fx 3) pad_nil)))) pad_nil) ⟨[n, o], ⟨Nat.le_of_ble_eq_true rfl, fun x hx => ?_⟩, h1, rfl, rfl⟩))
    (psse_cons (pse_expr (pd_call fx (ok_check_word Z) Z.m_check_word Z.F_check_word.kp (bi_check_word Z) .nil (fun _ => .nil) (pad_cons (pd_var fx 2) (pad_cons (PED.share (pd_listW fx Z.b_list Z.m_SIDES Z.k_SIDES (by decide))) pad_nil)) ⟨s, sideL, .lst (sideL.map .str), .inl .lst, h2, rfl, rfl⟩))
    (psse_cons (pse_expr (pd_call fx (ok_check_number Z) Z.m_check_number Z.F_check_number.kp (bi_check_number Z) .nil (fun _ => .nil) (pad_cons (pd_var fx 4) (pad_cons (pd_neg (pd_globI fx g1)) (pad_cons (pd_globI fx g1) pad_nil))) ⟨b, -1000, 1000, ⟨h3, h4⟩, rfl, rfl⟩))
    (psse_cons (pse_fput fx (he := pd_var fx 1) (hc := Z.c_Beside) (hn := Z.na_Beside_name)) (psse_cons (pse_fput fx (he := pd_var fx 2) (hc := Z.c_Beside) (hn := Z.na_Beside_side)) (psse_cons (pse_fput fx (he := pd_var fx 3) (hc := Z.c_Beside) (hn := Z.na_Beside_other)) (psse_cons (pse_fput fx (he := pd_var fx 4) (hc := Z.c_Beside) (hn := Z.na_Beside_by)) psse_nil)))))), ?_⟩
  · rcases List.mem_cons.mp hx with rfl | hx
    · exact l1
    · exact (List.mem_singleton.mp hx) ▸ l2
  · rfl
theorem ok_Beside_names : FnOk P w K mg base (L2.CX P w) 1 (He.ma K (He.ga K "Beside") "names") Z.d_Beside_names ["self"] (spD K PrBesNames) := by
  refine fn_data Z.F_Beside_names sc_Beside_names (fun ds r ⟨n, s, o, b, e, _⟩ => (by rw [e]; rfl)) fun cdv A outer s H E fx ds r hp => ?_
  obtain ⟨n, s, o, b, rfl, rfl⟩ := hp
  exact ⟨.rt _, pssd_rt (psd_ret (pd_lst (pad_cons (pd_fld fx (pd_var fx 0) Z.c_Beside Z.na_Beside_name rfl) (pad_cons (pd_fld fx (pd_var fx 0) Z.c_Beside Z.na_Beside_other rfl) pad_nil)))), .rt⟩
theorem ok_Beside_adds : FnOk P w K mg base (L2.CX P w) 1 (He.ma K (He.ga K "Beside") "adds") Z.d_Beside_adds ["self"] (spD K PrBesAdds) := by
  refine fn_data Z.F_Beside_adds sc_Beside_adds (fun ds r ⟨n, s, o, b, _, _, e, _⟩ => (by rw [e]; rfl)) fun cdv A outer s H E fx ds r hp => ?_
  obtain ⟨n, s, o, b, hs, hno, rfl, rfl⟩ := hp
  obtain ⟨q, kd, ob, its, m, hk, hv⟩ := Z.v_SIDES s [near s, far s] (side_t hs)
  have dq : ∀ S, Dat K S (.ref q) (.rot [.str (near s), .str (far s)]) := fun S => .rot (.inr ⟨ob, its, m, hk.1, hk.2.1, hk.2.2.2.1, hk.2.2.2.2, hv⟩) (.cons .str (.cons .str .nil))
  have nf := near_far hs
  refine ⟨.rt _, ?_, .rt⟩
  refine pssd_cons (psd_asg fx (pd_subW fx Z.m_SIDES (pd_fld fx (pd_var fx 0) Z.c_Beside Z.na_Beside_side rfl) kd dq) (tgd_tup fx .rot (tgsd_cons (tgd_name fx 1) (tgsd_cons (tgd_name fx 2) tgsd_nil)))) ?_
  refine pssd_cons (psd_set fx 3 (pd_tup (pad_cons (pd_fld fx (pd_var fx 0) Z.c_Beside Z.na_Beside_name rfl) (pad_cons (pd_var fx 1) pad_nil)))) ?_
  refine pssd_cons (psd_set fx 4 (pd_tup (pad_cons (pd_fld fx (pd_var fx 0) Z.c_Beside Z.na_Beside_other rfl) (pad_cons (pd_var fx 1) pad_nil)))) ?_
  refine pssd_ifret (tv := fwd s) (ptd_in fx (pd_fld fx (pd_var fx 0) Z.c_Beside Z.na_Beside_side rfl) (pd_tup (pad_cons pd_str (pad_cons pd_str pad_nil))) (.tup .tup rfl rfl)) (fun h => ?_) (fun h => ?_)
  · have e : (Wd.Slot.tw (tmK (besT n s o)) (.int (besN s b))) = .tw (tmK [(n, near s, 1), (o, near s, -1), (o, far s, -1)]) (.int b) := by unfold besT besN; rw [if_pos h, if_pos h]
    rw [e]
    exact pssd_rt (psd_ret (pd_tupTw (pd_dispT fx (tmK [(n, near s, 1), (o, near s, -1), (o, far s, -1)]) (ppd_cons (pd_var fx 3) pd_int (ppd_cons (pd_var fx 4) (pd_neg pd_int) (ppd_cons (pd_tup (pad_cons (pd_fld fx (pd_var fx 0) Z.c_Beside Z.na_Beside_other rfl) (pad_cons (pd_var fx 2) pad_nil))) (pd_neg pd_int) ppd_nil))) (by simp [tmK, hno, nf]) (Nat.le_of_ble_eq_true rfl)) (pd_fld fx (pd_var fx 0) Z.c_Beside Z.na_Beside_by rfl)))
  · have e : (Wd.Slot.tw (tmK (besT n s o)) (.int (besN s b))) = .tw (tmK [(n, near s, 1), (n, far s, 1), (o, near s, -1)]) (.int (-b)) := by unfold besT besN; rw [if_neg (by rw [h]; decide), if_neg (by rw [h]; decide)]
    rw [e]
    exact pssd_rt (psd_ret (pd_tupTw (pd_dispT fx (tmK [(n, near s, 1), (n, far s, 1), (o, near s, -1)]) (ppd_cons (pd_var fx 3) pd_int (ppd_cons (pd_tup (pad_cons (pd_fld fx (pd_var fx 0) Z.c_Beside Z.na_Beside_name rfl) (pad_cons (pd_var fx 2) pad_nil))) pd_int (ppd_cons (pd_var fx 4) (pd_neg pd_int) ppd_nil))) (by simp [tmK, hno, nf]) (Nat.le_of_ble_eq_true rfl)) (pd_neg (pd_fld fx (pd_var fx 0) Z.c_Beside Z.na_Beside_by rfl))))
end
end K9
set_option Elab.async false
set_option linter.all false
set_option maxRecDepth 100000
set_option maxHeartbeats 4000000
namespace K9
open PySem PySem.Spec L2 Wd
open PyProof.Rows hiding St

/-! ### the classes Alike and Amid -/
def alkF (n p o : Str) (m : Int) : List (Str × D) := [("name", .str n), ("part", .str p), ("other", .str o), ("times", .int m)]
def alkT (n p o : Str) (m : Int) : List Tm := [(n, p, 1), (o, p, -m)]
def AlkOk (n p o : Str) (m : Int) : Prop := (n.length ≤ 1000 ∧ o.length ≤ 1000) ∧ unlikeOk [n, o] = true ∧ p ∈ partL ∧ 1 ≤ m ∧ m ≤ 9
def PrAlkI (ds : List D) (fs : List (Str × D)) : Prop := ∃ (n p o : Str) (m : Int), AlkOk n p o m ∧ ds = [.str n, .str p, .str o, .int m] ∧ fs = alkF n p o m
def PrAlkNames (ds : List D) (r : Wd.Slot) : Prop := ∃ (n p o : Str) (m : Int), ds = [.obj "Alike" (alkF n p o m)] ∧ r = .ow (.lst [.str n, .str o])
def PrAlkAdds (ds : List D) (r : Wd.Slot) : Prop := ∃ (n p o : Str) (m : Int), n ≠ o ∧ ds = [.obj "Alike" (alkF n p o m)] ∧ r = .tw (tmK (alkT n p o m)) (.int 0)
def PrAlkKeeps (ds : List D) (r : Wd.Slot) : Prop := ∃ (n p o : Str) (m : Int) (ps : Pls), n ≠ o ∧ (∀ t ∈ alkT n p o m, TmOk ps t) ∧ ds = [.obj "Alike" (alkF n p o m), encPls ps] ∧ r = .sh (.bl (decide ((sumOut ps (alkT n p o m) 0).1 = 0)))
def wayL : List Str := ["across", "down"]
def nearW (s : Str) : Str := if s = "across" then "left" else "top"
def farW (s : Str) : Str := if s = "across" then "wide" else "high"
def amdF (n v o u : Str) : List (Str × D) := [("name", .str n), ("way", .str v), ("one", .str o), ("other", .str u)]
def amdT (n v o u : Str) : List Tm := [(n, nearW v, 4), (n, farW v, 2), (o, nearW v, -2), (o, farW v, -1), (u, nearW v, -2), (u, farW v, -1)]
def AmdOk (n v o u : Str) : Prop := (n.length ≤ 1000 ∧ o.length ≤ 1000 ∧ u.length ≤ 1000) ∧ unlikeOk [n, o, u] = true ∧ v ∈ wayL
def PrAmdI (ds : List D) (fs : List (Str × D)) : Prop := ∃ (n v o u : Str), AmdOk n v o u ∧ ds = [.str n, .str v, .str o, .str u] ∧ fs = amdF n v o u
def PrAmdNames (ds : List D) (r : Wd.Slot) : Prop := ∃ (n v o u : Str), ds = [.obj "Amid" (amdF n v o u)] ∧ r = .ow (.lst [.str n, .str o, .str u])
def Un3 (n o u : Str) : Prop := n ≠ o ∧ n ≠ u ∧ o ≠ u
def PrAmdAdds (ds : List D) (r : Wd.Slot) : Prop := ∃ (n v o u : Str), v ∈ wayL ∧ Un3 n o u ∧ ds = [.obj "Amid" (amdF n v o u)] ∧ r = .tw (tmK (amdT n v o u)) (.int 0)
def PrAmdKeeps (ds : List D) (r : Wd.Slot) : Prop := ∃ (n v o u : Str) (ps : Pls), v ∈ wayL ∧ Un3 n o u ∧ (∀ t ∈ amdT n v o u, TmOk ps t) ∧ ds = [.obj "Amid" (amdF n v o u), encPls ps] ∧ r = .sh (.bl (decide ((sumOut ps (amdT n v o u) 0).1 = 0)))
theorem way_t {s : Str} (h : s ∈ wayL) : (s, [nearW s, farW s]) ∈ ([("across", ["left", "wide"]), ("down", ["top", "high"])] : List (Str × List Str)) := by
  unfold wayL at h
  simp only [List.mem_cons, List.not_mem_nil, or_false] at h
  rcases h with rfl | rfl <;> decide +kernel
theorem near_farW {s : Str} (h : s ∈ wayL) : nearW s ≠ farW s := by
  unfold wayL at h
  simp only [List.mem_cons, List.not_mem_nil, or_false] at h
  rcases h with rfl | rfl <;> decide +kernel
section
variable {P : Program} {w : World} {K : PySem.W.Frag} {mg : Str → Option Value} {base : Heap} (Z : Env K mg w)
include Z
theorem bi_Alike_names : Binds K Z.d_Alike_names ["self"] [] := Z.F_Alike_names.bindsN fun _ _ _ _ _ _ us hl => match us, hl with | [_], _ => rfl
theorem bi_Alike_adds : Binds K Z.d_Alike_adds ["self"] [] := Z.F_Alike_adds.bindsN fun _ _ _ _ _ _ us hl => match us, hl with | [_], _ => rfl
theorem bi_Alike_keeps : Binds K Z.d_Alike_keeps ["self", "places"] [] := Z.F_Alike_keeps.bindsN fun _ _ _ _ _ _ us hl => match us, hl with | [_, _], _ => rfl
theorem ok_Alike_init : FnOk P w K mg base (L2.CX P w) 4 (He.ma K (He.ga K "Alike") "__init__") Z.d_Alike_init ["self", "name", "part", "other", "times"] (spI K "Alike" PrAlkI) := by
  refine init_data Z.F_Alike_init sc_Alike_init (fun ds fs ⟨n, s, o, b, _, e, _⟩ => (by rw [e]; rfl)) fun cdv A outer s H E fx ds fs hp => ?_
  obtain ⟨n, p, o, b, ⟨⟨l1, l2⟩, h1, h2, h3, h4⟩, rfl, rfl⟩ := hp
  obtain ⟨t1, g1⟩ := Z.i_MOST_TIMES
  refine ⟨_, psse_cons (pse_expr (pd_call fx (ok_check_names Z) Z.m_check_names Z.F_check_names.kp (bi_check_names Z) .nil (fun _ => .nil) (pad_cons (PED.share (pd_lst (pad_cons (pd_var fx 1) (pad_cons (pd_var fx 3) pad_nil)))) pad_nil) ⟨[n, o], ⟨Nat.le_of_ble_eq_true rfl, fun x hx => ?_⟩, h1, rfl, rfl⟩))
    (psse_cons (pse_expr (pd_call fx (ok_check_word Z) Z.m_check_word Z.F_check_word.kp (bi_check_word Z) .nil (fun _ => .nil) (pad_cons (pd_var fx 2) (pad_cons (pd_globR fx Z.m_PARTS (dat_PARTS Z)) pad_nil)) ⟨p, partL, .rot (partL.map .str), .inr .rot, h2, rfl, rfl⟩))
    (psse_cons (pse_expr (pd_call fx (ok_check_number Z) Z.m_check_number Z.F_check_number.kp (bi_check_number Z) .nil (fun _ => .nil) (pad_cons (pd_var fx 4) (pad_cons pd_int (pad_cons (pd_globI fx g1) pad_nil))) ⟨b, 1, 9, ⟨h3, h4⟩, rfl, rfl⟩))
    (psse_cons (pse_fput fx (he := pd_var fx 1) (hc := Z.c_Alike) (hn := Z.na_Alike_name)) (psse_cons (pse_fput fx (he := pd_var fx 2) (hc := Z.c_Alike) (hn := Z.na_Alike_part)) (psse_cons (pse_fput fx (he := pd_var fx 3) (hc := Z.c_Alike) (hn := Z.na_Alike_other)) (psse_cons (pse_fput fx (he := pd_var fx 4) (hc := Z.c_Alike) (hn := Z.na_Alike_times)) psse_nil)))))), ?_⟩
  · rcases List.mem_cons.mp hx with rfl | hx
    · exact l1
    · exact (List.mem_singleton.mp hx) ▸ l2
  · rfl
theorem ok_Alike_names : FnOk P w K mg base (L2.CX P w) 1 (He.ma K (He.ga K "Alike") "names") Z.d_Alike_names ["self"] (spD K PrAlkNames) := by
  refine fn_data Z.F_Alike_names sc_Alike_names (fun ds r ⟨n, s, o, b, e, _⟩ => (by rw [e]; rfl)) fun cdv A outer s H E fx ds r hp => ?_
  obtain ⟨n, s, o, b, rfl, rfl⟩ := hp
  exact ⟨.rt _, pssd_rt (psd_ret (pd_lst (pad_cons (pd_fld fx (pd_var fx 0) Z.c_Alike Z.na_Alike_name rfl) (pad_cons (pd_fld fx (pd_var fx 0) Z.c_Alike Z.na_Alike_other rfl) pad_nil)))), .rt⟩
theorem ok_Alike_adds : FnOk P w K mg base (L2.CX P w) 1 (He.ma K (He.ga K "Alike") "adds") Z.d_Alike_adds ["self"] (spD K PrAlkAdds) := by
  refine fn_data Z.F_Alike_adds sc_Alike_adds (fun ds r ⟨n, s, o, b, _, e, _⟩ => (by rw [e]; rfl)) fun cdv A outer s H E fx ds r hp => ?_
  obtain ⟨n, p, o, m, hno, rfl, rfl⟩ := hp
  exact ⟨.rt _, pssd_rt (psd_ret (pd_tupTw (pd_dispT fx (tmK (alkT n p o m)) (ppd_cons (pd_tup (pad_cons (pd_fld fx (pd_var fx 0) Z.c_Alike Z.na_Alike_name rfl) (pad_cons (pd_fld fx (pd_var fx 0) Z.c_Alike Z.na_Alike_part rfl) pad_nil))) pd_int (ppd_cons (pd_tup (pad_cons (pd_fld fx (pd_var fx 0) Z.c_Alike Z.na_Alike_other rfl) (pad_cons (pd_fld fx (pd_var fx 0) Z.c_Alike Z.na_Alike_part rfl) pad_nil))) (pd_neg (pd_fld fx (pd_var fx 0) Z.c_Alike Z.na_Alike_times rfl)) ppd_nil)) (by simp [tmK, alkT, hno]) (Nat.le_of_ble_eq_true rfl)) pd_int)), .rt⟩
end
end K9
set_option Elab.async false
set_option linter.all false
set_option maxRecDepth 100000
set_option maxHeartbeats 4000000
namespace K9
open PySem PySem.Spec L2 Wd
open PyProof.Rows hiding St
section
variable {P : Program} {w : World} {K : PySem.W.Frag} {mg : Str → Option Value} {base : Heap} (Z : Env K mg w)
include Z
theorem bi_Amid_names : Binds K Z.d_Amid_names ["self"] [] := Z.F_Amid_names.bindsN fun _ _ _ _ _ _ us hl => match us, hl with | [_], _ => rfl
theorem bi_Amid_adds : Binds K Z.d_Amid_adds ["self"] [] := Z.F_Amid_adds.bindsN fun _ _ _ _ _ _ us hl => match us, hl with | [_], _ => rfl
theorem bi_Amid_keeps : Binds K Z.d_Amid_keeps ["self", "places"] [] := Z.F_Amid_keeps.bindsN fun _ _ _ _ _ _ us hl => match us, hl with | [_, _], _ => rfl
theorem bi_Amid_init : Binds K Z.d_Amid_init ["self", "name", "way", "one", "other"] [] := Z.F_Amid_init.bindsN fun _ _ _ _ _ _ us hl => match us, hl with | [_, _, _, _, _], _ => rfl
theorem ok_Amid_init : FnOk P w K mg base (L2.CX P w) 4 (He.ma K (He.ga K "Amid") "__init__") Z.d_Amid_init ["self", "name", "way", "one", "other"] (spI K "Amid" PrAmdI) := by
  refine init_data Z.F_Amid_init sc_Amid_init (fun ds fs ⟨n, s, o, b, _, e, _⟩ => (by rw [e]; rfl)) fun cdv A outer s H E fx ds fs hp => ?_
  obtain ⟨n, v, o, u, ⟨⟨l1, l2, l3⟩, h1, h2⟩, rfl, rfl⟩ := hp
  refine ⟨_, psse_cons (pse_expr (pd_call fx (ok_check_names Z) Z.m_check_names Z.F_check_names.kp (bi_check_names Z) .nil (fun _ => .nil) (pad_cons (PED.share (pd_lst (pad_cons (pd_var fx 1) (pad_cons (pd_var fx 3) (pad_cons (pd_var fx 4) pad_nil))))) pad_nil) ⟨[n, o, u], ⟨Nat.le_of_ble_eq_true rfl, fun x hx => ?_⟩, h1, rfl, rfl⟩))
    (psse_cons (pse_expr (pd_call fx (ok_check_word Z) Z.m_check_word Z.F_check_word.kp (bi_check_word Z) .nil (fun _ => .nil) (pad_cons (pd_var fx 2) (pad_cons (PED.share (pd_listW fx Z.b_list Z.m_WAYS Z.k_WAYS (by decide))) pad_nil)) ⟨v, wayL, .lst (wayL.map .str), .inl .lst, h2, rfl, rfl⟩))
    (psse_cons (pse_fput fx (he := pd_var fx 1) (hc := Z.c_Amid) (hn := Z.na_Amid_name)) (psse_cons (pse_fput fx (he := pd_var fx 2) (hc := Z.c_Amid) (hn := Z.na_Amid_way)) (psse_cons (pse_fput fx (he := pd_var fx 3) (hc := Z.c_Amid) (hn := Z.na_Amid_one)) (psse_cons (pse_fput fx (he := pd_var fx 4) (hc := Z.c_Amid) (hn := Z.na_Amid_other)) psse_nil))))), ?_⟩
  · rcases List.mem_cons.mp hx with rfl | hx
    · exact l1
    · rcases List.mem_cons.mp hx with rfl | hx
      · exact l2
      · exact (List.mem_singleton.mp hx) ▸ l3
  · rfl
theorem ok_Amid_names : FnOk P w K mg base (L2.CX P w) 1 (He.ma K (He.ga K "Amid") "names") Z.d_Amid_names ["self"] (spD K PrAmdNames) := by
  refine fn_data Z.F_Amid_names sc_Amid_names (fun ds r ⟨n, s, o, b, e, _⟩ => (by rw [e]; rfl)) fun cdv A outer s H E fx ds r hp => ?_
  obtain ⟨n, v, o, u, rfl, rfl⟩ := hp
  exact ⟨.rt _, pssd_rt (psd_ret (pd_lst (pad_cons (pd_fld fx (pd_var fx 0) Z.c_Amid Z.na_Amid_name rfl) (pad_cons (pd_fld fx (pd_var fx 0) Z.c_Amid Z.na_Amid_one rfl) (pad_cons (pd_fld fx (pd_var fx 0) Z.c_Amid Z.na_Amid_other rfl) pad_nil))))), .rt⟩
theorem ok_Amid_adds : FnOk P w K mg base (L2.CX P w) 1 (He.ma K (He.ga K "Amid") "adds") Z.d_Amid_adds ["self"] (spD K PrAmdAdds) := by
  refine fn_data Z.F_Amid_adds sc_Amid_adds (fun ds r ⟨n, s, o, b, _, _, e, _⟩ => (by rw [e]; rfl)) fun cdv A outer s H E fx ds r hp => ?_
  obtain ⟨n, v, o, u, hs, ⟨n1, n2, n3⟩, rfl, rfl⟩ := hp
  obtain ⟨q, kd, ob, its, m, hk, hv⟩ := Z.v_WAYS v [nearW v, farW v] (way_t hs)
  have dq : ∀ S, Dat K S (.ref q) (.rot [.str (nearW v), .str (farW v)]) := fun S => .rot (.inr ⟨ob, its, m, hk.1, hk.2.1, hk.2.2.2.1, hk.2.2.2.2, hv⟩) (.cons .str (.cons .str .nil))
  have nf := near_farW hs
  have step : ∀ (l : List Tm) (x : Str), (∀ t ∈ l, t.1 ≠ x) → putG (putG (tmK l) [Sum.inr x, Sum.inr (nearW v)] (D.int (-2))) [Sum.inr x, Sum.inr (farW v)] (D.int (-1)) = tmK (l ++ [(x, nearW v, -2), (x, farW v, -1)]) := fun l x hl => by
    have e1 : putG (tmK l) [Sum.inr x, Sum.inr (nearW v)] (D.int (-2)) = tmK (l ++ [(x, nearW v, -2)]) := by
      rw [putG_new _ _ _ fun z => ?_]
      · simp [tmK]
      · simp only [tmK, List.map_map, List.mem_map, Function.comp_apply] at z
        obtain ⟨t, ht, e⟩ := z
        exact hl t ht (key2.mp e).1
    rw [e1, putG_new _ _ _ fun z => ?_]
    · simp [tmK]
    · simp only [tmK, List.map_map, List.mem_map, Function.comp_apply] at z
      obtain ⟨t, ht, e⟩ := z
      obtain ⟨e2, e3⟩ := key2.mp e
      rcases List.mem_append.mp ht with ht | ht
      · exact hl t ht e2
      · rw [List.mem_singleton.mp ht] at e3
        exact nf e3
  let l0 : List Tm := [(n, nearW v, 4), (n, farW v, 2)]
  let ls : Nat → List Tm := fun i => if i = 0 then l0 else if i = 1 then l0 ++ [(o, nearW v, -2), (o, farW v, -1)] else amdT n v o u
  refine ⟨.rt _, ?_, .rt⟩
  refine pssd_cons (psd_asg fx (pd_subW fx Z.m_WAYS (pd_fld fx (pd_var fx 0) Z.c_Amid Z.na_Amid_way rfl) kd dq) (tgd_tup fx .rot (tgsd_cons (tgd_name fx 1) (tgsd_cons (tgd_name fx 2) tgsd_nil)))) ?_
  refine pssd_cons (psd_set fx 3 (pd_dispT fx (tmK l0) (ppd_cons (pd_tup (pad_cons (pd_fld fx (pd_var fx 0) Z.c_Amid Z.na_Amid_name rfl) (pad_cons (pd_var fx 1) pad_nil))) pd_int (ppd_cons (pd_tup (pad_cons (pd_fld fx (pd_var fx 0) Z.c_Amid Z.na_Amid_name rfl) (pad_cons (pd_var fx 2) pad_nil))) pd_int ppd_nil)) (by simp [tmK, l0, nf]) (Nat.le_of_ble_eq_true rfl))) ?_
  refine pssd_cons (psd_for fx [o, u] (fun x => D.str x) (fun i => [.sh (.obj "Amid" (amdF n v o u)), .sh (.str (nearW v)), .sh (.str (farW v)), .ow (.dt (tmK (ls i))), .un]) (pid_tup fx .tup (pd_tup (pad_cons (pd_fld fx (pd_var fx 0) Z.c_Amid Z.na_Amid_one rfl) (pad_cons (pd_fld fx (pd_var fx 0) Z.c_Amid Z.na_Amid_other rfl) pad_nil)))) (.s (.s (.s (.s (.u .n))))) fun i x hx => ?_) ?_
  · have facts : (ls i).length ≤ 10 ∧ ((tmK (ls i)).map (·.1)).Nodup ∧ (∀ t ∈ ls i, t.1 ≠ x) ∧ ls (i + 1) = ls i ++ [(x, nearW v, -2), (x, farW v, -1)] := by
      rcases i with _ | _ | i
      · obtain rfl : o = x := Option.some.inj hx
        exact ⟨Nat.le_of_ble_eq_true rfl, by simp [ls, l0, tmK, nf], by simp [ls, l0, n1], rfl⟩
      · obtain rfl : u = x := Option.some.inj hx
        exact ⟨Nat.le_of_ble_eq_true rfl, by simp [ls, l0, tmK, nf, n1], by simp [ls, l0, n2, n3], rfl⟩
      · simp at hx
    obtain ⟨f1, f2, f3, f4⟩ := facts
    have len : (tmK (ls i)).length ≤ 10 := by unfold tmK; rw [List.length_map]; exact f1
    have e1 : [(Sum.inr x : Key), Sum.inr (nearW v)] ∉ (tmK (ls i)).map (·.1) := fun z => by
      simp only [tmK, List.map_map, List.mem_map, Function.comp_apply] at z
      obtain ⟨t, ht, e⟩ := z
      exact f3 t ht (key2.mp e).1
    refine ⟨_, _, _, tgd_name fx 4, .inl (pssd_cons (psd_dputT fx 3 (key := [Sum.inr x, Sum.inr (nearW v)]) rfl (pd_neg pd_int) (pd_tup (pad_cons (pd_var fx 4) (pad_cons (pd_var fx 1) pad_nil))) (by rw [sizeLine_eq]; omega) f2)
      (pssd_one (psd_dputT fx 3 (key := [Sum.inr x, Sum.inr (farW v)]) rfl (pd_neg pd_int) (pd_tup (pad_cons (pd_var fx 4) (pad_cons (pd_var fx 2) pad_nil))) (by rw [putG_new _ _ _ e1, List.length_append, sizeLine_eq]; simp; omega) (by rw [keys_put, if_neg e1, List.nodup_append]; exact ⟨f2, by simp, fun a ha b hb z => e1 (by rw [← List.mem_singleton.mp hb, ← z]; exact ha)⟩)))), ?_⟩
    rw [f4, ← step (ls i) x f3]
    exact .s (.s (.s (.s (.u .n))))
  · exact pssd_rt (psd_retTw fx 3 pd_int)
end
end K9
set_option Elab.async false
set_option linter.all false
set_option maxRecDepth 100000
set_option maxHeartbeats 4000000
namespace K9
open PySem PySem.Spec L2 Wd
open PyProof.Rows hiding St

/-! ### sayings of all sorts -/
inductive Say where
  | at_ (n p : Str) (i : Int) | bes (n s o : Str) (b : Int) | alk (n p o : Str) (m : Int) | amd (n v o u : Str)
def Say.ok : Say → Prop
  | .at_ n p i => AtOk n p i
  | .bes n s o b => BesOk n s o b
  | .alk n p o m => AlkOk n p o m
  | .amd n v o u => AmdOk n v o u
def Say.cls : Say → Str
  | .at_ .. => "At" | .bes .. => "Beside" | .alk .. => "Alike" | .amd .. => "Amid"
def Say.fs : Say → List (Str × D)
  | .at_ n p i => atF n p i | .bes n s o b => besF n s o b | .alk n p o m => alkF n p o m | .amd n v o u => amdF n v o u
def Say.d (x : Say) : D := .obj x.cls x.fs
def Say.names : Say → List Str
  | .at_ n _ _ => [n] | .bes n _ o _ => [n, o] | .alk n _ o _ => [n, o] | .amd n _ o u => [n, o, u]
def Say.tms : Say → List Tm
  | .at_ n p _ => atT n p | .bes n s o _ => besT n s o | .alk n p o m => alkT n p o m | .amd n v o u => amdT n v o u
def Say.num : Say → Int
  | .at_ _ _ i => i | .bes _ s _ b => besN s b | .alk .. => 0 | .amd .. => 0
def shOk (xs : List Str) : Prop := xs.length ≤ 6 ∧ ∀ x ∈ xs, x.length ≤ 1000
theorem unl_iff {xs : List Str} (h : unlikeOk xs = true) : xs.Nodup := by
  unfold unlikeOk at h
  rw [Bool.and_eq_true] at h
  exact (unlikes_iff xs).mp (of_decide_eq_true h.2)
def PrBoxes (ds : List D) (r : Wd.Slot) : Prop := ∃ xs : List Str, (1 ≤ xs.length ∧ xs.length ≤ 6 ∧ ∀ x ∈ xs, x.length ≤ 1000) ∧ unlikeOk xs = true ∧ ds = [.lst (xs.map .str)] ∧ r = .sh .non
def ofNames (x : Say) (ns : List Str) : Bool := x.names.all fun n => inV (.str n) (ns.map V.str)
def PrSayOf (ds : List D) (r : Wd.Slot) : Prop := ∃ (x : Say) (ns : List Str), ns.length ≤ 100 ∧ ds = [x.d, .lst (ns.map .str)] ∧ r = .sh (.bl (ofNames x ns))
def PrSays (ds : List D) (r : Wd.Slot) : Prop := ∃ (xs : List Say) (ns : List Str), ns.length ≤ 100 ∧ xs.length ≤ 16 ∧ (∀ x ∈ xs, ofNames x ns = true) ∧ ds = [.lst (xs.map Say.d), .lst (ns.map .str)] ∧ r = .sh .non
section
variable {P : Program} {w : World} {K : PySem.W.Frag} {mg : Str → Option Value} {base : Heap} (Z : Env K mg w)
include Z
theorem bi_check_boxes : Binds K Z.d_check_boxes ["names"] [] := Z.F_check_boxes.bindsN fun _ _ _ _ _ _ us hl => match us, hl with | [_], _ => rfl
theorem bi_is_saying_of : Binds K Z.d_is_saying_of ["value", "names"] [] := Z.F_is_saying_of.bindsN fun _ _ _ _ _ _ us hl => match us, hl with | [_, _], _ => rfl
theorem bi_check_sayings : Binds K Z.d_check_sayings ["sayings", "names"] [] := Z.F_check_sayings.bindsN fun _ _ _ _ _ _ us hl => match us, hl with | [_, _], _ => rfl
theorem ok_check_boxes : FnOk P w K mg base (L2.CX P w) 3 (He.ga K "check_boxes") Z.d_check_boxes ["names"] (spD K PrBoxes) := by
  refine fn_data Z.F_check_boxes sc_check_boxes (fun ds r ⟨x, _, _, e, _⟩ => (by rw [e]; rfl)) fun cdv A outer s H E fx ds r hp => ?_
  obtain ⟨xs, ⟨h1, h2, h3⟩, hu, rfl, rfl⟩ := hp
  obtain ⟨t1, g1⟩ := Z.i_MOST_NAMES
  refine ⟨.nx (γ0 N_check_boxes [.lst (xs.map .str)]), ?_, .nx⟩
  have e : (decide ((1 : Int) ≤ ((xs.map D.str).length : Nat)) && decide ((((xs.map D.str).length : Nat) : Int) ≤ 6)) = true := by
    rw [List.length_map, decide_eq_true (by omega), decide_eq_true (by omega)]; rfl
  refine pssd_ifF (PWD.t (pwd_or (tv := false) (tw := false) (ptd_not (tv := true) (ptd_val (pd_isi fx (pad_cons (pd_var fx 0) (pad_cons (pd_ty fx (n := "list") Z.b_list) pad_nil)) Z.b_isinstance (.one (.bt rfl) rfl rfl)))) fun _ => pwd_or1 (ptd_not (tv := true) (ptd_cast e (ptd_within pd_int (pd_blt fx (fun _ => call_lenU) Z.b_len (pad_cons (pd_var fx 0) pad_nil) (rc_len (.lst .lst))) (pd_globI fx g1)))))) ?_
  exact pssd_ifF (ptd_not (tv := true) (ptd_cast hu (ptd_val (pd_call fx (ok_are_unlike_names Z) Z.m_are_unlike_names Z.F_are_unlike_names.kp (bi_are_unlike_names Z) .nil (fun _ => .nil) (pad_cons (pd_var fx 0) pad_nil) ⟨xs, ⟨by omega, h3⟩, rfl, rfl⟩)))) pssd_nil
theorem isi_say (x : Say) : IsiD K x.d (.tup [.cls "At", .cls "Beside", .cls "Alike", .cls "Amid"]) true := by
  cases x with
  | at_ n p i => exact .tup (us := [.ref (He.ga K "At"), .ref (He.ga K "Beside"), .ref (He.ga K "Alike"), .ref (He.ga K "Amid")]) (.own Z.o_At) rfl (by show PySem.W.kitAny K (.ref (He.ga K "At")) _ = _; unfold PySem.W.kitAny; rw [Z.kt_At_At])
  | bes n s o b => exact .tup (us := [.ref (He.ga K "At"), .ref (He.ga K "Beside"), .ref (He.ga K "Alike"), .ref (He.ga K "Amid")]) (.own Z.o_Beside) rfl (by show PySem.W.kitAny K (.ref (He.ga K "Beside")) _ = _; unfold PySem.W.kitAny; rw [Z.kt_Beside_At]; show PySem.W.kitAny K (.ref (He.ga K "Beside")) _ = _; unfold PySem.W.kitAny; rw [Z.kt_Beside_Beside])
  | alk n p o m => exact .tup (us := [.ref (He.ga K "At"), .ref (He.ga K "Beside"), .ref (He.ga K "Alike"), .ref (He.ga K "Amid")]) (.own Z.o_Alike) rfl (by show PySem.W.kitAny K (.ref (He.ga K "Alike")) _ = _; unfold PySem.W.kitAny; rw [Z.kt_Alike_At]; show PySem.W.kitAny K (.ref (He.ga K "Alike")) _ = _; unfold PySem.W.kitAny; rw [Z.kt_Alike_Beside]; show PySem.W.kitAny K (.ref (He.ga K "Alike")) _ = _; unfold PySem.W.kitAny; rw [Z.kt_Alike_Alike])
  | amd n v o u => exact .tup (us := [.ref (He.ga K "At"), .ref (He.ga K "Beside"), .ref (He.ga K "Alike"), .ref (He.ga K "Amid")]) (.own Z.o_Amid) rfl (by show PySem.W.kitAny K (.ref (He.ga K "Amid")) _ = _; unfold PySem.W.kitAny; rw [Z.kt_Amid_At]; show PySem.W.kitAny K (.ref (He.ga K "Amid")) _ = _; unfold PySem.W.kitAny; rw [Z.kt_Amid_Beside]; show PySem.W.kitAny K (.ref (He.ga K "Amid")) _ = _; unfold PySem.W.kitAny; rw [Z.kt_Amid_Alike]; show PySem.W.kitAny K (.ref (He.ga K "Amid")) _ = _; unfold PySem.W.kitAny; rw [Z.kt_Amid_Amid])
/-- x.names() of any saying -/
theorem pd_sayNames {ι : Type} {Xs : ι → Cx} {N : List Str} {k : Nat} (fx : Fx Xs P w K mg base N k) {γ : Gm} {o : Expr} {pos apos : Pos} {pl : ι → Sem Bool} (x : Say) (ho : PED K Xs o γ (.sh x.d)) (hk : 1 ≤ k)
    (ht : ∀ i, eval (.Call (.Attribute o "names" apos) [] [] pos) (Xs i).env = (do
      let ov ← eval o (Xs i).env
      standAt apos.atName
      let (f, first) ← holding [ov] (getMethod ov "names" (pl i))
      callWith pos f first (backTo pos (starEach [] (Xs i).env)) (backToKw pos (keywordEach [] (Xs i).env))) := by exact fun _ => rfl) : PED K Xs (.Call (.Attribute o "names" apos) [] [] pos) γ (.ow (.lst (x.names.map .str))) := by
  cases x with
  | at_ n p i => exact pd_meth0 fx ho Z.c_At Z.M_At_names (ok_At_names Z) (bi_At_names Z) .nil (fun _ => .nil) rfl ⟨n, p, i, rfl, rfl⟩ hk ht
  | bes n s o b => exact pd_meth0 fx ho Z.c_Beside Z.M_Beside_names (ok_Beside_names Z) (bi_Beside_names Z) .nil (fun _ => .nil) rfl ⟨n, s, o, b, rfl, rfl⟩ hk ht
  | alk n p o m => exact pd_meth0 fx ho Z.c_Alike Z.M_Alike_names (ok_Alike_names Z) (bi_Alike_names Z) .nil (fun _ => .nil) rfl ⟨n, p, o, m, rfl, rfl⟩ hk ht
  | amd n v o u => exact pd_meth0 fx ho Z.c_Amid Z.M_Amid_names (ok_Amid_names Z) (bi_Amid_names Z) .nil (fun _ => .nil) rfl ⟨n, v, o, u, rfl, rfl⟩ hk ht
theorem dat_cls : ∀ (c : Str) S, Dat K S (.ref (He.ga K c)) (.cls c) := fun c S => .cls
theorem ok_is_saying_of : FnOk P w K mg base (L2.CX P w) 2 (He.ga K "is_saying_of") Z.d_is_saying_of ["value", "names"] (spD K PrSayOf) := by
  refine fn_data Z.F_is_saying_of sc_is_saying_of (fun ds r ⟨x, ns, _, e, _⟩ => (by rw [e]; rfl)) fun cdv A outer s H E fx ds r hp => ?_
  obtain ⟨x, ns, hn, rfl, rfl⟩ := hp
  refine ⟨.rt _, ?_, .rt⟩
  refine pssd_ifF (ptd_not (tv := true) (ptd_val (pd_isi fx (pad_cons (pd_var fx 0) (pad_cons (pd_tup (pad_cons (pd_globR fx Z.m_At (dat_cls Z "At")) (pad_cons (pd_globR fx Z.m_Beside (dat_cls Z "Beside")) (pad_cons (pd_globR fx Z.m_Alike (dat_cls Z "Alike")) (pad_cons (pd_globR fx Z.m_Amid (dat_cls Z "Amid")) pad_nil))))) pad_nil)) Z.b_isinstance (isi_say Z x)))) ?_
  exact pssd_rt (psd_ret (pd_allC fx [("name", 2)] x.names (fun n => D.str n) _ Z.b_all (pid_list fx .lst (PED.share (pd_sayNames Z fx x (pd_var fx 0) (Nat.le_refl _)))) (by rw [sizeLine_eq]; cases x <;> exact Nat.le_of_ble_eq_true rfl) fun n hm => ⟨_, _, tgd_name fx.bk 2, fun _ h => h, pd_in fx.bk (pd_var fx.bk 2) (pd_var fx.bk 1) (.lst .lst (by rw [List.map_map, List.map_map]; rfl) rfl)⟩))
end
end K9
set_option Elab.async false
set_option linter.all false
set_option maxRecDepth 100000
set_option maxHeartbeats 4000000
namespace K9
open PySem PySem.Spec L2 Wd
open PyProof.Rows hiding St

/-! ### sheets -/
def shF (ns : List Str) (xs : List Say) : List (Str × D) := [("boxes", .lst (ns.map .str)), ("said", .lst (xs.map Say.d))]
def NsOk (ns : List Str) : Prop := (1 ≤ ns.length ∧ ns.length ≤ 6 ∧ ∀ x ∈ ns, x.length ≤ 1000) ∧ unlikeOk ns = true
def XsOk (ns : List Str) (xs : List Say) : Prop := xs.length ≤ 16 ∧ ∀ x ∈ xs, ofNames x ns = true
def PrShI (ds : List D) (fs : List (Str × D)) : Prop := ∃ (ns : List Str) (xs : List Say), NsOk ns ∧ XsOk ns xs ∧ ds = [.lst (ns.map .str), .lst (xs.map Say.d)] ∧ fs = shF ns xs
def PrShNames (ds : List D) (r : Wd.Slot) : Prop := ∃ (ns : List Str) (xs : List Say), ds = [.obj "Sheet" (shF ns xs)] ∧ r = .ow (.lst (ns.map .str))
def PrShSays (ds : List D) (r : Wd.Slot) : Prop := ∃ (ns : List Str) (xs : List Say), ds = [.obj "Sheet" (shF ns xs)] ∧ r = .ow (.lst (xs.map Say.d))
def PrIsSheet (ds : List D) (r : Wd.Slot) : Prop := ∃ (ns : List Str) (xs : List Say), ds = [.obj "Sheet" (shF ns xs)] ∧ r = .sh .non
def PrPlace (ds : List D) (r : Wd.Slot) : Prop := ∃ (ns : List Str) (xs : List Say) (i b : Int), (0 ≤ i ∧ i ≤ (xs.length : Int) - 1 + b) ∧ ds = [.obj "Sheet" (shF ns xs), .int i, .int b] ∧ r = .sh .non
def PrPut (ds : List D) (r : Wd.Slot) : Prop := ∃ (ns : List Str) (xs : List Say) (i : Nat) (x : Say), NsOk ns ∧ XsOk ns (xs.take i ++ [x] ++ xs.drop i) ∧ i ≤ xs.length ∧ ds = [.obj "Sheet" (shF ns xs), .int i, x.d] ∧ r = .ow (.obj "Sheet" (shF ns (xs.take i ++ [x] ++ xs.drop i)))
def PrTaken (ds : List D) (r : Wd.Slot) : Prop := ∃ (ns : List Str) (xs : List Say) (i : Nat), NsOk ns ∧ XsOk ns (xs.eraseIdx i) ∧ i < xs.length ∧ xs.length ≤ 100 ∧ ds = [.obj "Sheet" (shF ns xs), .int i] ∧ r = .ow (.obj "Sheet" (shF ns (xs.eraseIdx i)))
section
variable {P : Program} {w : World} {K : PySem.W.Frag} {mg : Str → Option Value} {base : Heap} (Z : Env K mg w)
include Z
theorem ok_check_sayings : FnOk P w K mg base (L2.CX P w) 3 (He.ga K "check_sayings") Z.d_check_sayings ["sayings", "names"] (spD K PrSays) := by
  refine fn_data Z.F_check_sayings sc_check_sayings (fun ds r ⟨x, _, _, _, _, e, _⟩ => (by rw [e]; rfl)) fun cdv A outer s H E fx ds r hp => ?_
  obtain ⟨xs, ns, hn, hx, hof, rfl, rfl⟩ := hp
  obtain ⟨t1, g1⟩ := Z.i_MOST_SAYINGS
  refine ⟨.nx (γ0 N_check_sayings [.lst (xs.map Say.d), .lst (ns.map .str)]), ?_, .nx⟩
  have e : decide ((16 : Int) < ((xs.map Say.d).length : Nat)) = false := decide_eq_false (by rw [List.length_map]; omega)
  refine pssd_ifF (PWD.t (pwd_or (tv := false) (tw := false) (ptd_not (tv := true) (ptd_val (pd_isi fx (pad_cons (pd_var fx 0) (pad_cons (pd_ty fx (n := "list") Z.b_list) pad_nil)) Z.b_isinstance (.one (.bt rfl) rfl rfl)))) fun _ => pwd_or1 (ptd_cast e (ptd_cmp (fun _ => op_gt) (nomark _) (pd_blt fx (fun _ => call_lenU) Z.b_len (pad_cons (pd_var fx 0) pad_nil) (rc_len (.lst .lst))) (pd_globI fx g1) rd_gt)))) ?_
  have e2 : (xs.all fun x => ofNames x ns) = true := List.all_eq_true.mpr hof
  exact pssd_ifF (ptd_not (tv := true) (ptd_cast e2 (ptd_val (pd_allC fx [("saying", 2)] xs Say.d _ Z.b_all (pid_list fx .lst (pd_var fx 0)) (by rw [sizeLine_eq]; omega) fun x hm => ⟨_, _, tgd_name fx.bk 2, fun _ h => h, pd_call fx.bk (ok_is_saying_of Z) Z.m_is_saying_of Z.F_is_saying_of.kp (bi_is_saying_of Z) .nil (fun _ => .nil) (pad_cons (pd_var fx.bk 2) (pad_cons (pd_var fx.bk 1) pad_nil)) ⟨x, ns, hn, rfl, rfl⟩⟩)))) pssd_nil
theorem bi_Sheet_names : Binds K Z.d_Sheet_names ["self"] [] := Z.F_Sheet_names.bindsN fun _ _ _ _ _ _ us hl => match us, hl with | [_], _ => rfl
theorem bi_Sheet_sayings : Binds K Z.d_Sheet_sayings ["self"] [] := Z.F_Sheet_sayings.bindsN fun _ _ _ _ _ _ us hl => match us, hl with | [_], _ => rfl
theorem bi_Sheet_init : Binds K Z.d_Sheet_init ["self", "names", "sayings"] [] := Z.F_Sheet_init.bindsN fun _ _ _ _ _ _ us hl => match us, hl with | [_, _, _], _ => rfl
theorem ok_Sheet_init : FnOk P w K mg base (L2.CX P w) 4 (He.ma K (He.ga K "Sheet") "__init__") Z.d_Sheet_init ["self", "names", "sayings"] (spI K "Sheet" PrShI) := by
  refine init_data Z.F_Sheet_init sc_Sheet_init (fun ds fs ⟨n, s, _, _, e, _⟩ => (by rw [e]; rfl)) fun cdv A outer s H E fx ds fs hp => ?_
  obtain ⟨ns, xs, ⟨h1, h2⟩, ⟨h3, h4⟩, rfl, rfl⟩ := hp
  refine ⟨_, psse_cons (pse_expr (pd_call fx (ok_check_boxes Z) Z.m_check_boxes Z.F_check_boxes.kp (bi_check_boxes Z) .nil (fun _ => .nil) (pad_cons (pd_var fx 1) pad_nil) ⟨ns, h1, h2, rfl, rfl⟩))
    (psse_cons (pse_expr (pd_call fx (ok_check_sayings Z) Z.m_check_sayings Z.F_check_sayings.kp (bi_check_sayings Z) .nil (fun _ => .nil) (pad_cons (pd_var fx 2) (pad_cons (pd_var fx 1) pad_nil)) ⟨xs, ns, by omega, h3, h4, rfl, rfl⟩))
    (psse_cons (pse_fput fx (he := pd_bty fx (fun _ => call_listU) Z.b_list (pad_cons (pd_var fx 1) pad_nil) (rc_list (.inl .lst))) (hc := Z.c_Sheet) (hn := Z.na_Sheet_boxes)) (psse_cons (pse_fput fx (he := pd_bty fx (fun _ => call_listU) Z.b_list (pad_cons (pd_var fx 2) pad_nil) (rc_list (.inl .lst))) (hc := Z.c_Sheet) (hn := Z.na_Sheet_said)) psse_nil))), ?_⟩
  rfl
theorem ok_Sheet_names : FnOk P w K mg base (L2.CX P w) 1 (He.ma K (He.ga K "Sheet") "names") Z.d_Sheet_names ["self"] (spD K PrShNames) := by
  refine fn_data Z.F_Sheet_names sc_Sheet_names (fun ds r ⟨n, s, e, _⟩ => (by rw [e]; rfl)) fun cdv A outer s H E fx ds r hp => ?_
  obtain ⟨ns, xs, rfl, rfl⟩ := hp
  exact ⟨.rt _, pssd_rt (psd_ret (pd_bty fx (fun _ => call_listU) Z.b_list (pad_cons (pd_fld fx (pd_var fx 0) Z.c_Sheet Z.na_Sheet_boxes rfl) pad_nil) (rc_list (.inl .lst)))), .rt⟩
theorem ok_Sheet_sayings : FnOk P w K mg base (L2.CX P w) 1 (He.ma K (He.ga K "Sheet") "sayings") Z.d_Sheet_sayings ["self"] (spD K PrShSays) := by
  refine fn_data Z.F_Sheet_sayings sc_Sheet_sayings (fun ds r ⟨n, s, e, _⟩ => (by rw [e]; rfl)) fun cdv A outer s H E fx ds r hp => ?_
  obtain ⟨ns, xs, rfl, rfl⟩ := hp
  exact ⟨.rt _, pssd_rt (psd_ret (pd_bty fx (fun _ => call_listU) Z.b_list (pad_cons (pd_fld fx (pd_var fx 0) Z.c_Sheet Z.na_Sheet_said rfl) pad_nil) (rc_list (.inl .lst)))), .rt⟩
theorem bi_check_sheet : Binds K Z.d_check_sheet ["value"] [] := Z.F_check_sheet.bindsN fun _ _ _ _ _ _ us hl => match us, hl with | [_], _ => rfl
theorem ok_check_sheet : FnOk P w K mg base (L2.CX P w) 1 (He.ga K "check_sheet") Z.d_check_sheet ["value"] (spD K PrIsSheet) := by
  refine fn_data Z.F_check_sheet sc_check_sheet (fun ds r ⟨n, s, e, _⟩ => (by rw [e]; rfl)) fun cdv A outer s H E fx ds r hp => ?_
  obtain ⟨ns, xs, rfl, rfl⟩ := hp
  exact ⟨.nx (γ0 N_check_sheet [.obj "Sheet" (shF ns xs)]), pssd_ifF (ptd_not (tv := true) (ptd_val (pd_isi fx (pad_cons (pd_var fx 0) (pad_cons (pd_globR fx Z.m_Sheet (dat_cls Z "Sheet")) pad_nil)) Z.b_isinstance (.one (.own Z.o_Sheet) rfl Z.kt_Sheet_Sheet)))) pssd_nil, .nx⟩
end
end K9
set_option Elab.async false
set_option linter.all false
set_option maxRecDepth 100000
set_option maxHeartbeats 4000000
namespace K9
open PySem PySem.Spec L2 Wd
open PyProof.Rows hiding St
theorem er {α β : Type} {f : α → β} : ∀ (i : Nat) (xs : List α), (xs.map f).eraseIdx i = (xs.eraseIdx i).map f
  | _, [] => rfl
  | 0, _ :: _ => rfl
  | i + 1, x :: r => by rw [List.map_cons, List.eraseIdx_cons_succ, List.eraseIdx_cons_succ, List.map_cons, er i r]
section
variable {P : Program} {w : World} {K : PySem.W.Frag} {mg : Str → Option Value} {base : Heap} (Z : Env K mg w)
include Z
end
end K9
set_option Elab.async false
set_option linter.all false
set_option maxRecDepth 100000
set_option maxHeartbeats 4000000
namespace K9
open PySem PySem.Spec L2 Wd
open PyProof.Rows hiding St

/-! ### the law's defs: numbers of the script -/
def cell (ns : List Int) (k : Nat) : Int := if k < ns.length then ns.getD k 0 else if ns = [] then k * 48271 else ((ns.getD (k % ns.length) 0 + k) * 48271) % 2147483647
def PrCell (ds : List D) (r : Wd.Slot) : Prop := ∃ (ns : List Int) (k : Nat), ns.length ≤ 63 ∧ k ≤ 1000 ∧ ds = [.ro (ns.map .int), .int k] ∧ r = .sh (.int (cell ns k))
def mixed (c : Int) : Int := if c < 10 ^ 18 then ((c % 2147483647 * 48271 + 12345) ^ 5) / 1013 else c
def digSt (l : Int) (bs : List Int) : Int × List Int := bs.foldl (fun a b => (a.1 / b, a.2 ++ [a.1 % b])) (l, [])
def digs (c : Int) (bs : List Int) : List Int := (digSt (mixed c) bs).2
def PrNums (ds : List D) (r : Wd.Slot) : Prop := ∃ (c : Int) (bs : List Int) (b : D), IsL b (bs.map .int) ∧ bs.length ≤ 100 ∧ (∀ x ∈ bs, 0 < x ∧ x < 1000) ∧ ds = [.int c, b] ∧ r = .ow (.lst ((digs c bs).map .int))
theorem digSt_len (l : Int) (bs : List Int) : (digSt l bs).2.length = bs.length := by
  have h : ∀ (bs : List Int) (a : Int × List Int), (bs.foldl (fun a b => (a.1 / b, a.2 ++ [a.1 % b])) a).2.length = a.2.length + bs.length := fun bs => by
    induction bs with
    | nil => intro a; rfl
    | cons b r ih => intro a; rw [List.foldl_cons, ih]; simp; omega
  unfold digSt
  rw [h]
  simp
def PrParts (ds : List D) (r : Wd.Slot) : Prop := ds = [] ∧ r = .ow (.lst (partL.map .str))
def byL (s : Str) (l : Int) : Int := if fwd s = true then l else -l
def PrBy (ds : List D) (r : Wd.Slot) : Prop := ∃ (s : Str) (l : Int), ds = [.str s, .int l] ∧ r = .sh (.int (byL s l))
section
variable {P : Program} {w : World} {K : PySem.W.Frag} {mg : Str → Option Value} {base : Heap} (Z : Env K mg w)
include Z
theorem bi_l_cell_at : Binds K Z.d_l_cell_at ["_law_script", "_law_k"] [] := Z.F_l_cell_at.bindsN fun _ _ _ _ _ _ us hl => match us, hl with | [_, _], _ => rfl
theorem ok_l_cell_at : FnOk P w K mg base (L2.CX P w) 1 (He.ga K "_law_cell_at") Z.d_l_cell_at ["_law_script", "_law_k"] (spD K PrCell) := by
  refine fn_data Z.F_l_cell_at sc_l_cell_at (fun ds r ⟨n, k, _, _, e, _⟩ => (by rw [e]; rfl)) fun cdv A outer s H E fx ds r hp => ?_
  obtain ⟨ns, k, hn, hk, rfl, rfl⟩ := hp
  refine ⟨.rt _, ?_, .rt⟩
  refine pssd_ifret (ptd_cmp (fun _ => op_lt) (nomark _) (pd_var fx 1) (pd_blt fx (fun _ => call_lenU) Z.b_len (pad_cons (pd_var fx 0) pad_nil) (rc_len (.lst .ro))) rd_lt) (fun h1 => ?_) (fun h1 => ?_)
  · have h2 : k < ns.length := by have z := of_decide_eq_true h1; rw [List.length_map] at z; omega
    have e : cell ns k = ns[k] := by unfold cell; rw [if_pos h2, List.getD_eq_getElem?_getD, List.getElem?_eq_getElem h2]; rfl
    rw [e]
    exact pssd_rt (psd_ret (pd_sub fx (pd_var fx 0) (pd_var fx 1) (.lst .ro (atI_nat (by rw [List.getElem?_map, List.getElem?_eq_getElem h2]; rfl)))))
  · have h2 : ¬ k < ns.length := by have z := of_decide_eq_false h1; rw [List.length_map] at z; omega
    refine pssd_ifret (ptd_eq fx (pd_var fx 0) (PED.share (pd_lst pad_nil)) (.py (.lst .ro (PysOf.map (g := PyData.int) (fun x => .int) ns)) (.lst .lst .nil) (Nat.le_trans (Nat.min_le_right _ _) (by decide)))) (fun h3 => ?_) (fun h3 => ?_)
    · have h4 : ns = [] := by
        cases ns with
        | nil => rfl
        | cons x r => simp [PyData.eqv, PyData.eqvAll] at h3
      have e : cell ns k = k * 48271 := by unfold cell; rw [if_neg h2, if_pos h4]
      rw [e]
      exact pssd_rt (psd_ret (pd_mul (pd_var fx 1) pd_int (.inr (by decide))))
    · have h4 : ns ≠ [] := fun z => by subst z; simp [PyData.eqv, PyData.eqvAll] at h3
      have h5 : 0 < ns.length := List.length_pos_iff.mpr h4
      have h6 : k % ns.length < ns.length := Nat.mod_lt _ h5
      have e : cell ns k = ((ns[k % ns.length] + k) * 48271) % 2147483647 := by unfold cell; rw [if_neg h2, if_neg h4, List.getD_eq_getElem?_getD, List.getElem?_eq_getElem h6]; rfl
      have e2 : ((k : Int) % ((ns.map D.int).length : Nat)) = ((k % ns.length : Nat) : Int) := by rw [List.length_map]; exact (Int.natCast_emod k ns.length).symm
      rw [e]
      refine pssd_rt (psd_ret (pd_op (fun _ => op_mod) (pd_mul (pd_plus (pd_sub fx (pd_var fx 0) (pd_cast (congrArg (fun z => Wd.Slot.sh (D.int z)) e2) (pd_op (fun _ => op_mod) (pd_var fx 1) (pd_blt fx (fun _ => call_lenU) Z.b_len (pad_cons (pd_var fx 0) pad_nil) (rc_len (.lst .ro))) (rd_mod (by rw [List.length_map]; omega)))) (.lst .ro (atI_nat (by rw [List.getElem?_map, List.getElem?_eq_getElem h6]; rfl)))) (pd_var fx 1)) pd_int (.inr (by decide))) pd_int (rd_mod (by decide))))
theorem bi_l_numbers : Binds K Z.d_l_numbers ["_law_cell", "_law_bounds"] [] := Z.F_l_numbers.bindsN fun _ _ _ _ _ _ us hl => match us, hl with | [_, _], _ => rfl
theorem bi_l_parts : Binds K Z.d_l_parts [] [] := Z.F_l_parts.bindsN fun _ _ _ _ _ _ us hl => match us, hl with | [], _ => rfl
theorem bi_l_by : Binds K Z.d_l_by ["_law_side", "_law_left_here"] [] := Z.F_l_by.bindsN fun _ _ _ _ _ _ us hl => match us, hl with | [_, _], _ => rfl
theorem ok_l_parts : FnOk P w K mg base (L2.CX P w) 1 (He.ga K "_law_parts") Z.d_l_parts [] (spD K PrParts) := by
  refine fn_data Z.F_l_parts sc_l_parts (fun ds r ⟨e, _⟩ => (by rw [e]; rfl)) fun cdv A outer s H E fx ds r hp => ?_
  obtain ⟨rfl, rfl⟩ := hp
  exact ⟨.rt _, pssd_rt (psd_ret (pd_lst (pad_cons pd_str (pad_cons pd_str (pad_cons pd_str (pad_cons pd_str pad_nil)))))), .rt⟩
theorem ok_l_by : FnOk P w K mg base (L2.CX P w) 1 (He.ga K "_law_by") Z.d_l_by ["_law_side", "_law_left_here"] (spD K PrBy) := by
  refine fn_data Z.F_l_by sc_l_by (fun ds r ⟨x, l, e, _⟩ => (by rw [e]; rfl)) fun cdv A outer s H E fx ds r hp => ?_
  obtain ⟨x, l, rfl, rfl⟩ := hp
  exact ⟨.rt _, pssd_rt (psd_ret (pd_if (tv := fwd x) (ptd_in fx (pd_var fx 0) (pd_tup (pad_cons pd_str (pad_cons pd_str pad_nil))) (.tup .tup rfl rfl)) (fun h => pd_cast (by unfold byL; rw [if_pos h]) (pd_var fx 1)) (fun h => pd_cast (by unfold byL; rw [if_neg (by rw [h]; decide)]) (pd_neg (pd_var fx 1))))), .rt⟩
theorem ok_l_numbers : FnOk P w K mg base (L2.CX P w) 1 (He.ga K "_law_numbers") Z.d_l_numbers ["_law_cell", "_law_bounds"] (spD K PrNums) := by
  refine fn_data Z.F_l_numbers sc_l_numbers (fun ds r ⟨c, bs, b, _, _, _, e, _⟩ => (by rw [e]; rfl)) fun cdv A outer s H E fx ds r hp => ?_
  obtain ⟨c, bs, b, hb, hn, hp, rfl, rfl⟩ := hp
  refine ⟨.rt _, ?_, .rt⟩
  refine pssd_cons (psd_set fx 2 (pd_var fx 0)) ?_
  refine pssd_cons (γ1 := [.sh (.int c), .sh b, .sh (.int (mixed c)), .un, .un]) ?_ ?_
  · by_cases h : c < 10 ^ 18
    · have e : mixed c = ((c % 2147483647 * 48271 + 12345) ^ 5) / 1013 := by unfold mixed; rw [if_pos h]
      rw [e]
      have b1 : 0 ≤ c % 2147483647 := Int.emod_nonneg _ (by decide)
      have b2 : c % 2147483647 < 2147483647 := Int.emod_lt_of_pos _ (by decide)
      exact psd_ifT (ptd_cast (decide_eq_true h) (ptd_cmp (fun _ => op_lt) (nomark _) (pd_var fx 0) (pd_op (fun _ => op_pow) pd_int pd_int (rd_pow (by unfold CPow; decide))) rd_lt)) (pssd_one (psd_set fx 2 (pd_op (fun _ => op_fdiv) (pd_op (fun _ => op_pow) (pd_plus (pd_mul (pd_op (fun _ => op_mod) (pd_var fx 0) pd_int (rd_mod (by decide))) pd_int (.inr (by decide))) pd_int) pd_int (rd_pow (by unfold CPow; omega))) pd_int (rd_fdiv (by unfold CDiv; decide)))))
    · have e : mixed c = c := by unfold mixed; rw [if_neg h]
      rw [e]
      exact psd_ifF (ptd_cast (decide_eq_false h) (ptd_cmp (fun _ => op_lt) (nomark _) (pd_var fx 0) (pd_op (fun _ => op_pow) pd_int pd_int (rd_pow (by unfold CPow; decide))) rd_lt)) pssd_nil
  refine pssd_cons (psd_set fx 3 (pd_lst pad_nil)) ?_
  refine pssd_cons (psd_for fx bs (fun x => D.int x) (fun i => [.sh (.int c), .sh b, .sh (.int (digSt (mixed c) (bs.take i)).1), .ow (.lst ((digSt (mixed c) (bs.take i)).2.map .int)), .un]) (pid_list fx hb (pd_var fx 1)) (.s (.s (.s (.s (.u .n))))) fun i x hx => ?_) ?_
  · obtain ⟨p1, p2⟩ := hp x (List.mem_of_getElem? hx)
    have et : bs.take (i + 1) = bs.take i ++ [x] := by rw [List.take_add_one, hx]; rfl
    have e1 : digSt (mixed c) (bs.take (i + 1)) = ((digSt (mixed c) (bs.take i)).1 / x, (digSt (mixed c) (bs.take i)).2 ++ [(digSt (mixed c) (bs.take i)).1 % x]) := by
      unfold digSt
      rw [et, List.foldl_append]
      rfl
    refine ⟨_, _, _, tgd_name fx 4, .inl (pssd_cons (psd_append fx 3 rfl (pd_op (fun _ => op_mod) (pd_var fx 2) (pd_var fx 4) (rd_mod p1)) (by rw [List.length_map, digSt_len, List.length_take, sizeLine_eq]; omega)) (pssd_one (psd_set fx 2 (pd_op (fun _ => op_fdiv) (pd_var fx 2) (pd_var fx 4) (rd_fdiv (by unfold CDiv; omega)))))), ?_⟩
    rw [e1]
    refine .s (.s (.s ?_))
    rw [List.map_append]
    exact .s (.u .n)
  · have e : digs c bs = (digSt (mixed c) (bs.take bs.length)).2 := by rw [List.take_length]; rfl
    rw [e]
    exact pssd_rt (psd_retOw fx 3)
end
end K9
set_option Elab.async false
set_option linter.all false
set_option maxRecDepth 100000
set_option maxHeartbeats 4000000
namespace K9
open PySem PySem.Spec L2 Wd
open PyProof.Rows hiding St
/-! ### the law's names -/
def wordL : List Str := ["a", "box", "left", "of", "by", "b", "wide", "amid", "across", "as", "times", "c"]
def wordAt (c : Int) (k : Nat) : Str := wordL.getD ((c / 6 % 12 + 5 * (k : Int)) % 12).toNat Str.empty
def namesOf (c : Int) : List Str := (List.range (1 + c % 6).toNat).map (wordAt c)
def PrLNames (ds : List D) (r : Wd.Slot) : Prop := ∃ c : Int, ds = [.int c] ∧ r = .ow (.lst ((namesOf c).map .str))
section
variable {P : Program} {w : World} {K : PySem.W.Frag} {mg : Str → Option Value} {base : Heap} (Z : Env K mg w)
include Z
theorem bi_l_names : Binds K Z.d_l_names ["_law_cell"] [] := Z.F_l_names.bindsN fun _ _ _ _ _ _ us hl => match us, hl with | [_], _ => rfl
theorem ok_l_names : FnOk P w K mg base (L2.CX P w) 1 (He.ga K "_law_names") Z.d_l_names ["_law_cell"] (spD K PrLNames) := by
  refine fn_data Z.F_l_names sc_l_names (fun ds r ⟨c, e, _⟩ => (by rw [e]; rfl)) fun cdv A outer s H E fx ds r hp => ?_
  obtain ⟨c, rfl, rfl⟩ := hp
  refine ⟨.rt _, ?_, .rt⟩
  have b1 : 0 ≤ c % 6 := Int.emod_nonneg _ (by decide)
  have b2 : c % 6 < 6 := Int.emod_lt_of_pos _ (by decide)
  refine pssd_cons (psd_set fx 1 (PED.share (pd_lst (pad_cons pd_str (pad_cons pd_str (pad_cons pd_str (pad_cons pd_str (pad_cons pd_str (pad_cons pd_str (pad_cons pd_str (pad_cons pd_str (pad_cons pd_str (pad_cons pd_str (pad_cons pd_str (pad_cons pd_str pad_nil))))))))))))))) ?_
  refine pssd_cons (psd_asg fx (pd_tup (pad_cons (pd_op (fun _ => op_mod) (pd_op (fun _ => op_fdiv) (pd_var fx 0) pd_int (rd_fdiv (by unfold CDiv; decide))) pd_int (rd_mod (by decide))) (pad_cons (pd_plus pd_int (pd_op (fun _ => op_mod) (pd_var fx 0) pd_int (rd_mod (by decide)))) pad_nil))) (tgd_tup fx .tup (tgsd_cons (tgd_name fx 2) (tgsd_cons (tgd_name fx 3) tgsd_nil)))) ?_
  have e : (namesOf c).map D.str = (List.range (1 + c % 6).toNat).map fun k => D.str (wordAt c k) := by unfold namesOf; rw [List.map_map]; rfl
  rw [e]
  refine pssd_rt (psd_ret (pd_lcA fx [("_law_k", 4)] (List.range (1 + c % 6).toNat) (fun k : Nat => D.int (0 + (k : Int))) (fun k => D.str (wordAt c k)) (pid_range1 fx (pad_cons (pd_var fx 3) pad_nil) Z.b_range (by omega)) (by rw [List.length_range, sizeLine_eq]; omega) fun k hk => ⟨_, _, tgd_name fx.bk 4, fun _ h => h, ?_⟩))
  have hk6 : k < 6 := by rw [List.mem_range] at hk; omega
  have m1 : 0 ≤ (c / 6 % 12 + 5 * (k : Int)) % 12 := Int.emod_nonneg _ (by decide)
  have m2 : (c / 6 % 12 + 5 * (k : Int)) % 12 < 12 := Int.emod_lt_of_pos _ (by decide)
  have m3 : ((c / 6 % 12 + 5 * (k : Int)) % 12).toNat < wordL.length := by show _ < 12; omega
  have ix : atI (wordL.map D.str) ((c / 6 % 12 + 5 * (0 + (k : Int))) % 12) = some (D.str (wordAt c k)) := by
    have e2 : (c / 6 % 12 + 5 * (0 + (k : Int))) % 12 = (((c / 6 % 12 + 5 * (k : Int)) % 12).toNat : Int) := by rw [Int.zero_add, Int.toNat_of_nonneg m1]
    rw [e2]
    refine atI_nat ?_
    rw [List.getElem?_map, List.getElem?_eq_getElem m3]
    unfold wordAt
    rw [List.getD_eq_getElem?_getD, List.getElem?_eq_getElem m3]
    rfl
  exact pd_sub fx.bk (pd_var fx.bk 1) (pd_op (fun _ => op_mod) (pd_plus (pd_var fx.bk 2) (pd_mul pd_int (pd_var fx.bk 4) (.inl (by decide)))) pd_int (rd_mod (by decide))) (.lst .lst ix)
end
end K9
set_option Elab.async false
set_option linter.all false
set_option maxRecDepth 100000
set_option maxHeartbeats 4000000
namespace K9
open PySem PySem.Spec L2 Wd
open PyProof.Rows hiding St
/-! ### the law's sayings: tuples -/
def Say.t : Say → D
  | .at_ n p i => .tup [.str "at", .str n, .str p, .int i]
  | .bes n s o b => .tup [.str "beside", .str n, .str s, .str o, .int b]
  | .alk n p o m => .tup [.str "alike", .str n, .str p, .str o, .int m]
  | .amd n v o u => .tup [.str "amid", .str n, .str v, .str o, .str u]
def Say.wd : Say → Prop
  | .at_ .. => True
  | .bes _ s _ _ => s ∈ sideL
  | .alk .. => True
  | .amd _ v _ _ => v ∈ wayL
def encTm (t : Tm) : D := .tup [.str t.1, .str t.2.1, .int t.2.2]
def PrTerms (ds : List D) (r : Wd.Slot) : Prop := ∃ x : Say, x.wd ∧ ds = [x.t] ∧ r = .sh (.tup [.lst (x.tms.map encTm), .int x.num])
theorem sideRLA {s : Str} (h : s ∈ sideL) : (inV (.str s) [.str "right", .str "left", .str "across"] = true ∧ near s = "left" ∧ far s = "wide") ∨ (inV (.str s) [.str "right", .str "left", .str "across"] = false ∧ near s = "top" ∧ far s = "high") := by
  unfold sideL at h
  simp only [List.mem_cons, List.not_mem_nil, or_false] at h
  rcases h with rfl | rfl | rfl | rfl
  · exact .inl (by decide +kernel)
  · exact .inl (by decide +kernel)
  · exact .inr (by decide +kernel)
  · exact .inr (by decide +kernel)
theorem wayRLA {s : Str} (h : s ∈ wayL) : (inV (.str s) [.str "right", .str "left", .str "across"] = true ∧ nearW s = "left" ∧ farW s = "wide") ∨ (inV (.str s) [.str "right", .str "left", .str "across"] = false ∧ nearW s = "top" ∧ farW s = "high") := by
  unfold wayL at h
  simp only [List.mem_cons, List.not_mem_nil, or_false] at h
  rcases h with rfl | rfl
  · exact .inl (by decide +kernel)
  · exact .inr (by decide +kernel)
section
variable {P : Program} {w : World} {K : PySem.W.Frag} {mg : Str → Option Value} {base : Heap} (Z : Env K mg w)
include Z
theorem ptd_is {ι : Type} {Xs : ι → Cx} {N : List Str} {k : Nat} (fx : Fx Xs P w K mg base N k) {γ : Gm} {a b : Expr} {pos : Pos} {x y : Str} {tv : Bool} (ha : PED K Xs a γ (.sh (.str x))) (hb : PED K Xs b γ (.sh (.str y))) (h : decide (V.str x = V.str y) = tv) (hm : behindInMarks .Eq b = false := by exact nomark _) : PTD K Xs (.Compare a [.Eq] [b] pos) γ tv :=
  ptd_cast h (ptd_eq fx ha hb (.flat rfl rfl rfl) hm)
theorem bi_l_terms : Binds K Z.d_l_terms ["_law_said"] [] := Z.F_l_terms.bindsN fun _ _ _ _ _ _ us hl => match us, hl with | [_], _ => rfl
theorem ok_l_terms : FnOk P w K mg base (L2.CX P w) 1 (He.ga K "_law_terms") Z.d_l_terms ["_law_said"] (spD K PrTerms) := by
  refine fn_data Z.F_l_terms sc_l_terms (fun ds r ⟨x, _, e, _⟩ => (by rw [e]; rfl)) fun cdv A outer s H E fx ds r hp => ?_
  obtain ⟨x, hw, rfl, rfl⟩ := hp
  refine ⟨.rt _, ?_, .rt⟩
  cases x with
  | at_ n p i =>
    exact pssd_ifT (ptd_is Z fx (pd_sub fx (pd_var fx 0) pd_int (.tup .tup rfl)) pd_str (by decide +kernel)) (pssd_rt (psd_ret (pd_tup (pad_cons (PED.share (pd_lst (pad_cons (pd_tup (pad_cons (pd_sub fx (pd_var fx 0) pd_int (.tup .tup rfl)) (pad_cons (pd_sub fx (pd_var fx 0) pd_int (.tup .tup rfl)) (pad_cons pd_int pad_nil)))) pad_nil))) (pad_cons (pd_sub fx (pd_var fx 0) pd_int (.tup .tup rfl)) pad_nil))))) (fun _ z => nomatch z)
  | alk n p o m =>
    refine pssd_ifF (ptd_is Z fx (pd_sub fx (pd_var fx 0) pd_int (.tup .tup rfl)) pd_str (by decide +kernel)) ?_
    exact pssd_ifT (ptd_is Z fx (pd_sub fx (pd_var fx 0) pd_int (.tup .tup rfl)) pd_str (by decide +kernel)) (pssd_rt (psd_ret (pd_tup (pad_cons (PED.share (pd_lst (pad_cons (pd_tup (pad_cons (pd_sub fx (pd_var fx 0) pd_int (.tup .tup rfl)) (pad_cons (pd_sub fx (pd_var fx 0) pd_int (.tup .tup rfl)) (pad_cons pd_int pad_nil)))) (pad_cons (pd_tup (pad_cons (pd_sub fx (pd_var fx 0) pd_int (.tup .tup rfl)) (pad_cons (pd_sub fx (pd_var fx 0) pd_int (.tup .tup rfl)) (pad_cons (pd_neg (pd_sub fx (pd_var fx 0) pd_int (.tup .tup rfl))) pad_nil)))) pad_nil)))) (pad_cons pd_int pad_nil))))) (fun _ z => nomatch z)
  | bes n s o b =>
    have nf := sideRLA hw
    refine pssd_ifF (ptd_is Z fx (pd_sub fx (pd_var fx 0) pd_int (.tup .tup rfl)) pd_str (by decide +kernel)) ?_
    refine pssd_ifF (ptd_is Z fx (pd_sub fx (pd_var fx 0) pd_int (.tup .tup rfl)) pd_str (by decide +kernel)) ?_
    refine pssd_cons (psd_asg fx (d := .tup [.str (near s), .str (far s)]) (pd_if (tv := inV (.str s) [.str "right", .str "left", .str "across"]) (ptd_in fx (pd_sub fx (pd_var fx 0) pd_int (.tup .tup rfl)) (pd_tup (pad_cons pd_str (pad_cons pd_str (pad_cons pd_str pad_nil)))) (.tup .tup rfl rfl))
      (fun h => pd_cast (by rcases nf with ⟨_, e1, e2⟩ | ⟨e0, _⟩ <;> first | rw [e1, e2] | (rw [e0] at h; cases h)) (pd_tup (pad_cons pd_str (pad_cons pd_str pad_nil)))) (fun h => pd_cast (by rcases nf with ⟨e0, _⟩ | ⟨_, e1, e2⟩ <;> first | rw [e1, e2] | (rw [e0] at h; cases h)) (pd_tup (pad_cons pd_str (pad_cons pd_str pad_nil))))) (tgd_tup fx .tup (tgsd_cons (tgd_name fx 1) (tgsd_cons (tgd_name fx 2) tgsd_nil)))) ?_
    refine pssd_ifF (ptd_is Z fx (pd_sub fx (pd_var fx 0) pd_int (.tup .tup rfl)) pd_str (by decide +kernel)) ?_
    refine pssd_ifret (tv := fwd s) (ptd_in fx (pd_sub fx (pd_var fx 0) pd_int (.tup .tup rfl)) (pd_tup (pad_cons pd_str (pad_cons pd_str pad_nil))) (.tup .tup rfl rfl)) (fun h => ?_) (fun h => ?_)
    · have e : (Say.bes n s o b).tms = [(n, near s, 1), (o, near s, -1), (o, far s, -1)] ∧ (Say.bes n s o b).num = b := ⟨show besT n s o = _ by unfold besT; rw [if_pos h], show besN s b = _ by unfold besN; rw [if_pos h]⟩
      rw [e.1, e.2]
      exact pssd_rt (psd_ret (pd_tup (pad_cons (PED.share (pd_lst (pad_cons (pd_tup (pad_cons (pd_sub fx (pd_var fx 0) pd_int (.tup .tup rfl)) (pad_cons (pd_var fx 1) (pad_cons pd_int pad_nil)))) (pad_cons (pd_tup (pad_cons (pd_sub fx (pd_var fx 0) pd_int (.tup .tup rfl)) (pad_cons (pd_var fx 1) (pad_cons (pd_neg pd_int) pad_nil)))) (pad_cons (pd_tup (pad_cons (pd_sub fx (pd_var fx 0) pd_int (.tup .tup rfl)) (pad_cons (pd_var fx 2) (pad_cons (pd_neg pd_int) pad_nil)))) pad_nil))))) (pad_cons (pd_sub fx (pd_var fx 0) pd_int (.tup .tup rfl)) pad_nil))))
    · have e : (Say.bes n s o b).tms = [(n, near s, 1), (n, far s, 1), (o, near s, -1)] ∧ (Say.bes n s o b).num = -b := ⟨show besT n s o = _ by unfold besT; rw [if_neg (by rw [h]; decide)], show besN s b = _ by unfold besN; rw [if_neg (by rw [h]; decide)]⟩
      rw [e.1, e.2]
      exact pssd_rt (psd_ret (pd_tup (pad_cons (PED.share (pd_lst (pad_cons (pd_tup (pad_cons (pd_sub fx (pd_var fx 0) pd_int (.tup .tup rfl)) (pad_cons (pd_var fx 1) (pad_cons pd_int pad_nil)))) (pad_cons (pd_tup (pad_cons (pd_sub fx (pd_var fx 0) pd_int (.tup .tup rfl)) (pad_cons (pd_var fx 2) (pad_cons pd_int pad_nil)))) (pad_cons (pd_tup (pad_cons (pd_sub fx (pd_var fx 0) pd_int (.tup .tup rfl)) (pad_cons (pd_var fx 1) (pad_cons (pd_neg pd_int) pad_nil)))) pad_nil))))) (pad_cons (pd_neg (pd_sub fx (pd_var fx 0) pd_int (.tup .tup rfl))) pad_nil))))
  | amd n v o u =>
    have nf := wayRLA hw
    let l0 : List Tm := [(n, nearW v, 4), (n, farW v, 2)]
    let ls : Nat → List Tm := fun i => if i = 0 then l0 else if i = 1 then l0 ++ [(o, nearW v, -2), (o, farW v, -1)] else amdT n v o u
    refine pssd_ifF (ptd_is Z fx (pd_sub fx (pd_var fx 0) pd_int (.tup .tup rfl)) pd_str (by decide +kernel)) ?_
    refine pssd_ifF (ptd_is Z fx (pd_sub fx (pd_var fx 0) pd_int (.tup .tup rfl)) pd_str (by decide +kernel)) ?_
    refine pssd_cons (psd_asg fx (d := .tup [.str (nearW v), .str (farW v)]) (pd_if (tv := inV (.str v) [.str "right", .str "left", .str "across"]) (ptd_in fx (pd_sub fx (pd_var fx 0) pd_int (.tup .tup rfl)) (pd_tup (pad_cons pd_str (pad_cons pd_str (pad_cons pd_str pad_nil)))) (.tup .tup rfl rfl))
      (fun h => pd_cast (by rcases nf with ⟨_, e1, e2⟩ | ⟨e0, _⟩ <;> first | rw [e1, e2] | (rw [e0] at h; cases h)) (pd_tup (pad_cons pd_str (pad_cons pd_str pad_nil)))) (fun h => pd_cast (by rcases nf with ⟨e0, _⟩ | ⟨_, e1, e2⟩ <;> first | rw [e1, e2] | (rw [e0] at h; cases h)) (pd_tup (pad_cons pd_str (pad_cons pd_str pad_nil))))) (tgd_tup fx .tup (tgsd_cons (tgd_name fx 1) (tgsd_cons (tgd_name fx 2) tgsd_nil)))) ?_
    refine pssd_ifT (ptd_is Z fx (pd_sub fx (pd_var fx 0) pd_int (.tup .tup rfl)) pd_str (by decide +kernel)) ?_ (fun _ z => nomatch z)
    refine pssd_cons (psd_set fx 3 (PED.share (pd_lst (pad_cons (pd_tup (pad_cons (pd_sub fx (pd_var fx 0) pd_int (.tup .tup rfl)) (pad_cons (pd_var fx 1) (pad_cons pd_int pad_nil)))) (pad_cons (pd_tup (pad_cons (pd_sub fx (pd_var fx 0) pd_int (.tup .tup rfl)) (pad_cons (pd_var fx 2) (pad_cons pd_int pad_nil)))) pad_nil))))) ?_
    refine pssd_cons (psd_for fx [o, u] (fun x => D.str x) (fun i => [.sh (Say.amd n v o u).t, .sh (.str (nearW v)), .sh (.str (farW v)), .sh (.lst ((ls i).map encTm)), .un]) (pid_tup fx .tup (pd_slice fx (pd_var fx 0) (pod_some pd_int) pod_none .tup)) (.s (.s (.s (.s (.u .n))))) fun i x hx => ?_) (pssd_rt (psd_ret (pd_tup (pad_cons (pd_var fx 3) (pad_cons pd_int pad_nil)))))
    have facts : (ls i).length ≤ 10 ∧ ls (i + 1) = ls i ++ [(x, nearW v, -2), (x, farW v, -1)] := by
      rcases i with _ | _ | i
      · obtain rfl : o = x := Option.some.inj hx
        exact ⟨Nat.le_of_ble_eq_true rfl, rfl⟩
      · obtain rfl : u = x := Option.some.inj hx
        exact ⟨Nat.le_of_ble_eq_true rfl, rfl⟩
      · simp at hx
    obtain ⟨f1, f2⟩ := facts
    refine ⟨_, _, _, tgd_name fx 4, .inl (pssd_one (psd_set fx 3 (PED.share (pd_op (r := rAddU K) (fun _ => op_addU) (pd_var fx 3) (PED.share (pd_lst (pad_cons (pd_tup (pad_cons (pd_var fx 4) (pad_cons (pd_var fx 1) (pad_cons (pd_neg pd_int) pad_nil)))) (pad_cons (pd_tup (pad_cons (pd_var fx 4) (pad_cons (pd_var fx 2) (pad_cons (pd_neg pd_int) pad_nil)))) pad_nil)))) (rd_add (.lst (by rw [List.length_map, sizeLine_eq]; show _ + 2 ≤ _; omega))))))), ?_⟩
    rw [f2, List.map_append]
    exact .s (.s (.s (.s (.u .n))))
end
end K9
set_option Elab.async false
set_option linter.all false
set_option maxRecDepth 100000
set_option maxHeartbeats 4000000
namespace K9
open PySem PySem.Spec L2 Wd
open PyProof.Rows hiding St
/-! ### what a saying leaves over at the hidden places -/
abbrev Hid : Type := List (Str × List Int)
def encHid (h : Hid) : D := .dk (h.map fun p => ((Sum.inr p.1 : Key), D.lst (p.2.map D.int)))
def hidAt (h : Hid) (n p : Str) : Option Int := (getK h n).bind fun l => l[partIx p]?
def HidOk (h : Hid) (x : Say) : Prop := ∀ t ∈ x.tms, t.2.1 ∈ partL ∧ sm t.2.2 ∧ ∃ v, hidAt h t.1 t.2.1 = some v
def leftOf (h : Hid) (x : Say) : Int := (x.tms.map fun t => t.2.2 * (hidAt h t.1 t.2.1).getD 0).sum - x.num
def PrLeft (ds : List D) (r : Wd.Slot) : Prop := ∃ (d0 : D) (x : Say) (h : Hid), x.wd ∧ HidOk h x ∧ ds = [d0, x.t, encHid h] ∧ r = .sh (.int (leftOf h x))
theorem tms_len (x : Say) : x.tms.length ≤ 6 := by
  cases x with
  | at_ n p i => exact Nat.le_of_ble_eq_true rfl
  | bes n s o b => show (besT n s o).length ≤ 6; unfold besT; split <;> exact Nat.le_of_ble_eq_true rfl
  | alk n p o m => exact Nat.le_of_ble_eq_true rfl
  | amd n v o u => exact Nat.le_of_ble_eq_true rfl
section
variable {P : Program} {w : World} {K : PySem.W.Frag} {mg : Str → Option Value} {base : Heap} (Z : Env K mg w)
include Z
theorem bi_l_left : Binds K Z.d_l_left ["_law_names_here", "_law_said", "_law_hidden"] [] := Z.F_l_left.bindsN fun _ _ _ _ _ _ us hl => match us, hl with | [_, _, _], _ => rfl
theorem ok_l_left : FnOk P w K mg base (L2.CX P w) 2 (He.ga K "_law_left") Z.d_l_left ["_law_names_here", "_law_said", "_law_hidden"] (spD K PrLeft) := by
  refine fn_data Z.F_l_left sc_l_left (fun ds r ⟨d0, x, h, _, _, e, _⟩ => (by rw [e]; rfl)) fun cdv A outer s H E fx ds r hp => ?_
  obtain ⟨d0, x, h, hw, hok, rfl, rfl⟩ := hp
  refine ⟨.rt _, ?_, .rt⟩
  refine pssd_cons (psd_asg fx (pd_call fx (ok_l_terms Z) Z.m_l_terms Z.F_l_terms.kp (bi_l_terms Z) .nil (fun _ => .nil) (pad_cons (pd_var fx 1) pad_nil) ⟨x, hw, rfl, rfl⟩) (tgd_tup fx .tup (tgsd_cons (tgd_name fx 3) (tgsd_cons (tgd_name fx 4) tgsd_nil)))) ?_
  refine pssd_rt (psd_ret (pd_minus (pd_sumC fx [("_law_name", 5), ("_law_part", 6), ("_law_many", 7)] x.tms encTm (fun t => t.2.2 * (hidAt h t.1 t.2.1).getD 0) Z.b_sum (pid_list fx .lst (pd_var fx 3)) (by have := tms_len x; rw [sizeLine_eq]; omega) fun t ht => ⟨_, _, tgd_tup fx.bk .tup (tgsd_cons (tgd_name fx.bk 5) (tgsd_cons (tgd_name fx.bk 6) (tgsd_cons (tgd_name fx.bk 7) tgsd_nil))), fun _ h => h, ?_⟩) (pd_var fx 4)))
  obtain ⟨h1, h2, v, h3⟩ := hok t ht
  obtain ⟨l, hl1, hl2⟩ := Option.bind_eq_some_iff.mp h3
  have e1 : getK (h.map fun p => ((Sum.inr p.1 : Key), D.lst (p.2.map D.int))) (Sum.inr t.1) = some (.lst (l.map D.int)) := (getK_map (κ' := Key) Sum.inr inr_inj (fun v : List Int => D.lst (v.map D.int)) h t.1).trans (by rw [hl1]; rfl)
  have e2 : atI (l.map D.int) (partIx t.2.1 : Nat) = some (.int v) := atI_nat (by rw [List.getElem?_map, hl2]; rfl)
  rw [h3]
  exact pd_mul (pd_var fx.bk 7) (pd_sub fx.bk (pd_sub fx.bk (pd_var fx.bk 2) (pd_var fx.bk 5) (.dks e1)) (pd_index fx.bk (PED.share (pd_call0 fx.bk (ok_l_parts Z) Z.m_l_parts Z.F_l_parts.kp (bi_l_parts Z) .nil (fun _ => .nil) ⟨rfl, rfl⟩)) .lst (pd_var fx.bk 6) (part_first h1)) (.lst .lst e2)) (.inl (sm64 h2))
end
end K9
set_option Elab.async false
set_option linter.all false
set_option maxRecDepth 100000
set_option maxHeartbeats 4000000
namespace K9
open PySem PySem.Spec L2 Wd
open PyProof.Rows hiding St
/-! ### a drawn share; a saying made -/
def botL : List Int := [1, 1, 2, 3, 4, 5, 6, 7]
def shBot (c : Int) : Int := botL.getD (c % 8).toNat 1
def shTop (c : Int) : Int := c / 8 % 41 - 12
def shDiv (c : Int) (n : Nat) : Bool := decide (shTop c % (1 + (n : Int)) = 0) && decide (shBot c % (1 + (n : Int)) = 0)
def shDivs (c : Int) : List Int := ((List.range (shBot c).toNat).filter (shDiv c)).map fun n : Nat => 1 + (n : Int)
def shPart (c : Int) : Int := (shDivs c).foldl max 1
def drawn (c : Int) : Sh := (shTop c / shPart c, shBot c / shPart c)
def PrDrawn (ds : List D) (r : Wd.Slot) : Prop := ∃ c : Int, ds = [.int c] ∧ r = .sh (encSh (drawn c))
theorem shBot_in (c : Int) : 1 ≤ shBot c ∧ shBot c ≤ 7 := by
  have h : ∀ n : Fin 8, 1 ≤ botL.getD n.val 1 ∧ botL.getD n.val 1 ≤ 7 := by decide
  have m1 : 0 ≤ c % 8 := Int.emod_nonneg _ (by decide)
  have m2 : c % 8 < 8 := Int.emod_lt_of_pos _ (by decide)
  exact h ⟨(c % 8).toNat, by omega⟩
theorem fold_max : ∀ (l : List Int) (a : Int), (l.foldl max a = a ∨ l.foldl max a ∈ l) ∧ a ≤ l.foldl max a ∧ ∀ y ∈ l, y ≤ l.foldl max a
  | [], a => ⟨.inl rfl, Int.le_refl _, fun _ h => nomatch h⟩
  | x :: r, a => by
    obtain ⟨h1, h2, h3⟩ := fold_max r (max a x)
    have m1 : a ≤ max a x := Int.le_max_left _ _
    have m2 : x ≤ max a x := Int.le_max_right _ _
    rw [List.foldl_cons]
    refine ⟨?_, Int.le_trans m1 h2, fun y hy => ?_⟩
    · rcases h1 with h1 | h1
      · rw [h1]
        by_cases e : a ≤ x
        · exact .inr (by rw [Int.max_eq_right e]; exact List.mem_cons_self)
        · exact .inl (Int.max_eq_left (by omega))
      · exact .inr (List.mem_cons_of_mem _ h1)
    · rcases List.mem_cons.mp hy with rfl | hy
      · exact Int.le_trans m2 h2
      · exact h3 y hy
theorem one_div (c : Int) : (1 : Int) ∈ shDivs c := by
  obtain ⟨h1, h2⟩ := shBot_in c
  unfold shDivs
  rw [List.mem_map]
  refine ⟨0, List.mem_filter.mpr ⟨List.mem_range.mpr (by omega), ?_⟩, rfl⟩
  unfold shDiv
  rw [show (1 : Int) + ((0 : Nat) : Int) = 1 from rfl, Int.emod_one, Int.emod_one]
  rfl
theorem shPart_in (c : Int) : shPart c ∈ shDivs c ∧ (∀ y ∈ shDivs c, y ≤ shPart c) ∧ 1 ≤ shPart c ∧ shPart c ≤ 7 := by
  obtain ⟨h1, h2, h3⟩ := fold_max (shDivs c) 1
  obtain ⟨b1, b2⟩ := shBot_in c
  have hm : shPart c ∈ shDivs c := by
    rcases h1 with h1 | h1
    · show (shDivs c).foldl max 1 ∈ _
      rw [h1]
      exact one_div c
    · exact h1
  refine ⟨hm, h3, h2, ?_⟩
  unfold shDivs at hm
  obtain ⟨n, hn, e⟩ := List.mem_map.mp hm
  have := List.mem_range.mp (List.mem_filter.mp hn).1
  omega
def PrMade (ds : List D) (r : Wd.Slot) : Prop := ∃ x : Say, x.ok ∧ ds = [x.t] ∧ r = .ow x.d
section
variable {P : Program} {w : World} {K : PySem.W.Frag} {mg : Str → Option Value} {base : Heap} (Z : Env K mg w)
include Z
end
end K9
set_option Elab.async false
set_option linter.all false
set_option maxRecDepth 100000
set_option maxHeartbeats 4000000
namespace K9
open PySem PySem.Spec L2 Wd
open PyProof.Rows hiding St
/-! ### sayings made, told -/
/-- a saying of unlike names, its side or way known -/
def Say.wf : Say → Prop
  | .at_ .. => True
  | .bes n s o _ => s ∈ sideL ∧ n ≠ o
  | .alk n _ o _ => n ≠ o
  | .amd n v o u => v ∈ wayL ∧ Un3 n o u
theorem Say.ok.wf {x : Say} (h : x.ok) : x.wf := by
  cases x with
  | at_ n p i => trivial
  | bes n s o b =>
    obtain ⟨_, h2, h3, _⟩ := h
    have z := unl_iff h2
    simp at z
    exact ⟨h3, z⟩
  | alk n p o m =>
    obtain ⟨_, h2, _⟩ := h
    have z := unl_iff h2
    simp at z
    exact z
  | amd n v o u =>
    obtain ⟨_, h2, h3⟩ := h
    have z := unl_iff h2
    simp at z
    exact ⟨h3, z.1.1, z.1.2, z.2⟩
def isBes : Say → Bool
  | .bes .. => true
  | _ => false
def Say.told (x : Say) : D := .tup [.lst (x.names.map .str), .tup [.dt (tmK x.tms), .int x.num], .bl (isBes x)]
def PrAs (ds : List D) (r : Wd.Slot) : Prop := ∃ xs : List Say, xs.length ≤ 100 ∧ (∀ x ∈ xs, x.wf) ∧ ∃ d, IsL d (xs.map Say.d) ∧ ds = [d] ∧ r = .ow (.lst (xs.map Say.told))
def PrTold (ds : List D) (r : Wd.Slot) : Prop := ∃ (ns : List Str) (xs : List Say), xs.length ≤ 100 ∧ (∀ x ∈ xs, x.wf) ∧ ds = [.obj "Sheet" (shF ns xs)] ∧ r = .ow (.lst (xs.map Say.told))
section
variable {P : Program} {w : World} {K : PySem.W.Frag} {mg : Str → Option Value} {base : Heap} (Z : Env K mg w)
include Z
theorem bi_Beside_init : Binds K Z.d_Beside_init ["self", "name", "side", "other", "by"] [] := by
  obtain ⟨ds, h1, h2⟩ := Z.F_Beside_init.binds1 (ps := ["self", "name", "side", "other", "by"]) 5 1 (fun z => nomatch z) rfl fun T kV doc pm an cdv ct us its h1 h2 => match us, its, h1, h2 with
    | [_, _, _, _, _], [_], _, _ => ⟨_, rfl, rfl⟩
  cases h1
  exact h2
theorem bi_Alike_init : Binds K Z.d_Alike_init ["self", "name", "part", "other", "times"] [] := by
  obtain ⟨ds, h1, h2⟩ := Z.F_Alike_init.binds1 (ps := ["self", "name", "part", "other", "times"]) 5 1 (fun z => nomatch z) rfl fun T kV doc pm an cdv ct us its h1 h2 => match us, its, h1, h2 with
    | [_, _, _, _, _], [_], _, _ => ⟨_, rfl, rfl⟩
  cases h1
  exact h2
theorem bi_l_made : Binds K Z.d_l_made ["_law_said"] [] := Z.F_l_made.bindsN fun _ _ _ _ _ _ us hl => match us, hl with | [_], _ => rfl
theorem ok_l_made : FnOk P w K mg base (L2.CX P w) 6 (He.ga K "_law_made") Z.d_l_made ["_law_said"] (spD K PrMade) := by
  refine fn_data Z.F_l_made sc_l_made (fun ds r ⟨x, _, e, _⟩ => (by rw [e]; rfl)) fun cdv A outer s H E fx ds r hp => ?_
  obtain ⟨x, hw, rfl, rfl⟩ := hp
  refine ⟨.rt _, ?_, .rt⟩
  cases x with
  | at_ n p i => exact pssd_ifT (ptd_is Z fx (pd_sub fx (pd_var fx 0) pd_int (.tup .tup rfl)) pd_str (by decide +kernel)) (pssd_rt (psd_ret (pd_make fx Z.M_At_init (ok_At_init Z) Z.m_At (bi_At_init Z) .nil (fun _ => .nil) (pad_cons (pd_sub fx (pd_var fx 0) pd_int (.tup .tup rfl)) (pad_cons (pd_sub fx (pd_var fx 0) pd_int (.tup .tup rfl)) (pad_cons (pd_sub fx (pd_var fx 0) pd_int (.tup .tup rfl)) pad_nil))) ⟨n, p, i, hw, rfl, rfl⟩))) (fun _ z => nomatch z)
  | bes n s o b =>
    refine pssd_ifF (ptd_is Z fx (pd_sub fx (pd_var fx 0) pd_int (.tup .tup rfl)) pd_str (by decide +kernel)) ?_
    exact pssd_ifT (ptd_is Z fx (pd_sub fx (pd_var fx 0) pd_int (.tup .tup rfl)) pd_str (by decide +kernel)) (pssd_rt (psd_ret (pd_make fx Z.M_Beside_init (ok_Beside_init Z) Z.m_Beside (bi_Beside_init Z) .nil (fun _ => .nil) (pad_cons (pd_sub fx (pd_var fx 0) pd_int (.tup .tup rfl)) (pad_cons (pd_sub fx (pd_var fx 0) pd_int (.tup .tup rfl)) (pad_cons (pd_sub fx (pd_var fx 0) pd_int (.tup .tup rfl)) (pad_cons (pd_sub fx (pd_var fx 0) pd_int (.tup .tup rfl)) pad_nil)))) ⟨n, s, o, b, hw, rfl, rfl⟩))) (fun _ z => nomatch z)
  | alk n p o m =>
    refine pssd_ifF (ptd_is Z fx (pd_sub fx (pd_var fx 0) pd_int (.tup .tup rfl)) pd_str (by decide +kernel)) ?_
    refine pssd_ifF (ptd_is Z fx (pd_sub fx (pd_var fx 0) pd_int (.tup .tup rfl)) pd_str (by decide +kernel)) ?_
    exact pssd_ifT (ptd_is Z fx (pd_sub fx (pd_var fx 0) pd_int (.tup .tup rfl)) pd_str (by decide +kernel)) (pssd_rt (psd_ret (pd_make fx Z.M_Alike_init (ok_Alike_init Z) Z.m_Alike (bi_Alike_init Z) .nil (fun _ => .nil) (pad_cons (pd_sub fx (pd_var fx 0) pd_int (.tup .tup rfl)) (pad_cons (pd_sub fx (pd_var fx 0) pd_int (.tup .tup rfl)) (pad_cons (pd_sub fx (pd_var fx 0) pd_int (.tup .tup rfl)) (pad_cons (pd_sub fx (pd_var fx 0) pd_int (.tup .tup rfl)) pad_nil)))) ⟨n, p, o, m, hw, rfl, rfl⟩))) (fun _ z => nomatch z)
  | amd n v o u =>
    refine pssd_ifF (ptd_is Z fx (pd_sub fx (pd_var fx 0) pd_int (.tup .tup rfl)) pd_str (by decide +kernel)) ?_
    refine pssd_ifF (ptd_is Z fx (pd_sub fx (pd_var fx 0) pd_int (.tup .tup rfl)) pd_str (by decide +kernel)) ?_
    refine pssd_ifF (ptd_is Z fx (pd_sub fx (pd_var fx 0) pd_int (.tup .tup rfl)) pd_str (by decide +kernel)) ?_
    exact pssd_rt (psd_ret (pd_make fx Z.M_Amid_init (ok_Amid_init Z) Z.m_Amid (bi_Amid_init Z) .nil (fun _ => .nil) (pad_cons (pd_sub fx (pd_var fx 0) pd_int (.tup .tup rfl)) (pad_cons (pd_sub fx (pd_var fx 0) pd_int (.tup .tup rfl)) (pad_cons (pd_sub fx (pd_var fx 0) pd_int (.tup .tup rfl)) (pad_cons (pd_sub fx (pd_var fx 0) pd_int (.tup .tup rfl)) pad_nil)))) ⟨n, v, o, u, hw, rfl, rfl⟩))
/-- x.adds() of any saying -/
theorem pd_sayAdds {ι : Type} {Xs : ι → Cx} {N : List Str} {k : Nat} (fx : Fx Xs P w K mg base N k) {γ : Gm} {o : Expr} {pos apos : Pos} {pl : ι → Sem Bool} (x : Say) (hx : x.wf) (ho : PED K Xs o γ (.sh x.d)) (hk : 1 ≤ k)
    (ht : ∀ i, eval (.Call (.Attribute o "adds" apos) [] [] pos) (Xs i).env = (do
      let ov ← eval o (Xs i).env
      standAt apos.atName
      let (f, first) ← holding [ov] (getMethod ov "adds" (pl i))
      callWith pos f first (backTo pos (starEach [] (Xs i).env)) (backToKw pos (keywordEach [] (Xs i).env))) := by exact fun _ => rfl) : PED K Xs (.Call (.Attribute o "adds" apos) [] [] pos) γ (.tw (tmK x.tms) (.int x.num)) := by
  cases x with
  | at_ n p i => exact pd_meth0 fx ho Z.c_At Z.M_At_adds (ok_At_adds Z) (bi_At_adds Z) .nil (fun _ => .nil) rfl ⟨n, p, i, rfl, rfl⟩ hk ht
  | bes n s o b => exact pd_meth0 fx ho Z.c_Beside Z.M_Beside_adds (ok_Beside_adds Z) (bi_Beside_adds Z) .nil (fun _ => .nil) rfl ⟨n, s, o, b, hx.1, hx.2, rfl, rfl⟩ hk ht
  | alk n p o m => exact pd_meth0 fx ho Z.c_Alike Z.M_Alike_adds (ok_Alike_adds Z) (bi_Alike_adds Z) .nil (fun _ => .nil) rfl ⟨n, p, o, m, hx, rfl, rfl⟩ hk ht
  | amd n v o u => exact pd_meth0 fx ho Z.c_Amid Z.M_Amid_adds (ok_Amid_adds Z) (bi_Amid_adds Z) .nil (fun _ => .nil) rfl ⟨n, v, o, u, hx.1, hx.2, rfl, rfl⟩ hk ht
theorem isi_bes (x : Say) : IsiD K x.d (.cls "Beside") (isBes x) := by
  cases x with
  | at_ n p i => exact .one (.own Z.o_At) rfl Z.kt_At_Beside
  | bes n s o b => exact .one (.own Z.o_Beside) rfl Z.kt_Beside_Beside
  | alk n p o m => exact .one (.own Z.o_Alike) rfl Z.kt_Alike_Beside
  | amd n v o u => exact .one (.own Z.o_Amid) rfl Z.kt_Amid_Beside
end
end K9
set_option Elab.async false
set_option linter.all false
set_option maxRecDepth 100000
set_option maxHeartbeats 4000000
namespace K9
open PySem PySem.Spec L2 Wd
open PyProof.Rows hiding St
/-! ### a saying drawn -/
def dgB : List Int := [4, 6, 6, 6, 4, 4, 9, 8]
def dg (c : Int) : Nat → Int
  | 0 => mixed c % 4
  | 1 => mixed c / 4 % 6
  | 2 => mixed c / 4 / 6 % 6
  | 3 => mixed c / 4 / 6 / 6 % 6
  | 4 => mixed c / 4 / 6 / 6 / 6 % 4
  | 5 => mixed c / 4 / 6 / 6 / 6 / 4 % 4
  | 6 => mixed c / 4 / 6 / 6 / 6 / 4 / 4 % 9
  | _ => mixed c / 4 / 6 / 6 / 6 / 4 / 4 / 9 % 8
theorem digs_eq (c : Int) : digs c dgB = [dg c 0, dg c 1, dg c 2, dg c 3, dg c 4, dg c 5, dg c 6, dg c 7] := rfl
theorem md (a b : Int) (h : 0 < b) : 0 ≤ a % b ∧ a % b < b := ⟨Int.emod_nonneg _ (by omega), Int.emod_lt_of_pos _ h⟩
def pick {α : Type} (l : List α) (d : Int) (x : α) : α := l.getD (d % (l.length : Int)).toNat x
def oneOf (c : Int) (ns : List Str) : Str := pick ns (dg c 1) Str.empty
def othersOf (c : Int) (ns : List Str) : List Str := ns.filter fun x => !decide (V.str x = V.str (oneOf c ns))
def kindOf (c : Int) (ns : List Str) : Int := if othersOf c ns ≠ [] then dg c 0 else 0
def partOf (c : Int) : Str := partL.getD (dg c 4).toNat Str.empty
def spoilOf (c : Int) : Int := if dg c 7 = 7 then 1 else 0
def firstOf (c : Int) (ns : List Str) : Str := pick (othersOf c ns) (dg c 2) Str.empty
def restOf (c : Int) (ns : List Str) : List Str := (othersOf c ns).filter fun x => !decide (V.str x = V.str (firstOf c ns))
def amidOf (c : Int) (ns : List Str) : Say := .amd (oneOf c ns) (wayL.getD (dg c 4 % 2).toNat Str.empty) (firstOf c ns) (pick (restOf c ns) (dg c 3) Str.empty)
def sideOf (c : Int) : Str := sideL.getD (dg c 5).toNat Str.empty
def manyL (c : Int) : List Int := [1 + dg c 6, 1, 2]
def alikeOf (c : Int) (ns : List Str) (m : Int) : Say := .alk (oneOf c ns) (partOf c) (firstOf c ns) m
def alikeHit (c : Int) (ns : List Str) (h : Hid) (m : Int) : Bool := decide (spoilOf c = 1) || decide (leftOf h (alikeOf c ns m) = 0)
def sayOf (c : Int) (ns : List Str) (h : Hid) : Say :=
  if kindOf c ns = 3 ∧ 1 < (othersOf c ns).length ∧ (spoilOf c = 1 ∨ leftOf h (amidOf c ns) = 0) then amidOf c ns
  else if kindOf c ns = 1 ∨ kindOf c ns = 3 then .bes (oneOf c ns) (sideOf c) (firstOf c ns) (byL (sideOf c) (leftOf h (.bes (oneOf c ns) (sideOf c) (firstOf c ns) 0)) + spoilOf c)
  else match (if kindOf c ns = 2 then (manyL c).find? (alikeHit c ns h) else none) with
    | some m => alikeOf c ns m
    | none => .at_ (oneOf c ns) (partOf c) ((hidAt h (oneOf c ns) (partOf c)).getD 0 + spoilOf c)
def HidFull (ns : List Str) (h : Hid) : Prop := ∀ n ∈ ns, ∃ l, getK h n = some l ∧ l.length = 4 ∧ ∀ v ∈ l, 0 ≤ v ∧ v < 12
def PrSay (ds : List D) (r : Wd.Slot) : Prop := ∃ (c : Int) (ns : List Str) (h : Hid), (1 ≤ ns.length ∧ ns.length ≤ 6 ∧ ns.Nodup) ∧ HidFull ns h ∧ ds = [.int c, .lst (ns.map .str), encHid h] ∧ r = .sh (sayOf c ns h).t
theorem pick_mem {α : Type} {l : List α} (d : Int) (x : α) (h : l ≠ []) : pick l d x ∈ l ∧ l[(d % (l.length : Int)).toNat]? = some (pick l d x) := by
  have h1 : 0 < l.length := List.length_pos_iff.mpr h
  obtain ⟨a, b⟩ := md d l.length (by omega)
  have h2 : (d % (l.length : Int)).toNat < l.length := by omega
  unfold pick
  rw [List.getD_eq_getElem?_getD, List.getElem?_eq_getElem h2]
  exact ⟨List.getElem_mem h2, rfl⟩
theorem pick_at {l : List Str} {f : Str → D} (d : Int) (h : l ≠ []) : atI (l.map f) (d % ((l.map f).length : Nat)) = some (f (pick l d Str.empty)) := by
  have h1 : 0 < l.length := List.length_pos_iff.mpr h
  obtain ⟨a, b⟩ := md d l.length (by omega)
  rw [List.length_map, show d % (l.length : Int) = ((d % (l.length : Int)).toNat : Int) from (Int.toNat_of_nonneg a).symm]
  exact atI_nat (by rw [List.getElem?_map, (pick_mem d Str.empty h).2]; rfl)
theorem eqv_nil (O : List Str) : PyData.eqv (.list (O.map PyData.str)) (.list []) = decide (O = []) := by
  cases O with
  | nil => rfl
  | cons x r => rfl
theorem partOf_in (c : Int) : partOf c ∈ partL ∧ atI (partL.map D.str) (dg c 4) = some (.str (partOf c)) := by
  obtain ⟨a, b⟩ := md (mixed c / 4 / 6 / 6 / 6) 4 (by decide)
  have a' : 0 ≤ dg c 4 := a
  have b' : dg c 4 < 4 := b
  have h2 : (dg c 4).toNat < partL.length := by show _ < 4; omega
  have e : partL[(dg c 4).toNat]? = some (partOf c) := by unfold partOf; rw [List.getD_eq_getElem?_getD, List.getElem?_eq_getElem h2]; rfl
  refine ⟨List.mem_of_getElem? e, ?_⟩
  have e2 : atI (partL.map D.str) (((dg c 4).toNat : Nat) : Int) = some (.str (partOf c)) := atI_nat (by rw [List.getElem?_map, e]; rfl)
  rw [Int.toNat_of_nonneg a'] at e2
  exact e2
theorem hidAt_in {ns : List Str} {h : Hid} (hf : HidFull ns h) {n p : Str} (hn : n ∈ ns) (hp : p ∈ partL) : ∃ v, hidAt h n p = some v ∧ 0 ≤ v ∧ v < 12 := by
  obtain ⟨l, h1, h2, h3⟩ := hf n hn
  have hi : partIx p < l.length := by
    rw [h2]
    unfold partL at hp
    simp only [List.mem_cons, List.not_mem_nil, or_false] at hp
    rcases hp with rfl | rfl | rfl | rfl <;> decide +kernel
  exact ⟨l[partIx p], by unfold hidAt; rw [h1]; show l[partIx p]? = _; exact List.getElem?_eq_getElem hi, h3 _ (List.getElem_mem hi)⟩
theorem nearW_in (v : Str) : nearW v ∈ partL ∧ farW v ∈ partL := by
  unfold nearW farW
  split <;> decide +kernel
theorem near_in (v : Str) : near v ∈ partL ∧ far v ∈ partL := by
  unfold near far
  split <;> decide +kernel
theorem hidOk_of {ns : List Str} {h : Hid} (hf : HidFull ns h) {x : Say} (hx : ∀ t ∈ x.tms, t.1 ∈ ns ∧ t.2.1 ∈ partL ∧ sm t.2.2) : HidOk h x := fun t ht => by
  obtain ⟨h1, h2, h3⟩ := hx t ht
  obtain ⟨v, hv, _⟩ := hidAt_in hf h1 h2
  exact ⟨h2, h3, v, hv⟩
theorem amd_ok {ns : List Str} {h : Hid} (hf : HidFull ns h) {n v o u : Str} (h1 : n ∈ ns) (h2 : o ∈ ns) (h3 : u ∈ ns) : HidOk h (.amd n v o u) := hidOk_of hf fun t ht => by
  obtain ⟨a, b⟩ := nearW_in v
  have ht' : t ∈ amdT n v o u := ht
  unfold amdT at ht'
  simp only [List.mem_cons, List.not_mem_nil, or_false] at ht'
  rcases ht' with rfl | rfl | rfl | rfl | rfl | rfl <;> exact ⟨by assumption, by assumption, by unfold sm; dsimp only; decide⟩
theorem bes_ok {ns : List Str} {h : Hid} (hf : HidFull ns h) {n s o : Str} {i : Int} (h1 : n ∈ ns) (h2 : o ∈ ns) : HidOk h (.bes n s o i) := hidOk_of hf fun t ht => by
  obtain ⟨a, b⟩ := near_in s
  have ht' : t ∈ besT n s o := ht
  unfold besT at ht'
  split at ht'
  · simp only [List.mem_cons, List.not_mem_nil, or_false] at ht'
    rcases ht' with rfl | rfl | rfl <;> exact ⟨by assumption, by assumption, by unfold sm; dsimp only; decide⟩
  · simp only [List.mem_cons, List.not_mem_nil, or_false] at ht'
    rcases ht' with rfl | rfl | rfl <;> exact ⟨by assumption, by assumption, by unfold sm; dsimp only; decide⟩
theorem alk_ok {ns : List Str} {h : Hid} (hf : HidFull ns h) {n p o : Str} {m : Int} (h1 : n ∈ ns) (h2 : o ∈ ns) (hp : p ∈ partL) (hm : 1 ≤ m ∧ m ≤ 9) : HidOk h (.alk n p o m) := hidOk_of hf fun t ht => by
  have ht' : t ∈ alkT n p o m := ht
  unfold alkT at ht'
  simp only [List.mem_cons, List.not_mem_nil, or_false] at ht'
  rcases ht' with rfl | rfl
  · exact ⟨h1, hp, by unfold sm; dsimp only; decide⟩
  · exact ⟨h2, hp, by unfold sm; show _ < -m ∧ -m < _; omega⟩
theorem oneOf_in {c : Int} {ns : List Str} (h : ns ≠ []) : oneOf c ns ∈ ns := (pick_mem (dg c 1) Str.empty h).1
theorem one_at {c : Int} {ns : List Str} (h : ns ≠ []) : atI (ns.map D.str) (dg c 1 % ((ns.map D.str).length : Nat)) = some (.str (oneOf c ns)) := pick_at (dg c 1) h
theorem others_in {c : Int} {ns : List Str} {x : Str} (h : x ∈ othersOf c ns) : x ∈ ns ∧ x ≠ oneOf c ns := by
  obtain ⟨a, b⟩ := List.mem_filter.mp h
  exact ⟨a, fun z => by rw [z] at b; simp at b⟩
theorem rest_in {c : Int} {ns : List Str} {x : Str} (h : x ∈ restOf c ns) : x ∈ othersOf c ns ∧ x ≠ firstOf c ns := by
  obtain ⟨a, b⟩ := List.mem_filter.mp h
  exact ⟨a, fun z => by rw [z] at b; simp at b⟩
theorem rest_ne {c : Int} {ns : List Str} (hn : ns.Nodup) (h : 1 < (othersOf c ns).length) : restOf c ns ≠ [] := fun z => by
  have nd : (othersOf c ns).Nodup := hn.filter _
  have all : ∀ x ∈ othersOf c ns, x = firstOf c ns := fun x hx => by
    by_cases e : x = firstOf c ns
    · exact e
    · have : x ∈ restOf c ns := List.mem_filter.mpr ⟨hx, by simpa using e⟩
      rw [z] at this
      cases this
  match q : othersOf c ns, h, nd, all with
  | a :: b :: r, _, nd, all =>
    have e1 := all a List.mem_cons_self
    have e2 := all b (List.mem_cons_of_mem _ List.mem_cons_self)
    rw [List.nodup_cons] at nd
    exact nd.1 (by rw [e1, ← e2]; exact List.mem_cons_self)
theorem way_at (c : Int) : wayL.getD (dg c 4 % 2).toNat Str.empty ∈ wayL ∧ atI (wayL.map D.str) (dg c 4 % 2) = some (.str (wayL.getD (dg c 4 % 2).toNat Str.empty)) := by
  obtain ⟨a, b⟩ := md (dg c 4) 2 (by decide)
  have h2 : (dg c 4 % 2).toNat < wayL.length := by show _ < 2; omega
  have e : wayL[(dg c 4 % 2).toNat]? = some (wayL.getD (dg c 4 % 2).toNat Str.empty) := by rw [List.getD_eq_getElem?_getD, List.getElem?_eq_getElem h2]; rfl
  refine ⟨List.mem_of_getElem? e, ?_⟩
  have e2 : atI (wayL.map D.str) (((dg c 4 % 2).toNat : Nat) : Int) = some (.str (wayL.getD (dg c 4 % 2).toNat Str.empty)) := atI_nat (by rw [List.getElem?_map, e]; rfl)
  rw [Int.toNat_of_nonneg a] at e2
  exact e2
def gW (c : Int) (ns : List Str) (h : Hid) (a : Wd.Slot) : Gm := [.sh (.int c), .sh (.lst (ns.map .str)), .sh (encHid h), .sh (.lst ((digs c dgB).map .int)), .sh (.str (oneOf c ns)), .sh (.lst ((othersOf c ns).map .str)), .un, .sh (.int (kindOf c ns)), .sh (.str (partOf c)), .sh (.int (spoilOf c)), .un, .un, a, .un, .un]
theorem dI (c : Int) (i : Nat) (hi : i < 8) : atI ((digs c dgB).map D.int) (i : Int) = some (D.int (dg c i)) := atI_nat (by rw [digs_eq]; match i, hi with | 0, _ => rfl | 1, _ => rfl | 2, _ => rfl | 3, _ => rfl | 4, _ => rfl | 5, _ => rfl | 6, _ => rfl | 7, _ => rfl)
theorem sideOf_in (c : Int) : sideOf c ∈ sideL ∧ atI (sideL.map D.str) (dg c 5) = some (.str (sideOf c)) := by
  obtain ⟨a, b⟩ := md (mixed c / 4 / 6 / 6 / 6 / 4) 4 (by decide)
  have a' : 0 ≤ dg c 5 := a
  have b' : dg c 5 < 4 := b
  have h2 : (dg c 5).toNat < sideL.length := by show _ < 4; omega
  have e : sideL[(dg c 5).toNat]? = some (sideOf c) := by unfold sideOf; rw [List.getD_eq_getElem?_getD, List.getElem?_eq_getElem h2]; rfl
  refine ⟨List.mem_of_getElem? e, ?_⟩
  have e2 : atI (sideL.map D.str) (((dg c 5).toNat : Nat) : Int) = some (.str (sideOf c)) := atI_nat (by rw [List.getElem?_map, e]; rfl)
  rw [Int.toNat_of_nonneg a'] at e2
  exact e2
theorem first_at {c : Int} {ns : List Str} (h : othersOf c ns ≠ []) : atI ((othersOf c ns).map D.str) (dg c 2 % (((othersOf c ns).map D.str).length : Nat)) = some (.str (firstOf c ns)) := pick_at (dg c 2) h
theorem kind_nil {c : Int} {ns : List Str} (h : othersOf c ns = []) : kindOf c ns = 0 := by unfold kindOf; rw [if_neg (by simpa using h)]
theorem first_in {c : Int} {ns : List Str} (h : othersOf c ns ≠ []) : firstOf c ns ∈ othersOf c ns := (pick_mem (dg c 2) Str.empty h).1
theorem oth_len {c : Int} {ns : List Str} (h : othersOf c ns ≠ []) : (0 : Int) < (((othersOf c ns).map D.str).length : Nat) := by rw [List.length_map]; exact Int.natCast_pos.mpr (List.length_pos_iff.mpr h)
theorem many_in {c m : Int} (h : m ∈ manyL c) : 1 ≤ m ∧ m ≤ 9 := by
  obtain ⟨a, b⟩ := md (mixed c / 4 / 6 / 6 / 6 / 4 / 4) 9 (by decide)
  have a' : 0 ≤ dg c 6 := a
  have b' : dg c 6 < 9 := b
  unfold manyL at h
  simp only [List.mem_cons, List.not_mem_nil, or_false] at h
  omega
theorem hid_val {ns : List Str} {h : Hid} (hf : HidFull ns h) {c : Int} (hne : ns ≠ []) : ∃ l : List Int, getK (h.map fun p => ((Sum.inr p.1 : Key), D.lst (p.2.map D.int))) (Sum.inr (oneOf c ns)) = some (.lst (l.map D.int)) ∧ atI (l.map D.int) (partIx (partOf c) : Nat) = some (.int ((hidAt h (oneOf c ns) (partOf c)).getD 0)) := by
  obtain ⟨v, h3, _⟩ := hidAt_in hf (oneOf_in hne) (partOf_in c).1
  obtain ⟨l, hl1, hl2⟩ := Option.bind_eq_some_iff.mp h3
  refine ⟨l, (getK_map (κ' := Key) Sum.inr inr_inj (fun v : List Int => D.lst (v.map D.int)) h _).trans (by rw [hl1]; rfl), ?_⟩
  rw [h3]
  exact atI_nat (by rw [List.getElem?_map, hl2]; rfl)
theorem oth_eq (c : Int) (ns : List Str) : (ns.filter fun x => !decide (V.str x = V.str (oneOf c ns))) = othersOf c ns := rfl
theorem rest_eq (c : Int) (ns : List Str) : ((othersOf c ns).filter fun x => !decide (V.str x = V.str (firstOf c ns))) = restOf c ns := rfl
theorem kind_eq (c : Int) (ns : List Str) : kindOf c ns = if othersOf c ns ≠ [] then dg c 0 else 0 := rfl
theorem spoil_eq (c : Int) : spoilOf c = if dg c 7 = 7 then 1 else 0 := rfl
theorem rest_at {c : Int} {ns : List Str} (h : restOf c ns ≠ []) : atI ((restOf c ns).map D.str) (dg c 3 % (((restOf c ns).map D.str).length : Nat)) = some (.str (pick (restOf c ns) (dg c 3) Str.empty)) := pick_at (dg c 3) h
theorem rest_len {c : Int} {ns : List Str} (h : restOf c ns ≠ []) : (0 : Int) < (((restOf c ns).map D.str).length : Nat) := by rw [List.length_map]; exact Int.natCast_pos.mpr (List.length_pos_iff.mpr h)
theorem oth_le {c : Int} {ns : List Str} (h : ns.length ≤ 6) : (othersOf c ns).length ≤ 6 := Nat.le_trans (List.length_filter_le _ _) h
theorem pick_rest_in {c : Int} {ns : List Str} (h : restOf c ns ≠ []) : pick (restOf c ns) (dg c 3) Str.empty ∈ ns := (others_in (rest_in (pick_mem (dg c 3) Str.empty h).1).1).1
theorem in13 (k : Int) : inV (.int k) [.int 1, .int 3] = decide (k = 1 ∨ k = 3) := by
  unfold inV
  by_cases h : k = 1
  · subst h; decide +kernel
  · by_cases g : k = 3
    · subst g; decide +kernel
    · rw [decide_eq_false (by omega)]
      have a : eqV (.int 1) (.int k) = false := beq_eq_false_iff_ne.mpr fun z => h (Eq.symm z)
      have b : eqV (.int 3) (.int k) = false := beq_eq_false_iff_ne.mpr fun z => g (Eq.symm z)
      simp [a, b]
section
variable {P : Program} {w : World} {K : PySem.W.Frag} {mg : Str → Option Value} {base : Heap} (Z : Env K mg w)
include Z
omit Z in
theorem ptd_cast2 {ι : Type} {Xs : ι → Cx} {γ : Gm} {e : Expr} {tv tw : Bool} (h : tv = tw) (p : PWD K Xs e γ tv) : PWD K Xs e γ tw := h ▸ p
theorem bi_l_saying : Binds K Z.d_l_saying ["_law_cell", "_law_names_here", "_law_hidden"] [] := Z.F_l_saying.bindsN fun _ _ _ _ _ _ us hl => match us, hl with | [_, _, _], _ => rfl
end
end K9
set_option Elab.async false
set_option linter.all false
set_option maxRecDepth 100000
set_option maxHeartbeats 4000000
namespace K9
open PySem PySem.Spec L2 Wd
open PyProof.Rows hiding St
section
variable {P : Program} {w : World} {K : PySem.W.Frag} {mg : Str → Option Value} {base : Heap} (Z : Env K mg w)
include Z
theorem saying_tail (cdv : Value) (A : Around) (outer : List PySem.Env) (s : Shared) (H : Hp) (E : XK) (fx : Fx (bodyX P w K mg base N_l_saying "_law_saying" (defScope s_l_saying) (He.ga K "_law_saying") cdv A outer s H E) P w K mg base N_l_saying 2)
    (c : Int) (ns : List Str) (h : Hid) (hne : ns ≠ []) (n2 : ns.length ≤ 6) (hf : HidFull ns h) (hA : ¬ (kindOf c ns = 3 ∧ 1 < (othersOf c ns).length ∧ (spoilOf c = 1 ∨ leftOf h (amidOf c ns) = 0))) :
    PSsD K (bodyX P w K mg base N_l_saying "_law_saying" (defScope s_l_saying) (He.ga K "_law_saying") cdv A outer s H E) ((defBody s_l_saying).drop 6) (gW c ns h .un) (.rt (.sh (sayOf c ns h).t)) := by
  have one := oneOf_in (c := c) hne
  have atB : ∀ a, PSsD K (bodyX P w K mg base N_l_saying "_law_saying" (defScope s_l_saying) (He.ga K "_law_saying") cdv A outer s H E) ((defBody s_l_saying).drop 8) (gW c ns h a) (.rt (.sh (Say.at_ (oneOf c ns) (partOf c) ((hidAt h (oneOf c ns) (partOf c)).getD 0 + spoilOf c)).t)) := fun a => by
    obtain ⟨l, e1, e2⟩ := hid_val (c := c) hf hne
    exact pssd_rt (psd_ret (pd_tup (pad_cons pd_str (pad_cons (pd_var fx 4) (pad_cons (pd_var fx 8) (pad_cons (pd_plus (pd_sub fx (pd_sub fx (pd_var fx 2) (pd_var fx 4) (.dks e1)) (pd_index fx (PED.share (pd_call0 fx (ok_l_parts Z) Z.m_l_parts Z.F_l_parts.kp (bi_l_parts Z) .nil (fun _ => .nil) ⟨rfl, rfl⟩)) .lst (pd_var fx 8) (part_first (partOf_in c).1)) (.lst .lst e2)) (pd_var fx 9)) pad_nil))))))
  by_cases C : kindOf c ns = 1 ∨ kindOf c ns = 3
  · have ot : othersOf c ns ≠ [] := fun z => by have := kind_nil z; omega
    have fst := (others_in (first_in ot)).1
    have e : sayOf c ns h = .bes (oneOf c ns) (sideOf c) (firstOf c ns) (byL (sideOf c) (leftOf h (.bes (oneOf c ns) (sideOf c) (firstOf c ns) 0)) + spoilOf c) := by unfold sayOf; rw [if_neg hA, if_pos C]
    rw [e]
    refine pssd_ifT (ptd_cast ((in13 _).trans (decide_eq_true C)) (ptd_in fx (pd_var fx 7) (pd_tup (pad_cons pd_int (pad_cons pd_int pad_nil))) (.tup .tup rfl rfl))) ?_ (fun _ z => nomatch z)
    refine pssd_cons (psd_set fx 13 (pd_sub fx (PED.share (pd_lst (pad_cons pd_str (pad_cons pd_str (pad_cons pd_str (pad_cons pd_str pad_nil)))))) (pd_sub fx (pd_var fx 3) pd_int (.lst .lst (dI c 5 (by decide)))) (.lst .lst (sideOf_in c).2))) ?_
    refine pssd_cons (psd_set fx 12 (pd_tup (pad_cons pd_str (pad_cons (pd_var fx 4) (pad_cons (pd_var fx 13) (pad_cons (pd_sub fx (pd_var fx 5) (pd_op (fun _ => op_mod) (pd_sub fx (pd_var fx 3) pd_int (.lst .lst (dI c 2 (by decide)))) (pd_blt fx (fun _ => call_lenU) Z.b_len (pad_cons (pd_var fx 5) pad_nil) (rc_len (.lst .lst))) (rd_mod (oth_len ot))) (.lst .lst (first_at ot))) (pad_cons pd_int pad_nil))))))) ?_
    exact pssd_rt (psd_ret (pd_op (r := rAddU K) (fun _ => op_addU) (pd_slice fx (pd_var fx 12) pod_none (pod_some pd_int) (.tup (ds := [.str "beside", .str (oneOf c ns), .str (sideOf c), .str (firstOf c ns), .int 0]))) (pd_tup (pad_cons (pd_plus (pd_call fx (ok_l_by Z) Z.m_l_by Z.F_l_by.kp (bi_l_by Z) .nil (fun _ => .nil) (pad_cons (pd_var fx 13) (pad_cons (pd_call fx (ok_l_left Z) Z.m_l_left Z.F_l_left.kp (bi_l_left Z) .nil (fun _ => .nil) (pad_cons (pd_var fx 1) (pad_cons (pd_var fx 12) (pad_cons (pd_var fx 2) pad_nil))) ⟨_, .bes (oneOf c ns) (sideOf c) (firstOf c ns) 0, h, (sideOf_in c).1, bes_ok hf one fst, rfl, rfl⟩) pad_nil)) ⟨_, _, rfl, rfl⟩) (pd_var fx 9)) pad_nil)) (rd_add (.tup (x := [.str "beside", .str (oneOf c ns), .str (sideOf c), .str (firstOf c ns)]) (y := [.int (byL (sideOf c) (leftOf h (.bes (oneOf c ns) (sideOf c) (firstOf c ns) 0)) + spoilOf c)]) (by rw [sizeLine_eq]; exact Nat.le_of_ble_eq_true rfl)))))
  · refine pssd_ifF (ptd_cast ((in13 _).trans (decide_eq_false C)) (ptd_in fx (pd_var fx 7) (pd_tup (pad_cons pd_int (pad_cons pd_int pad_nil))) (.tup .tup rfl rfl))) ?_
    by_cases D' : kindOf c ns = 2
    · have ot : othersOf c ns ≠ [] := fun z => by have := kind_nil z; omega
      have fst := (others_in (first_in ot)).1
      have t1 : decide (V.int (kindOf c ns) = V.int 2) = true := decide_eq_true (by rw [D'])
      cases F : (manyL c).find? (alikeHit c ns h) with
      | some m =>
        have e : sayOf c ns h = alikeOf c ns m := by unfold sayOf; rw [if_neg hA, if_neg C, if_pos D', F]
        rw [e]
        obtain ⟨hm, n, hn, hx', hlt⟩ := List.find?_eq_some_iff_getElem.mp F
        refine pssd_ifT (ptd_cast t1 (ptd_eq fx (pd_var fx 7) pd_int (.flat rfl rfl rfl))) ?_ (fun _ z => nomatch z)
        refine pssd_cons (psd_set fx 12 (pd_tup (pad_cons pd_str (pad_cons (pd_var fx 4) (pad_cons (pd_var fx 8) (pad_cons (pd_sub fx (pd_var fx 5) (pd_op (fun _ => op_mod) (pd_sub fx (pd_var fx 3) pd_int (.lst .lst (dI c 2 (by decide)))) (pd_blt fx (fun _ => call_lenU) Z.b_len (pad_cons (pd_var fx 5) pad_nil) (rc_len (.lst .lst))) (rd_mod (oth_len ot))) (.lst .lst (first_at ot))) (pad_cons (pd_plus pd_int (pd_sub fx (pd_var fx 3) pd_int (.lst .lst (dI c 6 (by decide))))) pad_nil))))))) ?_
        refine pssd_rt (psd_forR fx (manyL c) D.int (fun _ => gW c ns h (.sh (.tup [.str "alike", .str (oneOf c ns), .str (partOf c), .str (firstOf c ns), .int (1 + dg c 6)]))) n _ (pid_list fx .lst (PED.share (pd_lst (pad_cons (pd_plus pd_int (pd_sub fx (pd_var fx 3) pd_int (.lst .lst (dI c 6 (by decide))))) (pad_cons pd_int (pad_cons pd_int pad_nil)))))) (Wk.refl _) hn (fun i x hi hx => ?_) (fun x hx => ?_))
        · have hB : alikeHit c ns h x = false := by
            have hl : i < (manyL c).length := by omega
            have := hlt i hi
            rw [List.getElem?_eq_getElem hl] at hx
            cases hx
            simpa using this
          exact ⟨_, _, _, tgd_name fx 14, .inl (pssd_one (psd_ifF (PWD.t (ptd_cast2 hB (pwd_or (tw := decide (leftOf h (alikeOf c ns x) = 0)) (ptd_cast decV (ptd_eq fx (pd_var fx 9) pd_int (.flat rfl rfl rfl))) fun _ => pwd_or1 (ptd_cast decV (ptd_eq fx (pd_call fx (ok_l_left Z) Z.m_l_left Z.F_l_left.kp (bi_l_left Z) .nil (fun _ => .nil) (pad_cons (pd_var fx 1) (pad_cons (pd_op (r := rAddU K) (fun _ => op_addU) (pd_slice fx (pd_var fx 12) pod_none (pod_some pd_int) (.tup (ds := [.str "alike", .str (oneOf c ns), .str (partOf c), .str (firstOf c ns), .int (1 + dg c 6)]))) (pd_tup (pad_cons (pd_var fx 14) pad_nil)) (rd_add (.tup (x := [.str "alike", .str (oneOf c ns), .str (partOf c), .str (firstOf c ns)]) (y := [.int x]) (by rw [sizeLine_eq]; exact Nat.le_of_ble_eq_true rfl)))) (pad_cons (pd_var fx 2) pad_nil))) ⟨_, alikeOf c ns x, h, trivial, alk_ok hf one fst (partOf_in c).1 (many_in (List.mem_of_getElem? hx)), rfl, rfl⟩) pd_int (.flat rfl rfl rfl)))))) pssd_nil)), .s (.s (.s (.s (.s (.s (.s (.s (.s (.s (.s (.s (.s (.s (.u .n))))))))))))))⟩
        · have hB : alikeHit c ns h x = true := by
            rw [List.getElem?_eq_getElem hn, hx'] at hx
            cases hx
            exact hm
          have hxm : x = m := by
            rw [List.getElem?_eq_getElem hn, hx'] at hx
            cases hx
            rfl
          rw [← hxm]
          exact ⟨_, _, tgd_name fx 14, pssd_ifT (PWD.t (ptd_cast2 hB (pwd_or (tw := decide (leftOf h (alikeOf c ns x) = 0)) (ptd_cast decV (ptd_eq fx (pd_var fx 9) pd_int (.flat rfl rfl rfl))) fun _ => pwd_or1 (ptd_cast decV (ptd_eq fx (pd_call fx (ok_l_left Z) Z.m_l_left Z.F_l_left.kp (bi_l_left Z) .nil (fun _ => .nil) (pad_cons (pd_var fx 1) (pad_cons (pd_op (r := rAddU K) (fun _ => op_addU) (pd_slice fx (pd_var fx 12) pod_none (pod_some pd_int) (.tup (ds := [.str "alike", .str (oneOf c ns), .str (partOf c), .str (firstOf c ns), .int (1 + dg c 6)]))) (pd_tup (pad_cons (pd_var fx 14) pad_nil)) (rd_add (.tup (x := [.str "alike", .str (oneOf c ns), .str (partOf c), .str (firstOf c ns)]) (y := [.int x]) (by rw [sizeLine_eq]; exact Nat.le_of_ble_eq_true rfl)))) (pad_cons (pd_var fx 2) pad_nil))) ⟨_, alikeOf c ns x, h, trivial, alk_ok hf one fst (partOf_in c).1 (many_in (List.mem_of_getElem? hx)), rfl, rfl⟩) pd_int (.flat rfl rfl rfl)))))) (pssd_rt (psd_ret (pd_op (r := rAddU K) (fun _ => op_addU) (pd_slice fx (pd_var fx 12) pod_none (pod_some pd_int) (.tup (ds := [.str "alike", .str (oneOf c ns), .str (partOf c), .str (firstOf c ns), .int (1 + dg c 6)]))) (pd_tup (pad_cons (pd_var fx 14) pad_nil)) (rd_add (.tup (x := [.str "alike", .str (oneOf c ns), .str (partOf c), .str (firstOf c ns)]) (y := [.int x]) (by rw [sizeLine_eq]; exact Nat.le_of_ble_eq_true rfl)))))) (fun _ z => nomatch z)⟩
      | none =>
        have e : sayOf c ns h = .at_ (oneOf c ns) (partOf c) ((hidAt h (oneOf c ns) (partOf c)).getD 0 + spoilOf c) := by unfold sayOf; rw [if_neg hA, if_neg C, if_pos D', F]
        rw [e]
        have hno := List.find?_eq_none.mp F
        refine pssd_cons (psd_ifT (ptd_cast t1 (ptd_eq fx (pd_var fx 7) pd_int (.flat rfl rfl rfl))) ?_) (atB (.sh (.tup [.str "alike", .str (oneOf c ns), .str (partOf c), .str (firstOf c ns), .int (1 + dg c 6)])))
        refine pssd_cons (psd_set fx 12 (pd_tup (pad_cons pd_str (pad_cons (pd_var fx 4) (pad_cons (pd_var fx 8) (pad_cons (pd_sub fx (pd_var fx 5) (pd_op (fun _ => op_mod) (pd_sub fx (pd_var fx 3) pd_int (.lst .lst (dI c 2 (by decide)))) (pd_blt fx (fun _ => call_lenU) Z.b_len (pad_cons (pd_var fx 5) pad_nil) (rc_len (.lst .lst))) (rd_mod (oth_len ot))) (.lst .lst (first_at ot))) (pad_cons (pd_plus pd_int (pd_sub fx (pd_var fx 3) pd_int (.lst .lst (dI c 6 (by decide))))) pad_nil))))))) ?_
        refine pssd_one (psd_for fx (manyL c) D.int (fun _ => gW c ns h (.sh (.tup [.str "alike", .str (oneOf c ns), .str (partOf c), .str (firstOf c ns), .int (1 + dg c 6)]))) (pid_list fx .lst (PED.share (pd_lst (pad_cons (pd_plus pd_int (pd_sub fx (pd_var fx 3) pd_int (.lst .lst (dI c 6 (by decide))))) (pad_cons pd_int (pad_cons pd_int pad_nil)))))) (Wk.refl _) (fun i x hx => ?_))
        have hB : alikeHit c ns h x = false := by simpa using hno x (List.mem_of_getElem? hx)
        exact ⟨_, _, _, tgd_name fx 14, .inl (pssd_one (psd_ifF (PWD.t (ptd_cast2 hB (pwd_or (tw := decide (leftOf h (alikeOf c ns x) = 0)) (ptd_cast decV (ptd_eq fx (pd_var fx 9) pd_int (.flat rfl rfl rfl))) fun _ => pwd_or1 (ptd_cast decV (ptd_eq fx (pd_call fx (ok_l_left Z) Z.m_l_left Z.F_l_left.kp (bi_l_left Z) .nil (fun _ => .nil) (pad_cons (pd_var fx 1) (pad_cons (pd_op (r := rAddU K) (fun _ => op_addU) (pd_slice fx (pd_var fx 12) pod_none (pod_some pd_int) (.tup (ds := [.str "alike", .str (oneOf c ns), .str (partOf c), .str (firstOf c ns), .int (1 + dg c 6)]))) (pd_tup (pad_cons (pd_var fx 14) pad_nil)) (rd_add (.tup (x := [.str "alike", .str (oneOf c ns), .str (partOf c), .str (firstOf c ns)]) (y := [.int x]) (by rw [sizeLine_eq]; exact Nat.le_of_ble_eq_true rfl)))) (pad_cons (pd_var fx 2) pad_nil))) ⟨_, alikeOf c ns x, h, trivial, alk_ok hf one fst (partOf_in c).1 (many_in (List.mem_of_getElem? hx)), rfl, rfl⟩) pd_int (.flat rfl rfl rfl)))))) pssd_nil)), .s (.s (.s (.s (.s (.s (.s (.s (.s (.s (.s (.s (.s (.s (.u .n))))))))))))))⟩
    · have e : sayOf c ns h = .at_ (oneOf c ns) (partOf c) ((hidAt h (oneOf c ns) (partOf c)).getD 0 + spoilOf c) := by unfold sayOf; rw [if_neg hA, if_neg C, if_neg D']
      rw [e]
      exact pssd_ifF (ptd_cast (show decide (V.int (kindOf c ns) = V.int 2) = false from decide_eq_false (fun z => D' (by injection z))) (ptd_eq fx (pd_var fx 7) pd_int (.flat rfl rfl rfl))) (atB .un)
end
end K9
set_option Elab.async false
set_option linter.all false
set_option maxRecDepth 100000
set_option maxHeartbeats 4000000
namespace K9
open PySem PySem.Spec L2 Wd
open PyProof.Rows hiding St
section
variable {P : Program} {w : World} {K : PySem.W.Frag} {mg : Str → Option Value} {base : Heap} (Z : Env K mg w)
include Z
theorem ok_l_saying : FnOk P w K mg base (L2.CX P w) 3 (He.ga K "_law_saying") Z.d_l_saying ["_law_cell", "_law_names_here", "_law_hidden"] (spD K PrSay) := by
  refine fn_data Z.F_l_saying sc_l_saying (fun ds r ⟨c, ns, h, _, _, e, _⟩ => (by rw [e]; rfl)) fun cdv A outer s H E fx ds r hp => ?_
  obtain ⟨c, ns, h, ⟨n1, n2, n3⟩, hf, rfl, rfl⟩ := hp
  have hne : ns ≠ [] := fun z => by rw [z] at n1; exact absurd n1 (by decide)
  refine ⟨.rt _, ?_, .rt⟩
  refine pssd_cons (psd_set fx 3 (PED.share (pd_call fx (ok_l_numbers Z) Z.m_l_numbers Z.F_l_numbers.kp (bi_l_numbers Z) .nil (fun _ => .nil) (pad_cons (pd_var fx 0) (pad_cons (PED.share (pd_lst (pad_cons pd_int (pad_cons pd_int (pad_cons pd_int (pad_cons pd_int (pad_cons pd_int (pad_cons pd_int (pad_cons pd_int (pad_cons pd_int pad_nil)))))))))) pad_nil)) ⟨c, dgB, .lst (dgB.map .int), .lst, Nat.le_of_ble_eq_true rfl, by decide, rfl, rfl⟩))) ?_
  refine pssd_cons (psd_set fx 4 (pd_sub fx (pd_var fx 1) (pd_op (fun _ => op_mod) (pd_sub fx (pd_var fx 3) pd_int (.lst .lst (dI c 1 (by decide)))) (pd_blt fx (fun _ => call_lenU) Z.b_len (pad_cons (pd_var fx 1) pad_nil) (rc_len (.lst .lst))) (rd_mod (by rw [List.length_map]; omega))) (.lst .lst (one_at hne)))) ?_
  refine pssd_cons (psd_setLc fx 5 [("_law_name", 6)] ns (fun x => D.str x) (fun x => !decide (V.str x = V.str (oneOf c ns))) (fun x => D.str x) (pid_list fx .lst (pd_var fx 1)) (by rw [sizeLine_eq]; omega) (fun x hx => ⟨_, _, tgd_name fx.bk 6, fun _ h => h, ptsd_one (ptd_ne fx.bk (pd_var fx.bk 6) (pd_var fx.bk 4) (.flat rfl rfl rfl)), fun _ => pd_var fx.bk 6⟩) (fun _ => blkOk_by rfl)) ?_
  refine pssd_freeze 5 rfl ?_
  rw [oth_eq]
  refine pssd_cons (psd_set fx 7 (pd_if (rs := .sh (.int (kindOf c ns))) (ptd_ne fx (pd_var fx 5) (PED.share (pd_lst pad_nil)) (.py (.lst .lst (PysOf.map (g := PyData.str) (fun x => .str) (othersOf c ns))) (.lst .lst .nil) (Nat.le_trans (Nat.min_le_right _ _) (by decide)))) (fun hh => pd_cast (by rw [eqv_nil] at hh; rw [kind_eq, if_pos (by simpa using hh)]) (pd_sub fx (pd_var fx 3) pd_int (.lst .lst (dI c 0 (by decide))))) (fun hh => pd_cast (by rw [eqv_nil] at hh; rw [kind_eq, if_neg (by simpa using hh)]) pd_int))) ?_
  refine pssd_cons (psd_par fx 8 9 (d1 := .str (partOf c)) (d2 := .int (spoilOf c)) (pad_cons (pd_sub fx (PED.share (pd_call0 fx (ok_l_parts Z) Z.m_l_parts Z.F_l_parts.kp (bi_l_parts Z) .nil (fun _ => .nil) ⟨rfl, rfl⟩)) (pd_sub fx (pd_var fx 3) pd_int (.lst .lst (dI c 4 (by decide)))) (.lst .lst (partOf_in c).2)) (pad_cons (pd_if (rs := .sh (.int (spoilOf c))) (ptd_cast decV (ptd_eq fx (pd_sub fx (pd_var fx 3) pd_int (.lst .lst (dI c 7 (by decide)))) pd_int (.flat rfl rfl rfl))) (fun hh => pd_cast (by rw [spoil_eq, if_pos (of_decide_eq_true hh)]) pd_int) (fun hh => pd_cast (by rw [spoil_eq, if_neg (of_decide_eq_false hh)]) pd_int)) pad_nil))) ?_
  have one := oneOf_in (c := c) hne
  by_cases A0 : kindOf c ns = 3 ∧ 1 < (othersOf c ns).length
  · have ot : othersOf c ns ≠ [] := fun z => by rw [z] at A0; exact absurd A0.2 (by decide)
    have first := (others_in (first_in ot)).1
    have rne := rest_ne n3 A0.2
    have hol : (othersOf c ns).length ≤ 6 := oth_le n2
    have t1 : (decide (V.int (kindOf c ns) = V.int 3) && decide ((1 : Int) < (((othersOf c ns).map D.str).length : Nat))) = true := by
      rw [decide_eq_true (show V.int (kindOf c ns) = V.int 3 by rw [A0.1]), decide_eq_true (show (1 : Int) < (((othersOf c ns).map D.str).length : Nat) by rw [List.length_map]; omega)]; rfl
    by_cases B : (decide (spoilOf c = 1) || decide (leftOf h (amidOf c ns) = 0)) = true
    · have e : sayOf c ns h = amidOf c ns := by unfold sayOf; rw [if_pos ⟨A0.1, A0.2, by simpa using B⟩]
      rw [e]
      refine pssd_ifT (PWD.t (ptd_cast2 t1 (pwd_and (tv := decide (V.int (kindOf c ns) = V.int 3)) (tw := decide ((1 : Int) < (((othersOf c ns).map D.str).length : Nat))) (ptd_eq fx (pd_var fx 7) pd_int (.flat rfl rfl rfl)) fun _ => pwd_and1 (ptd_cmp (fun _ => op_gt) (nomark _) (pd_blt fx (fun _ => call_lenU) Z.b_len (pad_cons (pd_var fx 5) pad_nil) (rc_len (.lst .lst))) pd_int rd_gt)))) ?_ (fun _ z => nomatch z)
      exact (pssd_cons (psd_set fx 10 (pd_sub fx (pd_var fx 5) (pd_op (fun _ => op_mod) (pd_sub fx (pd_var fx 3) pd_int (.lst .lst (dI c 2 (by decide)))) (pd_blt fx (fun _ => call_lenU) Z.b_len (pad_cons (pd_var fx 5) pad_nil) (rc_len (.lst .lst))) (rd_mod (oth_len ot))) (.lst .lst (first_at ot))))
      (pssd_cons (psd_setLc fx 11 [("_law_name", 6)] (othersOf c ns) (fun x => D.str x) (fun x => !decide (V.str x = V.str (firstOf c ns))) (fun x => D.str x) (pid_list fx .lst (pd_var fx 5)) (by rw [sizeLine_eq]; omega) (fun x hx => ⟨_, _, tgd_name fx.bk 6, fun _ h => h, ptsd_one (ptd_ne fx.bk (pd_var fx.bk 6) (pd_var fx.bk 10) (.flat rfl rfl rfl)), fun _ => pd_var fx.bk 6⟩) (fun _ => blkOk_by rfl))
      (pssd_freeze 11 rfl (by
        rw [rest_eq]
        exact (pssd_cons (psd_set fx 12 (pd_tup (pad_cons pd_str (pad_cons (pd_var fx 4) (pad_cons (pd_sub fx (PED.share (pd_lst (pad_cons pd_str (pad_cons pd_str pad_nil)))) (pd_op (fun _ => op_mod) (pd_sub fx (pd_var fx 3) pd_int (.lst .lst (dI c 4 (by decide)))) pd_int (rd_mod (by decide))) (.lst .lst (way_at c).2)) (pad_cons (pd_var fx 10) (pad_cons (pd_sub fx (pd_var fx 11) (pd_op (fun _ => op_mod) (pd_sub fx (pd_var fx 3) pd_int (.lst .lst (dI c 3 (by decide)))) (pd_blt fx (fun _ => call_lenU) Z.b_len (pad_cons (pd_var fx 11) pad_nil) (rc_len (.lst .lst))) (rd_mod (rest_len rne))) (.lst .lst (rest_at rne))) pad_nil)))))))
        (pssd_rt (psd_ifT (PWD.t (ptd_cast2 B (pwd_or (tw := decide (leftOf h (amidOf c ns) = 0)) (ptd_cast decV (ptd_eq fx (pd_var fx 9) pd_int (.flat rfl rfl rfl))) fun _ => pwd_or1 (ptd_cast decV (ptd_eq fx (pd_call fx (ok_l_left Z) Z.m_l_left Z.F_l_left.kp (bi_l_left Z) .nil (fun _ => .nil) (pad_cons (PED.share (pd_op (r := rAddU K) (fun _ => op_addU) (PED.share (pd_lst (pad_cons (pd_var fx 4) pad_nil))) (pd_var fx 5) (rd_add (.lst (by rw [List.length_map, sizeLine_eq]; show 1 + _ ≤ _; omega))))) (pad_cons (pd_var fx 12) (pad_cons (pd_var fx 2) pad_nil))) ⟨_, amidOf c ns, h, (way_at c).1, amd_ok hf one first (pick_rest_in rne), rfl, rfl⟩) pd_int (.flat rfl rfl rfl)))))) (pssd_rt (psd_ret (pd_var fx 12))))))))))
    · have hA : ¬ (kindOf c ns = 3 ∧ 1 < (othersOf c ns).length ∧ (spoilOf c = 1 ∨ leftOf h (amidOf c ns) = 0)) := fun z => B (by simpa using z.2.2)
      have B' : (decide (spoilOf c = 1) || decide (leftOf h (amidOf c ns) = 0)) = false := by simpa using B
      refine pssd_cons (psd_nxwk (γ' := gW c ns h .un) (psd_ifT (PWD.t (ptd_cast2 t1 (pwd_and (tv := decide (V.int (kindOf c ns) = V.int 3)) (tw := decide ((1 : Int) < (((othersOf c ns).map D.str).length : Nat))) (ptd_eq fx (pd_var fx 7) pd_int (.flat rfl rfl rfl)) fun _ => pwd_and1 (ptd_cmp (fun _ => op_gt) (nomark _) (pd_blt fx (fun _ => call_lenU) Z.b_len (pad_cons (pd_var fx 5) pad_nil) (rc_len (.lst .lst))) pd_int rd_gt))))
        (pssd_cons (psd_set fx 10 (pd_sub fx (pd_var fx 5) (pd_op (fun _ => op_mod) (pd_sub fx (pd_var fx 3) pd_int (.lst .lst (dI c 2 (by decide)))) (pd_blt fx (fun _ => call_lenU) Z.b_len (pad_cons (pd_var fx 5) pad_nil) (rc_len (.lst .lst))) (rd_mod (oth_len ot))) (.lst .lst (first_at ot))))
      (pssd_cons (psd_setLc fx 11 [("_law_name", 6)] (othersOf c ns) (fun x => D.str x) (fun x => !decide (V.str x = V.str (firstOf c ns))) (fun x => D.str x) (pid_list fx .lst (pd_var fx 5)) (by rw [sizeLine_eq]; omega) (fun x hx => ⟨_, _, tgd_name fx.bk 6, fun _ h => h, ptsd_one (ptd_ne fx.bk (pd_var fx.bk 6) (pd_var fx.bk 10) (.flat rfl rfl rfl)), fun _ => pd_var fx.bk 6⟩) (fun _ => blkOk_by rfl))
      (pssd_freeze 11 rfl (by
        rw [rest_eq]
        exact (pssd_cons (psd_set fx 12 (pd_tup (pad_cons pd_str (pad_cons (pd_var fx 4) (pad_cons (pd_sub fx (PED.share (pd_lst (pad_cons pd_str (pad_cons pd_str pad_nil)))) (pd_op (fun _ => op_mod) (pd_sub fx (pd_var fx 3) pd_int (.lst .lst (dI c 4 (by decide)))) pd_int (rd_mod (by decide))) (.lst .lst (way_at c).2)) (pad_cons (pd_var fx 10) (pad_cons (pd_sub fx (pd_var fx 11) (pd_op (fun _ => op_mod) (pd_sub fx (pd_var fx 3) pd_int (.lst .lst (dI c 3 (by decide)))) (pd_blt fx (fun _ => call_lenU) Z.b_len (pad_cons (pd_var fx 11) pad_nil) (rc_len (.lst .lst))) (rd_mod (rest_len rne))) (.lst .lst (rest_at rne))) pad_nil)))))))
        (pssd_one (psd_ifF (PWD.t (ptd_cast2 B' (pwd_or (tw := decide (leftOf h (amidOf c ns) = 0)) (ptd_cast decV (ptd_eq fx (pd_var fx 9) pd_int (.flat rfl rfl rfl))) fun _ => pwd_or1 (ptd_cast decV (ptd_eq fx (pd_call fx (ok_l_left Z) Z.m_l_left Z.F_l_left.kp (bi_l_left Z) .nil (fun _ => .nil) (pad_cons (PED.share (pd_op (r := rAddU K) (fun _ => op_addU) (PED.share (pd_lst (pad_cons (pd_var fx 4) pad_nil))) (pd_var fx 5) (rd_add (.lst (by rw [List.length_map, sizeLine_eq]; show 1 + _ ≤ _; omega))))) (pad_cons (pd_var fx 12) (pad_cons (pd_var fx 2) pad_nil))) ⟨_, amidOf c ns, h, (way_at c).1, amd_ok hf one first (pick_rest_in rne), rfl, rfl⟩) pd_int (.flat rfl rfl rfl)))))) pssd_nil)))))))) ?_) (saying_tail Z cdv A outer s H E fx c ns h hne n2 hf hA)
      exact .s (.s (.s (.s (.s (.s (.u (.s (.s (.s (.u (.u (.u (.u (.u .n))))))))))))))
  · have hA : ¬ (kindOf c ns = 3 ∧ 1 < (othersOf c ns).length ∧ (spoilOf c = 1 ∨ leftOf h (amidOf c ns) = 0)) := fun z => A0 ⟨z.1, z.2.1⟩
    have t1 : (decide (V.int (kindOf c ns) = V.int 3) && decide ((1 : Int) < (((othersOf c ns).map D.str).length : Nat))) = false := by
      apply Bool.eq_false_iff.mpr
      intro z
      rw [Bool.and_eq_true, List.length_map] at z
      exact A0 ⟨by have := of_decide_eq_true z.1; injection this, by have := of_decide_eq_true z.2; omega⟩
    refine pssd_ifF (PWD.t (ptd_cast2 t1 (pwd_and (tv := decide (V.int (kindOf c ns) = V.int 3)) (tw := decide ((1 : Int) < (((othersOf c ns).map D.str).length : Nat))) (ptd_eq fx (pd_var fx 7) pd_int (.flat rfl rfl rfl)) fun _ => pwd_and1 (ptd_cmp (fun _ => op_gt) (nomark _) (pd_blt fx (fun _ => call_lenU) Z.b_len (pad_cons (pd_var fx 5) pad_nil) (rc_len (.lst .lst))) pd_int rd_gt)))) (pssd_wk (γ' := gW c ns h .un) ?_ (saying_tail Z cdv A outer s H E fx c ns h hne n2 hf hA))
    exact .s (.s (.s (.s (.s (.s (.u (.s (.s (.s (.u (.u (.u (.u (.u .n))))))))))))))
end
end K9
set_option Elab.async false
set_option linter.all false
set_option maxRecDepth 100000
set_option maxHeartbeats 4000000
namespace K9
open PySem PySem.Spec L2 Wd
open PyProof.Rows hiding St
/-! ### names drawn; a sheet drawn -/
def namesBy (a m : Nat) : List Str := (List.range (1 + m)).map fun k => wordL.getD ((a + 5 * k) % 12) Str.empty
def NmOk (x : Str) : Prop := x.length ≤ 1000 ∧ nameOk x = true
instance (x : Str) : Decidable (NmOk x) := by unfold NmOk; infer_instance
theorem namesBy_ok : ∀ a < 12, ∀ m < 6, (namesBy a m).Nodup ∧ ∀ x ∈ namesBy a m, NmOk x := by decide +kernel
theorem namesOf_by (c : Int) : namesOf c = namesBy (c / 6 % 12).toNat (c % 6).toNat := by
  obtain ⟨a1, a2⟩ := md (c / 6) 12 (by decide)
  obtain ⟨b1, b2⟩ := md c 6 (by decide)
  unfold namesOf namesBy
  rw [show (1 + c % 6).toNat = 1 + (c % 6).toNat by omega]
  refine List.map_congr_left fun k _ => ?_
  unfold wordAt
  rw [show ((c / 6 % 12 + 5 * (k : Int)) % 12).toNat = ((c / 6 % 12).toNat + 5 * k) % 12 by omega]
theorem namesOf_ok (c : Int) : ((namesOf c).Nodup ∧ ∀ x ∈ namesOf c, NmOk x) ∧ 1 ≤ (namesOf c).length ∧ (namesOf c).length ≤ 6 := by
  obtain ⟨a1, a2⟩ := md (c / 6) 12 (by decide)
  obtain ⟨b1, b2⟩ := md c 6 (by decide)
  rw [namesOf_by]
  refine ⟨namesBy_ok _ (by omega) _ (by omega), ?_⟩
  unfold namesBy
  rw [List.length_map, List.length_range]
  omega
def hB : List Int := [12, 12, 6, 6]
def hidRow (s : List Int) (k : Nat) : List Int := digs (cell s (1 + k) / 3) hB
def hidUpTo (s : List Int) (ns : List Str) (n : Nat) : Hid := (List.range n).map fun k => (ns.getD k Str.empty, hidRow s k)
def sNames (s : List Int) : List Str := namesOf (cell s 0)
def sHid (s : List Int) : Hid := hidUpTo s (sNames s) (sNames s).length
def sMany (s : List Int) : Nat := (cell s 7 % 17).toNat
def sSay (s : List Int) (k : Nat) : Say := sayOf (cell s (8 + k)) (sNames s) (sHid s)
def sSaid (s : List Int) : List Say := (List.range (sMany s)).map (sSay s)
def PrSheetL (ds : List D) (r : Wd.Slot) : Prop := ∃ s : List Int, s.length ≤ 63 ∧ ds = [.ro (s.map .int), .int 16] ∧ r = .sh (.tup [.lst ((sNames s).map .str), .lst ((sSaid s).map Say.t)])
theorem hidRow_ok (s : List Int) (k : Nat) : (hidRow s k).length = 4 ∧ ∀ v ∈ hidRow s k, 0 ≤ v ∧ v < 12 := by
  have e : hidRow s k = [mixed (cell s (1 + k) / 3) % 12, mixed (cell s (1 + k) / 3) / 12 % 12, mixed (cell s (1 + k) / 3) / 12 / 12 % 6, mixed (cell s (1 + k) / 3) / 12 / 12 / 6 % 6] := rfl
  rw [e]
  refine ⟨rfl, fun v hv => ?_⟩
  simp only [List.mem_cons, List.not_mem_nil, or_false] at hv
  omega
theorem getK_some {α : Type} : ∀ (l : List (Str × α)) (n : Str), n ∈ l.map (·.1) → ∃ v, getK l n = some v ∧ (n, v) ∈ l
  | [], _, h => nomatch h
  | p :: r, n, h => by
    unfold getK
    by_cases e : p.1 = n
    · rw [if_pos e]; exact ⟨p.2, rfl, by rw [← e]; exact List.mem_cons_self⟩
    · rw [if_neg e]
      rw [List.map_cons, List.mem_cons] at h
      obtain ⟨v, h1, h2⟩ := getK_some r n (h.resolve_left fun z => e z.symm)
      exact ⟨v, h1, List.mem_cons_of_mem _ h2⟩
theorem getD_range (ns : List Str) : (List.range ns.length).map (fun k => ns.getD k Str.empty) = ns := by
  apply List.ext_getElem
  · simp
  · intro i h1 h2
    simp [List.getElem?_eq_getElem h2]
theorem hidFull (s : List Int) : HidFull (sNames s) (sHid s) := fun n hn => by
  have e : (sHid s).map (·.1) = sNames s := by unfold sHid hidUpTo; rw [List.map_map]; exact getD_range _
  obtain ⟨l, h1, h2⟩ := getK_some (sHid s) n (by rw [e]; exact hn)
  refine ⟨l, h1, ?_⟩
  unfold sHid hidUpTo at h2
  obtain ⟨k, _, z⟩ := List.mem_map.mp h2
  cases z
  exact hidRow_ok s k
def encK {α : Type} (f : α → D) (l : List (Str × α)) : List (Key × D) := l.map fun p => ((Sum.inr p.1 : Key), f p.2)
theorem keys_new {α : Type} (ns : List Str) (nd : ns.Nodup) (f : Nat → α) (g : α → D) {i : Nat} (hi : i < ns.length) :
    ((encK g ((List.range i).map fun k => (ns.getD k Str.empty, f k))).map (·.1)).Nodup ∧
    putG (encK g ((List.range i).map fun k => (ns.getD k Str.empty, f k))) (Sum.inr (ns.getD i Str.empty)) (g (f i)) = encK g ((List.range (i + 1)).map fun k => (ns.getD k Str.empty, f k)) := by
  have e1 : (encK g ((List.range i).map fun k => (ns.getD k Str.empty, f k))).map (·.1) = (ns.take i).map (Sum.inr : Str → Key) := by
    unfold encK
    rw [List.map_map, List.map_map]
    apply List.ext_getElem
    · simp; omega
    · intro j h1 h2
      simp at h1 h2 ⊢
      rw [List.getElem?_eq_getElem (by omega)]
      rfl
  have nd2 : ((ns.take i).map (Sum.inr : Str → Key)).Nodup := by
    refine List.pairwise_map.mpr (((List.take_sublist i ns).nodup nd).imp fun h z => h (inr_inj _ _ z))
  have hnew : (Sum.inr (ns.getD i Str.empty) : Key) ∉ (ns.take i).map (Sum.inr : Str → Key) := fun z => by
    obtain ⟨x, hx, e⟩ := List.mem_map.mp z
    have e := inr_inj _ _ e
    obtain ⟨j, hj, hx⟩ := List.mem_iff_getElem.mp hx
    rw [List.getElem_take] at hx
    rw [List.length_take] at hj
    rw [List.getD_eq_getElem?_getD, List.getElem?_eq_getElem hi] at e
    have e2 : ns[j] = ns[i] := hx.trans e
    have hj' : j < i := by omega
    exact (List.pairwise_iff_getElem.mp nd j i (by omega) hi hj') e2
  refine ⟨by rw [e1]; exact nd2, ?_⟩
  rw [putG_new _ _ _ (by rw [e1]; exact hnew), List.range_succ, List.map_append]
  unfold encK
  rw [List.map_append]
  rfl
section
variable {P : Program} {w : World} {K : PySem.W.Frag} {mg : Str → Option Value} {base : Heap} (Z : Env K mg w)
include Z
theorem bi_l_sheet : Binds K Z.d_l_sheet ["_law_script", "_law_limit"] [] := Z.F_l_sheet.bindsN fun _ _ _ _ _ _ us hl => match us, hl with | [_, _], _ => rfl
omit Z in
theorem slotI {i j : Int} (h : i = j) : Wd.Slot.sh (.int i) = .sh (.int j) := by rw [h]
theorem ok_l_sheet : FnOk P w K mg base (L2.CX P w) 4 (He.ga K "_law_sheet") Z.d_l_sheet ["_law_script", "_law_limit"] (spD K PrSheetL) := by
  refine fn_data Z.F_l_sheet sc_l_sheet (fun ds r ⟨s, _, e, _⟩ => (by rw [e]; rfl)) fun cdv A outer s H E fx ds r hp => ?_
  obtain ⟨sc, hs, rfl, rfl⟩ := hp
  obtain ⟨⟨nd, nok⟩, l1, l6⟩ := namesOf_ok (cell sc 0)
  have nd : (sNames sc).Nodup := nd
  have l1 : 1 ≤ (sNames sc).length := l1
  have l6 : (sNames sc).length ≤ 6 := l6
  refine ⟨.rt _, ?_, .rt⟩
  refine pssd_cons (psd_set fx 2 (PED.share (pd_call fx (ok_l_names Z) Z.m_l_names Z.F_l_names.kp (bi_l_names Z) .nil (fun _ => .nil) (pad_cons (pd_call fx (ok_l_cell_at Z) Z.m_l_cell_at Z.F_l_cell_at.kp (bi_l_cell_at Z) .nil (fun _ => .nil) (pad_cons (pd_var fx 0) (pad_cons pd_int pad_nil)) ⟨sc, 0, hs, by decide, rfl, rfl⟩) pad_nil) ⟨cell sc 0, rfl, rfl⟩))) ?_
  refine pssd_cons (psd_set fx 3 pd_newK) ?_
  refine pssd_cons (psd_for fx (List.range (sNames sc).length) (fun k : Nat => D.int (0 + (k : Int))) (fun i => [.sh (.ro (sc.map .int)), .sh (.int 16), .sh (.lst ((sNames sc).map .str)), .ow (.dk (encK (fun l : List Int => D.lst (l.map D.int)) (hidUpTo sc (sNames sc) i))), .un, .un]) (by rw [show (List.range (sNames sc).length) = List.range ((((sNames sc).map D.str).length : Nat) : Int).toNat by rw [List.length_map]; rfl]; exact pid_range1 fx (pad_cons (pd_blt fx (fun _ => call_lenU) Z.b_len (pad_cons (pd_var fx 2) pad_nil) (rc_len (.lst .lst))) pad_nil) Z.b_range (by rw [List.length_map]; omega)) (Wk.refl _) fun i x hx => ?_) ?_
  · have hi : i < (sNames sc).length := by
      rcases Nat.lt_or_ge i (sNames sc).length with z | z
      · exact z
      · rw [List.getElem?_eq_none (by rw [List.length_range]; exact z)] at hx; cases hx
    rw [List.getElem?_range hi] at hx
    cases hx
    obtain ⟨k1, k2⟩ := keys_new (sNames sc) nd (hidRow sc) (fun l : List Int => D.lst (l.map D.int)) hi
    have ix : atI ((sNames sc).map D.str) (0 + (i : Int)) = some (.str ((sNames sc).getD i Str.empty)) := by
      rw [Int.zero_add]
      exact atI_nat (by rw [List.getElem?_map, List.getD_eq_getElem?_getD, List.getElem?_eq_getElem hi]; rfl)
    refine ⟨_, _, _, tgd_name fx 4, .inl (pssd_one (psd_dput fx 3 (key := Sum.inr ((sNames sc).getD i Str.empty)) rfl (PED.share (pd_call fx (ok_l_numbers Z) Z.m_l_numbers Z.F_l_numbers.kp (bi_l_numbers Z) .nil (fun _ => .nil) (pad_cons (pd_op (fun _ => op_fdiv) (pd_call fx (ok_l_cell_at Z) Z.m_l_cell_at Z.F_l_cell_at.kp (bi_l_cell_at Z) .nil (fun _ => .nil) (pad_cons (pd_var fx 0) (pad_cons (pd_cast (slotI (show (1 : Int) + (0 + (i : Int)) = ((1 + i : Nat) : Int) by omega)) (pd_plus pd_int (pd_var fx 4))) pad_nil)) ⟨sc, 1 + i, hs, by omega, rfl, rfl⟩) pd_int (rd_fdiv (by unfold CDiv; decide))) (pad_cons (PED.share (pd_lst (pad_cons pd_int (pad_cons pd_int (pad_cons pd_int (pad_cons pd_int pad_nil)))))) pad_nil)) ⟨cell sc (1 + i) / 3, hB, .lst (hB.map .int), .lst, Nat.le_of_ble_eq_true rfl, by decide, rfl, rfl⟩)) (pd_sub fx (pd_var fx 2) (pd_var fx 4) (.lst .lst ix)) ?_ k1)), ?_⟩
    · unfold encK hidUpTo
      rw [List.length_map, List.length_map, List.length_range, sizeLine_eq]
      omega
    · unfold hidUpTo
      have k2' := congrArg (fun z => Wd.Slot.ow (.dk z)) k2
      refine .s (.s (.s ?_))
      rw [show (Wd.Slot.ow (.dk (encK (fun l : List Int => D.lst (l.map D.int)) ((List.range (i + 1)).map fun k => ((sNames sc).getD k Str.empty, hidRow sc k))))) = _ from k2'.symm]
      exact .s (.u (.u .n))
  refine pssd_freeze 3 rfl ?_
  refine pssd_cons (psd_set fx 5 (pd_lst pad_nil)) ?_
  obtain ⟨m1, m2⟩ := md (cell sc 7) 17 (by decide)
  have eh : encK (fun l : List Int => D.lst (l.map D.int)) (hidUpTo sc (sNames sc) (List.range (sNames sc).length).length) = (sHid sc).map fun p => ((Sum.inr p.1 : Key), D.lst (p.2.map D.int)) := by rw [List.length_range]; rfl
  have wk0 : Wk [Wd.Slot.sh (.ro (sc.map .int)), .sh (.int 16), .sh (.lst ((sNames sc).map .str)), .sh (.dk (encK (fun l : List Int => D.lst (l.map D.int)) (hidUpTo sc (sNames sc) (List.range (sNames sc).length).length))), .un, .ow (.lst [])] [.sh (.ro (sc.map .int)), .sh (.int 16), .sh (.lst ((sNames sc).map .str)), .sh (encHid (sHid sc)), .un, .ow (.lst (((List.range 0).map (sSay sc)).map Say.t))] := by
    rw [eh]; exact Wk.refl _
  have hm : sMany sc < 17 := by unfold sMany; omega
  refine pssd_cons (psd_for fx (List.range (sMany sc)) (fun k : Nat => D.int (0 + (k : Int))) (fun i => [.sh (.ro (sc.map .int)), .sh (.int 16), .sh (.lst ((sNames sc).map .str)), .sh (encHid (sHid sc)), .un, .ow (.lst (((List.range i).map (sSay sc)).map Say.t))]) (by unfold sMany; exact pid_range1 fx (pad_cons (pd_op (fun _ => op_mod) (pd_call fx (ok_l_cell_at Z) Z.m_l_cell_at Z.F_l_cell_at.kp (bi_l_cell_at Z) .nil (fun _ => .nil) (pad_cons (pd_var fx 0) (pad_cons pd_int pad_nil)) ⟨sc, 7, hs, by decide, rfl, rfl⟩) (pd_plus (pd_var fx 1) pd_int) (rd_mod (show (0 : Int) < 16 + 1 by decide))) pad_nil) Z.b_range (by show _ ≤ cell sc 7 % (16 + 1) ∧ cell sc 7 % (16 + 1) < _; omega)) wk0 fun i x hx => ?_) ?_
  · have hi : i < sMany sc := by
      rcases Nat.lt_or_ge i (sMany sc) with z | z
      · exact z
      · rw [List.getElem?_eq_none (by rw [List.length_range]; exact z)] at hx; cases hx
    rw [List.getElem?_range hi] at hx
    cases hx
    refine ⟨_, _, _, tgd_name fx 4, .inl (pssd_one (psd_append fx 5 rfl (pd_call fx (ok_l_saying Z) Z.m_l_saying Z.F_l_saying.kp (bi_l_saying Z) .nil (fun _ => .nil) (pad_cons (pd_call fx (ok_l_cell_at Z) Z.m_l_cell_at Z.F_l_cell_at.kp (bi_l_cell_at Z) .nil (fun _ => .nil) (pad_cons (pd_var fx 0) (pad_cons (pd_cast (slotI (show (8 : Int) + (0 + (i : Int)) = ((8 + i : Nat) : Int) by omega)) (pd_plus pd_int (pd_var fx 4))) pad_nil)) ⟨sc, 8 + i, hs, by omega, rfl, rfl⟩) (pad_cons (pd_var fx 2) (pad_cons (pd_var fx 3) pad_nil))) ⟨cell sc (8 + i), sNames sc, sHid sc, ⟨l1, l6, nd⟩, hidFull sc, rfl, rfl⟩) (by rw [List.length_map, List.length_map, List.length_range, sizeLine_eq]; omega))), ?_⟩
    rw [List.range_succ, List.map_append, List.map_append]
    exact .s (.s (.s (.s (.u (.s .n)))))
  rw [show (List.range (sMany sc)).length = sMany sc from List.length_range]
  refine pssd_freeze 5 rfl ?_
  exact pssd_rt (psd_ret (pd_tup (pad_cons (pd_var fx 2) (pad_cons (pd_var fx 5) pad_nil))))
end
end K9
set_option Elab.async false
set_option linter.all false
set_option maxRecDepth 100000
set_option maxHeartbeats 4000000
namespace K9X
open PySem PySem.Spec L2 Wd K9
open PyProof.Rows hiding St
/-! ### names, numbers, words: of any plain data -/
theorem pd_not {ι : Type} {Xs : ι → Cx} {K : PySem.W.Frag} {γ : Gm} {a : Expr} {pos : Pos} {tv : Bool} (h : PED K Xs a γ (.sh (.bl tv))) : PED K Xs (.UnaryOp .Not a pos) γ (.sh (.bl (!tv))) :=
  .of (fun i => pe_not (pe_any a i)) fun H0 S0 S H σ k Q q => h H0 S0 S H σ k _ fun v S' H' g s r => by
    cases r
    exact ⟨tv, rfl, q _ S' H' g s .bl⟩
def nameD : D → Bool
  | .str x => nameOk x
  | _ => false
def numD (d : D) (a b : Int) : Bool := match d with
  | .int v => decide (a ≤ v) && decide (v ≤ b)
  | _ => false
def strOf : D → Str
  | .str x => x
  | _ => Str.empty
def plainD (d : D) : Prop := (tyN d).isSome = true ∧ ∀ x, d = .str x → x.length ≤ 1000
def unlikeD (l : List D) : Bool := l.all nameD && decide (unlikes (l.map strOf) = l.length)
def badWord (d : D) (xs : List Str) : Bool := match d with
  | .str x => decide (x ∉ xs)
  | _ => true
def PrWhole (ds : List D) (r : Wd.Slot) : Prop := ∃ d : D, (tyN d).isSome = true ∧ ds = [d] ∧ r = .sh (.bl (isIntD d && !isBlD d))
def PrNum (ds : List D) (r : Wd.Slot) : Prop := ∃ (d : D) (a b : Int), (tyN d).isSome = true ∧ ds = [d, .int a, .int b] ∧ r = .sh (.bl (numD d a b))
def PrName (ds : List D) (r : Wd.Slot) : Prop := ∃ d : D, plainD d ∧ ds = [d] ∧ r = .sh (.bl (nameD d))
def PrUnlike (ds : List D) (r : Wd.Slot) : Prop := ∃ l : List D, l.length ≤ 1000 ∧ (∀ d ∈ l, plainD d) ∧ ds = [.lst l] ∧ r = .sh (.bl (unlikeD l))
def PrNames (ds : List D) (r : Wd.Slot) : Prop := ∃ l : List D, l.length ≤ 1000 ∧ (∀ d ∈ l, plainD d) ∧ unlikeD l = true ∧ ds = [.lst l] ∧ r = .sh .non
def PrNamesX (ds : List D) (c : Str) : Prop := ∃ l : List D, l.length ≤ 1000 ∧ (∀ d ∈ l, plainD d) ∧ unlikeD l = false ∧ ds = [.lst l] ∧ c = "BadSaying"
def PrWord (ds : List D) (r : Wd.Slot) : Prop := ∃ (d : D) (xs : List Str) (c : D), (IsL c (xs.map .str) ∨ IsT c (xs.map .str)) ∧ (tyN d).isSome = true ∧ badWord d xs = false ∧ ds = [d, c] ∧ r = .sh .non
def PrWordX (ds : List D) (c' : Str) : Prop := ∃ (d : D) (xs : List Str) (c : D), (IsL c (xs.map .str) ∨ IsT c (xs.map .str)) ∧ (tyN d).isSome = true ∧ badWord d xs = true ∧ ds = [d, c] ∧ c' = "BadSaying"
def PrNumb (ds : List D) (r : Wd.Slot) : Prop := ∃ (d : D) (a b : Int), (tyN d).isSome = true ∧ numD d a b = true ∧ ds = [d, .int a, .int b] ∧ r = .sh .non
def PrNumbX (ds : List D) (c : Str) : Prop := ∃ (d : D) (a b : Int), (tyN d).isSome = true ∧ numD d a b = false ∧ ds = [d, .int a, .int b] ∧ c = "BadSaying"
theorem all_strs : ∀ {l : List D}, l.all nameD = true → l = (l.map strOf).map .str
  | [], _ => rfl
  | d :: l, h => by
    rw [List.all_cons, Bool.and_eq_true] at h
    rw [List.map_cons, List.map_cons, ← all_strs h.2]
    cases d <;> first | rfl | cases h.1
theorem inV_str (x : Str) (xs : List Str) : inV (.str x) (xs.map V.str) = decide (x ∈ xs) := by
  unfold inV
  rw [List.any_map]
  by_cases h : x ∈ xs
  · rw [decide_eq_true h]
    exact List.any_eq_true.mpr ⟨x, h, beq_self_eq_true x⟩
  · rw [decide_eq_false h]
    apply Bool.eq_false_iff.mpr
    intro q
    obtain ⟨y, hy, e⟩ := List.any_eq_true.mp q
    have e : (y == x) = true := e
    exact h (eq_of_beq e ▸ hy)
section
variable {P : Program} {w : World} {K : PySem.W.Frag} {mg : Str → Option Value} {base : Heap} (Z : Env K mg w)
include Z
theorem bi_is_whole : Binds K Z.d_is_whole ["value"] [] := Z.F_is_whole.bindsN fun _ _ _ _ _ _ us hl => match us, hl with | [_], _ => rfl
theorem bi_is_number : Binds K Z.d_is_number ["value", "least", "most"] [] := Z.F_is_number.bindsN fun _ _ _ _ _ _ us hl => match us, hl with | [_, _, _], _ => rfl
theorem bi_is_name : Binds K Z.d_is_name ["value"] [] := Z.F_is_name.bindsN fun _ _ _ _ _ _ us hl => match us, hl with | [_], _ => rfl
theorem bi_are_unlike_names : Binds K Z.d_are_unlike_names ["values"] [] := Z.F_are_unlike_names.bindsN fun _ _ _ _ _ _ us hl => match us, hl with | [_], _ => rfl
theorem bi_check_names : Binds K Z.d_check_names ["names"] [] := Z.F_check_names.bindsN fun _ _ _ _ _ _ us hl => match us, hl with | [_], _ => rfl
theorem bi_check_word : Binds K Z.d_check_word ["word", "words"] [] := Z.F_check_word.bindsN fun _ _ _ _ _ _ us hl => match us, hl with | [_, _], _ => rfl
theorem bi_check_number : Binds K Z.d_check_number ["value", "least", "most"] [] := Z.F_check_number.bindsN fun _ _ _ _ _ _ us hl => match us, hl with | [_, _, _], _ => rfl
theorem ok_is_whole : FnOk P w K mg base (L2.CX P w) 1 (He.ga K "is_whole") Z.d_is_whole ["value"] (spD K PrWhole) := by
  refine fn_data Z.F_is_whole sc_is_whole (fun ds r ⟨v, _, e, _⟩ => (by rw [e]; rfl)) fun cdv A outer s H E fx ds r hp => ?_
  obtain ⟨d, hd, rfl, rfl⟩ := hp
  exact ⟨.rt _, pssd_rt (psd_ret (pd_and (tv := isIntD d) (tw := !isBlD d) (pd_isi fx (pad_cons (pd_var fx 0) (pad_cons (pd_ty fx (n := "int") Z.b_int) pad_nil)) Z.b_isinstance (isi_tInt hd)) fun _ => pd_one (pd_not (pd_isi fx (pad_cons (pd_var fx 0) (pad_cons (pd_ty fx (n := "bool") Z.b_bool) pad_nil)) Z.b_isinstance (isi_tBl hd))))), .rt⟩
theorem ok_is_number : FnOk P w K mg base (L2.CX P w) 2 (He.ga K "is_number") Z.d_is_number ["value", "least", "most"] (spD K PrNum) := by
  refine fn_data Z.F_is_number sc_is_number (fun ds r ⟨v, a, b, _, e, _⟩ => (by rw [e]; rfl)) fun cdv A outer s H E fx ds r hp => ?_
  obtain ⟨d, a, b, hd, rfl, rfl⟩ := hp
  refine ⟨.rt _, pssd_rt (psd_ret ?_), .rt⟩
  by_cases hi : ∃ v, d = .int v
  · obtain ⟨v, rfl⟩ := hi
    exact pd_cast (congrArg (fun b => Wd.Slot.sh (.bl b)) (Bool.true_and _)) (pd_and (tv := true) (tw := decide (a ≤ v) && decide (v ≤ b)) (pd_call fx (ok_is_whole Z) Z.m_is_whole Z.F_is_whole.kp (bi_is_whole Z) .nil (fun _ => .nil) (pad_cons (pd_var fx 0) pad_nil) ⟨.int v, rfl, rfl, rfl⟩) fun _ => pd_one (pd_within (pd_var fx 1) (pd_var fx 0) (pd_var fx 2)))
  · have e1 : (isIntD d && !isBlD d) = false := by cases d <;> first | rfl | exact absurd ⟨_, rfl⟩ hi
    have e2 : numD d a b = false := by cases d <;> first | rfl | exact absurd ⟨_, rfl⟩ hi
    exact pd_cast (by rw [e2]; rfl) (pd_and (tv := false) (tw := false) (pd_cast (by rw [e1]) (pd_call fx (ok_is_whole Z) Z.m_is_whole Z.F_is_whole.kp (bi_is_whole Z) .nil (fun _ => .nil) (pad_cons (pd_var fx 0) pad_nil) ⟨d, hd, rfl, rfl⟩)) fun z => nomatch z)
theorem ok_is_name : FnOk P w K mg base (L2.CX P w) 1 (He.ga K "is_name") Z.d_is_name ["value"] (spD K PrName) := by
  refine fn_data Z.F_is_name sc_is_name (fun ds r ⟨x, _, e, _⟩ => (by rw [e]; rfl)) fun cdv A outer s H E fx ds r hp => ?_
  obtain ⟨d, ⟨hd, hl⟩, rfl, rfl⟩ := hp
  refine ⟨.rt _, ?_, .rt⟩
  obtain ⟨t1, g1⟩ := Z.i_LONGEST_NAME
  obtain ⟨t2, g2⟩ := Z.i_LETTERS
  by_cases hi : ∃ x, d = .str x
  · obtain ⟨x, rfl⟩ := hi
    have hx := hl x rfl
    refine pssd_ifret (PWD.t (pwd_or (tv := false) (ptd_not (tv := true) (ptd_val (pd_isi fx (pad_cons (pd_var fx 0) (pad_cons (pd_ty fx (n := "str") Z.b_str) pad_nil)) Z.b_isinstance (.one (.bt rfl) rfl rfl)))) fun _ => pwd_or1 (ptd_not (ptd_within pd_int (pd_blt fx (fun _ => call_lenU) Z.b_len (pad_cons (pd_var fx 0) pad_nil) (rc_len (.str (by rw [sizeLine_eq]; omega)))) (pd_globI fx g1))))) (fun h => ?_) (fun h => pssd_rt (psd_ret ?_))
    · have e : nameD (.str x) = false := by
        show nameOk x = false
        unfold nameOk
        simp only [Bool.false_or, Bool.not_eq_true'] at h
        rw [h]
        rfl
      rw [e]
      exact pssd_rt (psd_ret pd_bl)
    · have e : nameD (.str x) = x.cps.toList.all fun c => decide (c ∈ letters.cps.toList) := by
        show nameOk x = _
        unfold nameOk
        simp only [Bool.false_or, Bool.not_eq_false'] at h
        rw [h]
        rfl
      rw [e]
      exact pd_allC fx [("letter", 1)] x.cps.toList (fun c => D.str ⟨#[c]⟩) _ Z.b_all (pid_str (pd_var fx 0)) (by rw [Array.length_toList, sizeLine_eq]; exact Nat.lt_of_le_of_lt hx (by decide)) fun c hc => ⟨_, _, tgd_name fx.bk 1, fun _ h => h, pd_in fx.bk (pd_var fx.bk 1) (pd_globS fx.bk g2) .sign⟩
  · have e1 : isStrD d = false := by cases d <;> first | rfl | exact absurd ⟨_, rfl⟩ hi
    have e2 : nameD d = false := by cases d <;> first | rfl | exact absurd ⟨_, rfl⟩ hi
    rw [e2]
    exact pssd_ifT (PWD.t (pwd_or (tv := true) (tw := false) (ptd_not (tv := false) (ptd_cast e1 (ptd_val (pd_isi fx (pad_cons (pd_var fx 0) (pad_cons (pd_ty fx (n := "str") Z.b_str) pad_nil)) Z.b_isinstance (isi_tStr hd))))) fun z => nomatch z)) (pssd_rt (psd_ret pd_bl)) (fun _ z => nomatch z)
theorem ok_are_unlike_names : FnOk P w K mg base (L2.CX P w) 2 (He.ga K "are_unlike_names") Z.d_are_unlike_names ["values"] (spD K PrUnlike) := by
  refine fn_data Z.F_are_unlike_names sc_are_unlike_names (fun ds r ⟨x, _, _, e, _⟩ => (by rw [e]; rfl)) fun cdv A outer s H E fx ds r hp => ?_
  obtain ⟨l, hx, hy, rfl, rfl⟩ := hp
  refine ⟨.rt _, ?_, .rt⟩
  refine pssd_ifret (tv := !(l.all nameD)) (ptd_not (ptd_val (pd_allC fx [("value", 1)] l (fun x => x) nameD Z.b_all (by rw [List.map_id']; exact pid_list fx .lst (pd_var fx 0)) (by rw [sizeLine_eq]; omega) fun x hm => ⟨_, _, tgd_name fx.bk 1, fun _ h => h, pd_call fx.bk (ok_is_name Z) Z.m_is_name Z.F_is_name.kp (bi_is_name Z) .nil (fun _ => .nil) (pad_cons (pd_var fx.bk 1) pad_nil) ⟨x, hy x hm, rfl, rfl⟩⟩))) (fun h => ?_) (fun h => ?_)
  · have e : unlikeD l = false := by
      unfold unlikeD
      rw [show l.all nameD = false by simpa using h]
      rfl
    rw [e]
    exact pssd_rt (psd_ret pd_bl)
  · have ha : l.all nameD = true := by simpa using h
    have es := all_strs ha
    have e : unlikeD l = decide (V.int (unlikes (l.map strOf) : Nat) = V.int ((l.map strOf).map D.str).length) := by
      unfold unlikeD
      rw [ha, List.length_map, List.length_map, Bool.true_and]
      exact decide_eq_decide.mpr ⟨fun z => by rw [z], fun z => by injection z with z; exact Int.ofNat.inj z⟩
    rw [e]
    have ev : D.lst l = .lst ((l.map strOf).map .str) := congrArg D.lst es
    exact pssd_rt (psd_ret (pd_eq fx (pd_lenSet fx (pd_cast (r := .sh (.lst l)) (congrArg Wd.Slot.sh ev) (pd_var fx 0)) .lst Z.b_len Z.b_set (by rw [List.length_map]; omega)) (pd_blt fx (fun _ => call_lenU) Z.b_len (pad_cons (pd_cast (r := .sh (.lst l)) (congrArg Wd.Slot.sh ev) (pd_var fx 0)) pad_nil) (rc_len (.lst .lst))) (.flat rfl rfl rfl)))
theorem ok_check_names : FnOk P w K mg base (L2.CX P w) 3 (He.ga K "check_names") Z.d_check_names ["names"] (spD K PrNames) := by
  refine fn_data Z.F_check_names sc_check_names (fun ds r ⟨x, _, _, _, e, _⟩ => (by rw [e]; rfl)) fun cdv A outer s H E fx ds r hp => ?_
  obtain ⟨l, hx, hy, hu, rfl, rfl⟩ := hp
  refine ⟨.nx (γ0 N_check_names [.lst l]), ?_, .nx⟩
  exact pssd_ifF (ptd_not (tv := true) (ptd_cast hu (ptd_val (pd_call fx (ok_are_unlike_names Z) Z.m_are_unlike_names Z.F_are_unlike_names.kp (bi_are_unlike_names Z) .nil (fun _ => .nil) (pad_cons (pd_var fx 0) pad_nil) ⟨l, hx, hy, rfl, rfl⟩)))) pssd_nil
theorem okx_check_names : FnOk P w K mg base (L2N.CX P w) 3 (He.ga K "check_names") Z.d_check_names ["names"] (spX K PrNamesX) := by
  refine fnx_data Z.F_check_names sc_check_names (fun ds r ⟨x, _, _, _, e, _⟩ => (by rw [e]; rfl)) fun cdv A outer s H E fx tk ds c hp => ?_
  obtain ⟨l, hx, hy, hu, rfl, rfl⟩ := hp
  exact pxss_here (pxs_ifT (ptd_not (tv := false) (ptd_cast hu (ptd_val (pd_call fx (ok_are_unlike_names Z) Z.m_are_unlike_names Z.F_are_unlike_names.kp (bi_are_unlike_names Z) .nil (fun _ => .nil) (pad_cons (pd_var fx 0) pad_nil) ⟨l, hx, hy, rfl, rfl⟩)))) (pxss_here (pxs_raise fx tk Z.X_BadSaying Z.m_BadSaying)))
omit Z in
theorem in_word {d c : D} {x : Str} {xs : List Str} (hc : IsL c (xs.map .str) ∨ IsT c (xs.map .str)) : InD (.str x) c (decide (x ∈ xs)) := by
  rw [← inV_str]
  rcases hc with hc | hc
  · exact .lst hc (by rw [List.map_map, List.map_map]; rfl) rfl
  · exact .tup hc (by rw [List.map_map, List.map_map]; rfl) rfl
theorem ok_check_word : FnOk P w K mg base (L2.CX P w) 1 (He.ga K "check_word") Z.d_check_word ["word", "words"] (spD K PrWord) := by
  refine fn_data Z.F_check_word sc_check_word (fun ds r ⟨d, xs, c, _, _, _, e, _⟩ => (by rw [e]; rfl)) fun cdv A outer s H E fx ds r hp => ?_
  obtain ⟨d, xs, c, hc, hd, hb, rfl, rfl⟩ := hp
  refine ⟨.nx (γ0 N_check_word [d, c]), ?_, .nx⟩
  cases d <;> first | (cases hb; done) | skip
  rename_i x
  have hx : decide (x ∈ xs) = true := by
    have : decide (x ∉ xs) = false := hb
    simpa using this
  exact pssd_ifF (PWD.t (pwd_or (tv := false) (tw := false) (ptd_not (tv := true) (ptd_val (pd_isi fx (pad_cons (pd_var fx 0) (pad_cons (pd_ty fx (n := "str") Z.b_str) pad_nil)) Z.b_isinstance (.one (.bt rfl) rfl rfl)))) fun _ => pwd_or1 (ptd_ni fx (tv := true) (pd_var fx 0) (pd_var fx 1) (hx ▸ in_word (d := .non) hc)))) pssd_nil
theorem okx_check_word : FnOk P w K mg base (L2N.CX P w) 1 (He.ga K "check_word") Z.d_check_word ["word", "words"] (spX K PrWordX) := by
  refine fnx_data Z.F_check_word sc_check_word (fun ds r ⟨d, xs, c, _, _, _, e, _⟩ => (by rw [e]; rfl)) fun cdv A outer s H E fx tk ds c' hp => ?_
  obtain ⟨d, xs, c, hc, hd, hb, rfl, rfl⟩ := hp
  refine pxss_here (pxs_ifT ?_ (pxss_here (pxs_raise fx tk Z.X_BadSaying Z.m_BadSaying)))
  by_cases hi : ∃ x, d = .str x
  · obtain ⟨x, rfl⟩ := hi
    have hx : decide (x ∈ xs) = false := by
      have : decide (x ∉ xs) = true := hb
      simpa using this
    exact PWD.t (pwd_or (tv := false) (tw := true) (ptd_not (tv := true) (ptd_val (pd_isi fx (pad_cons (pd_var fx 0) (pad_cons (pd_ty fx (n := "str") Z.b_str) pad_nil)) Z.b_isinstance (.one (.bt rfl) rfl rfl)))) fun _ => pwd_or1 (ptd_ni fx (tv := false) (pd_var fx 0) (pd_var fx 1) (hx ▸ in_word (d := .non) hc)))
  · have e1 : isStrD d = false := by cases d <;> first | rfl | exact absurd ⟨_, rfl⟩ hi
    exact PWD.t (pwd_or (tv := true) (tw := false) (ptd_not (tv := false) (ptd_cast e1 (ptd_val (pd_isi fx (pad_cons (pd_var fx 0) (pad_cons (pd_ty fx (n := "str") Z.b_str) pad_nil)) Z.b_isinstance (isi_tStr hd))))) fun z => nomatch z)
theorem ok_check_number : FnOk P w K mg base (L2.CX P w) 3 (He.ga K "check_number") Z.d_check_number ["value", "least", "most"] (spD K PrNumb) := by
  refine fn_data Z.F_check_number sc_check_number (fun ds r ⟨v, a, b, _, _, e, _⟩ => (by rw [e]; rfl)) fun cdv A outer s H E fx ds r hp => ?_
  obtain ⟨d, a, b, hd, hv, rfl, rfl⟩ := hp
  refine ⟨.nx (γ0 N_check_number [d, .int a, .int b]), ?_, .nx⟩
  exact pssd_ifF (ptd_not (tv := true) (ptd_cast hv (ptd_val (pd_call fx (ok_is_number Z) Z.m_is_number Z.F_is_number.kp (bi_is_number Z) .nil (fun _ => .nil) (pad_cons (pd_var fx 0) (pad_cons (pd_var fx 1) (pad_cons (pd_var fx 2) pad_nil))) ⟨d, a, b, hd, rfl, rfl⟩)))) pssd_nil
theorem okx_check_number : FnOk P w K mg base (L2N.CX P w) 3 (He.ga K "check_number") Z.d_check_number ["value", "least", "most"] (spX K PrNumbX) := by
  refine fnx_data Z.F_check_number sc_check_number (fun ds r ⟨v, a, b, _, _, e, _⟩ => (by rw [e]; rfl)) fun cdv A outer s H E fx tk ds c hp => ?_
  obtain ⟨d, a, b, hd, hv, rfl, rfl⟩ := hp
  exact pxss_here (pxs_ifT (ptd_not (tv := false) (ptd_cast hv (ptd_val (pd_call fx (ok_is_number Z) Z.m_is_number Z.F_is_number.kp (bi_is_number Z) .nil (fun _ => .nil) (pad_cons (pd_var fx 0) (pad_cons (pd_var fx 1) (pad_cons (pd_var fx 2) pad_nil))) ⟨d, a, b, hd, rfl, rfl⟩)))) (pxss_here (pxs_raise fx tk Z.X_BadSaying Z.m_BadSaying)))
end
end K9X
set_option Elab.async false
set_option linter.all false
set_option maxRecDepth 100000
set_option maxHeartbeats 4000000
namespace K9X
open PySem PySem.Spec L2 Wd K9
open PyProof.Rows hiding St
/-! ### sayings refused -/
def PrAtX (ds : List D) (c : Str) : Prop := ∃ dn dp di : D, plainD dn ∧ (tyN dp).isSome = true ∧ (tyN di).isSome = true ∧ ds = [dn, dp, di] ∧ c = "BadSaying" ∧ (unlikeD [dn] && (!badWord dp partL && numD di (-1000) 1000)) = false
def PrBesX (ds : List D) (c : Str) : Prop := ∃ dn d2 dm di : D, plainD dn ∧ plainD dm ∧ (tyN d2).isSome = true ∧ (tyN di).isSome = true ∧ ds = [dn, d2, dm, di] ∧ c = "BadSaying" ∧ (unlikeD [dn, dm] && (!badWord d2 sideL && numD di (-1000) 1000)) = false
def PrAlkX (ds : List D) (c : Str) : Prop := ∃ dn d2 dm di : D, plainD dn ∧ plainD dm ∧ (tyN d2).isSome = true ∧ (tyN di).isSome = true ∧ ds = [dn, d2, dm, di] ∧ c = "BadSaying" ∧ (unlikeD [dn, dm] && (!badWord d2 partL && numD di 1 9)) = false
def PrAmdX (ds : List D) (c : Str) : Prop := ∃ dn d2 dm dk : D, plainD dn ∧ plainD dm ∧ plainD dk ∧ (tyN d2).isSome = true ∧ ds = [dn, d2, dm, dk] ∧ c = "BadSaying" ∧ (unlikeD [dn, dm, dk] && !badWord d2 wayL) = false
theorem plain1 {a : D} (h : plainD a) : ∀ d ∈ [a], plainD d := fun d hd => (List.mem_singleton.mp hd) ▸ h
theorem plain2 {a b : D} (h : plainD a) (g : plainD b) : ∀ d ∈ [a, b], plainD d := fun d hd => by
  rcases List.mem_cons.mp hd with rfl | hd
  · exact h
  · exact plain1 g d hd
theorem plain3 {a b c : D} (h : plainD a) (g : plainD b) (f : plainD c) : ∀ d ∈ [a, b, c], plainD d := fun d hd => by
  rcases List.mem_cons.mp hd with rfl | hd
  · exact h
  · exact plain2 g f d hd
section
variable {P : Program} {w : World} {K : PySem.W.Frag} {mg : Str → Option Value} {base : Heap} (Z : Env K mg w)
include Z
theorem dat_PARTS : ∀ S, Dat K S (.ref (He.ga K "PARTS")) (.rot (partL.map .str)) := fun S => by
  obtain ⟨ob, its, m, hk, hv⟩ := Z.t_PARTS
  exact .rot (.inr ⟨ob, its, m, hk.1, hk.2.1, hk.2.2.2.1, hk.2.2.2.2, hv⟩) (.cons .str (.cons .str (.cons .str (.cons .str .nil))))
theorem bi_At_init : Binds K Z.d_At_init ["self", "name", "part", "number"] [] := Z.F_At_init.bindsN fun _ _ _ _ _ _ us hl => match us, hl with | [_, _, _, _], _ => rfl
theorem bi_Amid_init : Binds K Z.d_Amid_init ["self", "name", "way", "one", "other"] [] := Z.F_Amid_init.bindsN fun _ _ _ _ _ _ us hl => match us, hl with | [_, _, _, _, _], _ => rfl
theorem okx_At_init : FnOk P w K mg base (L2N.CX P w) 4 (He.ma K (He.ga K "At") "__init__") Z.d_At_init ["self", "name", "part", "number"] (spXI K "At" PrAtX) := by
  refine initx_data Z.F_At_init sc_At_init (fun ds c ⟨_, _, _, _, _, _, e, _⟩ => (by rw [e]; rfl)) fun cdv A outer s H E fx tk ds c hp => ?_
  obtain ⟨dn, dp, di, h1, h2, h3, rfl, rfl, hb⟩ := hp
  obtain ⟨t1, g1⟩ := Z.i_FARTHEST
  cases hU : unlikeD [dn] with
  | false => exact pxss_here (pxs_expr (pxd_call fx tk (okx_check_names Z) Z.m_check_names Z.F_check_names.kp (bi_check_names Z) (pad_cons (PED.share (pd_lst (pad_cons (pd_var fx 1) pad_nil))) pad_nil) ⟨[dn], Nat.le_of_ble_eq_true rfl, plain1 h1, hU, rfl, rfl⟩))
  | true =>
    refine pxss_cons (psd_expr (pd_call fx (ok_check_names Z) Z.m_check_names Z.F_check_names.kp (bi_check_names Z) .nil (fun _ => .nil) (pad_cons (PED.share (pd_lst (pad_cons (pd_var fx 1) pad_nil))) pad_nil) ⟨[dn], Nat.le_of_ble_eq_true rfl, plain1 h1, hU, rfl, rfl⟩)) ?_
    cases hW : badWord dp partL with
    | true => exact pxss_here (pxs_expr (pxd_call fx tk (okx_check_word Z) Z.m_check_word Z.F_check_word.kp (bi_check_word Z) (pad_cons (pd_var fx 2) (pad_cons (pd_globR fx Z.m_PARTS (dat_PARTS Z)) pad_nil)) ⟨dp, partL, .rot (partL.map .str), .inr .rot, h2, hW, rfl, rfl⟩))
    | false =>
      refine pxss_cons (psd_expr (pd_call fx (ok_check_word Z) Z.m_check_word Z.F_check_word.kp (bi_check_word Z) .nil (fun _ => .nil) (pad_cons (pd_var fx 2) (pad_cons (pd_globR fx Z.m_PARTS (dat_PARTS Z)) pad_nil)) ⟨dp, partL, .rot (partL.map .str), .inr .rot, h2, hW, rfl, rfl⟩)) ?_
      have hN : numD di (-1000) 1000 = false := by rw [hU, hW] at hb; simpa using hb
      exact pxss_here (pxs_expr (pxd_call fx tk (okx_check_number Z) Z.m_check_number Z.F_check_number.kp (bi_check_number Z) (pad_cons (pd_var fx 3) (pad_cons (pd_neg (pd_globI fx g1)) (pad_cons (pd_globI fx g1) pad_nil))) ⟨di, -1000, 1000, h3, hN, rfl, rfl⟩))
theorem okx_Beside_init : FnOk P w K mg base (L2N.CX P w) 4 (He.ma K (He.ga K "Beside") "__init__") Z.d_Beside_init ["self", "name", "side", "other", "by"] (spXI K "Beside" PrBesX) := by
  refine initx_data Z.F_Beside_init sc_Beside_init (fun ds c ⟨_, _, _, _, _, _, _, _, e, _⟩ => (by rw [e]; rfl)) fun cdv A outer s H E fx tk ds c hp => ?_
  obtain ⟨dn, d2, dm, di, h1, h1', h2, h3, rfl, rfl, hb⟩ := hp
  obtain ⟨t1, g1⟩ := Z.i_FARTHEST
  cases hU : unlikeD [dn, dm] with
  | false => exact pxss_here (pxs_expr (pxd_call fx tk (okx_check_names Z) Z.m_check_names Z.F_check_names.kp (bi_check_names Z) (pad_cons (PED.share (pd_lst (pad_cons (pd_var fx 1) (pad_cons (pd_var fx 3) pad_nil)))) pad_nil) ⟨[dn, dm], Nat.le_of_ble_eq_true rfl, plain2 h1 h1', hU, rfl, rfl⟩))
  | true =>
    refine pxss_cons (psd_expr (pd_call fx (ok_check_names Z) Z.m_check_names Z.F_check_names.kp (bi_check_names Z) .nil (fun _ => .nil) (pad_cons (PED.share (pd_lst (pad_cons (pd_var fx 1) (pad_cons (pd_var fx 3) pad_nil)))) pad_nil) ⟨[dn, dm], Nat.le_of_ble_eq_true rfl, plain2 h1 h1', hU, rfl, rfl⟩)) ?_
    cases hW : badWord d2 sideL with
    | true => exact pxss_here (pxs_expr (pxd_call fx tk (okx_check_word Z) Z.m_check_word Z.F_check_word.kp (bi_check_word Z) (pad_cons (pd_var fx 2) (pad_cons (PED.share (pd_listW fx Z.b_list Z.m_SIDES Z.k_SIDES (by decide))) pad_nil)) ⟨d2, sideL, .lst (sideL.map .str), .inl .lst, h2, hW, rfl, rfl⟩))
    | false =>
      refine pxss_cons (psd_expr (pd_call fx (ok_check_word Z) Z.m_check_word Z.F_check_word.kp (bi_check_word Z) .nil (fun _ => .nil) (pad_cons (pd_var fx 2) (pad_cons (PED.share (pd_listW fx Z.b_list Z.m_SIDES Z.k_SIDES (by decide))) pad_nil)) ⟨d2, sideL, .lst (sideL.map .str), .inl .lst, h2, hW, rfl, rfl⟩)) ?_
      have hN : numD di (-1000) 1000 = false := by rw [hU, hW] at hb; simpa using hb
      exact pxss_here (pxs_expr (pxd_call fx tk (okx_check_number Z) Z.m_check_number Z.F_check_number.kp (bi_check_number Z) (pad_cons (pd_var fx 4) (pad_cons (pd_neg (pd_globI fx g1)) (pad_cons (pd_globI fx g1) pad_nil))) ⟨di, -1000, 1000, h3, hN, rfl, rfl⟩))
theorem okx_Alike_init : FnOk P w K mg base (L2N.CX P w) 4 (He.ma K (He.ga K "Alike") "__init__") Z.d_Alike_init ["self", "name", "part", "other", "times"] (spXI K "Alike" PrAlkX) := by
  refine initx_data Z.F_Alike_init sc_Alike_init (fun ds c ⟨_, _, _, _, _, _, _, _, e, _⟩ => (by rw [e]; rfl)) fun cdv A outer s H E fx tk ds c hp => ?_
  obtain ⟨dn, d2, dm, di, h1, h1', h2, h3, rfl, rfl, hb⟩ := hp
  obtain ⟨t1, g1⟩ := Z.i_MOST_TIMES
  cases hU : unlikeD [dn, dm] with
  | false => exact pxss_here (pxs_expr (pxd_call fx tk (okx_check_names Z) Z.m_check_names Z.F_check_names.kp (bi_check_names Z) (pad_cons (PED.share (pd_lst (pad_cons (pd_var fx 1) (pad_cons (pd_var fx 3) pad_nil)))) pad_nil) ⟨[dn, dm], Nat.le_of_ble_eq_true rfl, plain2 h1 h1', hU, rfl, rfl⟩))
  | true =>
    refine pxss_cons (psd_expr (pd_call fx (ok_check_names Z) Z.m_check_names Z.F_check_names.kp (bi_check_names Z) .nil (fun _ => .nil) (pad_cons (PED.share (pd_lst (pad_cons (pd_var fx 1) (pad_cons (pd_var fx 3) pad_nil)))) pad_nil) ⟨[dn, dm], Nat.le_of_ble_eq_true rfl, plain2 h1 h1', hU, rfl, rfl⟩)) ?_
    cases hW : badWord d2 partL with
    | true => exact pxss_here (pxs_expr (pxd_call fx tk (okx_check_word Z) Z.m_check_word Z.F_check_word.kp (bi_check_word Z) (pad_cons (pd_var fx 2) (pad_cons (pd_globR fx Z.m_PARTS (dat_PARTS Z)) pad_nil)) ⟨d2, partL, .rot (partL.map .str), .inr .rot, h2, hW, rfl, rfl⟩))
    | false =>
      refine pxss_cons (psd_expr (pd_call fx (ok_check_word Z) Z.m_check_word Z.F_check_word.kp (bi_check_word Z) .nil (fun _ => .nil) (pad_cons (pd_var fx 2) (pad_cons (pd_globR fx Z.m_PARTS (dat_PARTS Z)) pad_nil)) ⟨d2, partL, .rot (partL.map .str), .inr .rot, h2, hW, rfl, rfl⟩)) ?_
      have hN : numD di 1 9 = false := by rw [hU, hW] at hb; simpa using hb
      exact pxss_here (pxs_expr (pxd_call fx tk (okx_check_number Z) Z.m_check_number Z.F_check_number.kp (bi_check_number Z) (pad_cons (pd_var fx 4) (pad_cons pd_int (pad_cons (pd_globI fx g1) pad_nil))) ⟨di, 1, 9, h3, hN, rfl, rfl⟩))
theorem okx_Amid_init : FnOk P w K mg base (L2N.CX P w) 4 (He.ma K (He.ga K "Amid") "__init__") Z.d_Amid_init ["self", "name", "way", "one", "other"] (spXI K "Amid" PrAmdX) := by
  refine initx_data Z.F_Amid_init sc_Amid_init (fun ds c ⟨_, _, _, _, _, _, _, _, e, _⟩ => (by rw [e]; rfl)) fun cdv A outer s H E fx tk ds c hp => ?_
  obtain ⟨dn, d2, dm, dk, h1, h1', h1'', h2, rfl, rfl, hb⟩ := hp
  cases hU : unlikeD [dn, dm, dk] with
  | false => exact pxss_here (pxs_expr (pxd_call fx tk (okx_check_names Z) Z.m_check_names Z.F_check_names.kp (bi_check_names Z) (pad_cons (PED.share (pd_lst (pad_cons (pd_var fx 1) (pad_cons (pd_var fx 3) (pad_cons (pd_var fx 4) pad_nil))))) pad_nil) ⟨[dn, dm, dk], Nat.le_of_ble_eq_true rfl, plain3 h1 h1' h1'', hU, rfl, rfl⟩))
  | true =>
    refine pxss_cons (psd_expr (pd_call fx (ok_check_names Z) Z.m_check_names Z.F_check_names.kp (bi_check_names Z) .nil (fun _ => .nil) (pad_cons (PED.share (pd_lst (pad_cons (pd_var fx 1) (pad_cons (pd_var fx 3) (pad_cons (pd_var fx 4) pad_nil))))) pad_nil) ⟨[dn, dm, dk], Nat.le_of_ble_eq_true rfl, plain3 h1 h1' h1'', hU, rfl, rfl⟩)) ?_
    have hW : badWord d2 wayL = true := by rw [hU] at hb; simpa using hb
    exact pxss_here (pxs_expr (pxd_call fx tk (okx_check_word Z) Z.m_check_word Z.F_check_word.kp (bi_check_word Z) (pad_cons (pd_var fx 2) (pad_cons (PED.share (pd_listW fx Z.b_list Z.m_WAYS Z.k_WAYS (by decide))) pad_nil)) ⟨d2, wayL, .lst (wayL.map .str), .inl .lst, h2, hW, rfl, rfl⟩))
end
end K9X
set_option Elab.async false
set_option linter.all false
set_option maxRecDepth 100000
set_option maxHeartbeats 4000000
namespace K9
open PySem PySem.Spec L2 Wd
open PyProof.Rows hiding St
/-! ### rows written -/
def rowL : Say → List Str
  | .at_ n p i => [n, " ", p, " ", Str.ofString (toString i)]
  | .bes n s o b => [n, " ", s, " of ", o, " by ", Str.ofString (toString b)]
  | .alk n p o m => [n, " ", p, " as ", o, " times ", Str.ofString (toString m)]
  | .amd n v o u => [n, " amid ", o, " ", u, " ", v]
def rowS (x : Say) : Str := catS Str.empty (rowL x)
theorem cat_len : ∀ (xs : List Str) (a : Str), (catS a xs).length = a.length + (xs.map (·.length)).sum
  | [], a => rfl
  | x :: xs, a => by
    show (catS (a ++ x) xs).length = _
    rw [cat_len xs (a ++ x), show (a ++ x).length = a.length + x.length from Array.size_append, List.map_cons, List.sum_cons]
    omega
theorem log_small {i : Int} (h : -1000 ≤ i ∧ i ≤ 1000) : i.natAbs.log2 < 1920 := by
  have h1 : i.natAbs < 2 ^ 10 := by omega
  by_cases h0 : i.natAbs = 0
  · rw [h0]; decide
  · have := (Nat.log2_lt h0).mpr h1
    omega
theorem int_len {i : Int} (h : -1000 ≤ i ∧ i ≤ 1000) : (Str.ofString (toString i)).length ≤ 5 := by
  rw [PySem.ofString_length]
  exact int_text_length_le10 (k := 4) (by decide) (by omega)
theorem ok_nums {x : Say} (h : x.ok) : match x with
  | .at_ n p i => n.length ≤ 1000 ∧ p.length ≤ 10 ∧ -1000 ≤ i ∧ i ≤ 1000
  | .bes n s o b => n.length ≤ 1000 ∧ o.length ≤ 1000 ∧ s.length ≤ 10 ∧ -1000 ≤ b ∧ b ≤ 1000
  | .alk n p o m => n.length ≤ 1000 ∧ o.length ≤ 1000 ∧ p.length ≤ 10 ∧ -1000 ≤ m ∧ m ≤ 1000
  | .amd n v o u => n.length ≤ 1000 ∧ o.length ≤ 1000 ∧ u.length ≤ 1000 ∧ v.length ≤ 10 := by
  have pl : ∀ p ∈ partL, p.length ≤ 10 := by decide +kernel
  have sl : ∀ p ∈ sideL, p.length ≤ 10 := by decide +kernel
  have wl : ∀ p ∈ wayL, p.length ≤ 10 := by decide +kernel
  cases x with
  | at_ n p i => obtain ⟨h1, h2, h3, h4, h5⟩ := h; exact ⟨h1, pl p h3, h4, h5⟩
  | bes n s o b => obtain ⟨⟨h1, h1'⟩, h2, h3, h4, h5⟩ := h; exact ⟨h1, h1', sl s h3, h4, h5⟩
  | alk n p o m => obtain ⟨⟨h1, h1'⟩, h2, h3, h4, h5⟩ := h; exact ⟨h1, h1', pl p h3, by omega, by omega⟩
  | amd n v o u => obtain ⟨⟨h1, h1', h1''⟩, h2, h3⟩ := h; exact ⟨h1, h1', h1'', wl v h3⟩
theorem row_len {x : Say} (h : x.ok) : (rowS x).length ≤ 4000 := by
  have z := ok_nums h
  unfold rowS
  rw [cat_len]
  have e0 : Str.empty.length = 0 := rfl
  have e1 : (" " : Str).length = 1 := by decide +kernel
  cases x with
  | at_ n p i =>
    have l := int_len (i := i) ⟨z.2.2.1, z.2.2.2⟩
    show 0 + ([n, " ", p, " ", Str.ofString (toString i)].map (·.length)).sum ≤ 4000
    simp only [List.map_cons, List.map_nil, List.sum_cons, List.sum_nil, e1]
    have := z.1; have := z.2.1
    omega
  | bes n s o b =>
    have l := int_len (i := b) ⟨z.2.2.2.1, z.2.2.2.2⟩
    have e2 : (" of " : Str).length = 4 := by decide +kernel
    have e3 : (" by " : Str).length = 4 := by decide +kernel
    show 0 + ([n, " ", s, " of ", o, " by ", Str.ofString (toString b)].map (·.length)).sum ≤ 4000
    simp only [List.map_cons, List.map_nil, List.sum_cons, List.sum_nil, e1, e2, e3]
    have := z.1; have := z.2.1; have := z.2.2.1
    omega
  | alk n p o m =>
    have l := int_len (i := m) ⟨z.2.2.2.1, z.2.2.2.2⟩
    have e2 : (" as " : Str).length = 4 := by decide +kernel
    have e3 : (" times " : Str).length = 7 := by decide +kernel
    show 0 + ([n, " ", p, " as ", o, " times ", Str.ofString (toString m)].map (·.length)).sum ≤ 4000
    simp only [List.map_cons, List.map_nil, List.sum_cons, List.sum_nil, e1, e2, e3]
    have := z.1; have := z.2.1; have := z.2.2.1
    omega
  | amd n v o u =>
    have e2 : (" amid " : Str).length = 6 := by decide +kernel
    show 0 + ([n, " amid ", o, " ", u, " ", v].map (·.length)).sum ≤ 4000
    simp only [List.map_cons, List.map_nil, List.sum_cons, List.sum_nil, e1, e2]
    have := z.1; have := z.2.1; have := z.2.2.1; have := z.2.2.2
    omega
def PrRow (ds : List D) (r : Wd.Slot) : Prop := ∃ x : Say, x.ok ∧ ds = [x.d] ∧ r = .sh (.str (rowS x))
def boxS (n : Str) : Str := catS Str.empty ["box ", n]
def rowsS (ns : List Str) (xs : List Say) : List Str := ns.map boxS ++ xs.map rowS
def textS (ns : List Str) (xs : List Say) : Str := Txt.join "\n" (rowsS ns xs)
def PrWritten (ds : List D) (r : Wd.Slot) : Prop := ∃ (ns : List Str) (xs : List Say), (ns.length ≤ 6 ∧ ∀ n ∈ ns, n.length ≤ 1000) ∧ (xs.length ≤ 16 ∧ ∀ x ∈ xs, x.ok) ∧ ds = [.obj "Sheet" (shF ns xs)] ∧ r = .sh (.str (textS ns xs))
theorem box_len {n : Str} (h : n.length ≤ 1000) : (boxS n).length ≤ 4000 := by
  unfold boxS
  rw [cat_len]
  have e1 : ("box " : Str).length = 4 := by decide +kernel
  show 0 + ((["box ", n] : List Str).map (·.length)).sum ≤ 4000
  simp only [List.map_cons, List.map_nil, List.sum_cons, List.sum_nil, e1]
  omega
theorem sum_le {xs : List Str} {m : Nat} (h : ∀ x ∈ xs, x.length ≤ m) : (xs.map (·.length)).sum ≤ xs.length * m := by
  induction xs with
  | nil => simp
  | cons x xs ih =>
    have h1 := h x List.mem_cons_self
    have h2 := ih fun y hy => h y (List.mem_cons_of_mem _ hy)
    rw [List.map_cons, List.sum_cons, List.length_cons, Nat.succ_mul]
    omega
theorem rows_fit {ns : List Str} {xs : List Say} (h : ns.length ≤ 6 ∧ ∀ n ∈ ns, n.length ≤ 1000) (g : xs.length ≤ 16 ∧ ∀ x ∈ xs, x.ok) : (rowsS ns xs).length ≤ 22 ∧ ∀ r ∈ rowsS ns xs, r.length ≤ 4000 := by
  refine ⟨by unfold rowsS; rw [List.length_append, List.length_map, List.length_map]; omega, fun r hr => ?_⟩
  rcases List.mem_append.mp hr with hr | hr
  · obtain ⟨n, hn, rfl⟩ := List.mem_map.mp hr
    exact box_len (h.2 n hn)
  · obtain ⟨x, hx, rfl⟩ := List.mem_map.mp hr
    exact row_len (g.2 x hx)
section
variable {P : Program} {w : World} {K : PySem.W.Frag} {mg : Str → Option Value} {base : Heap} (Z : Env K mg w)
include Z
theorem bi_row_of : Binds K Z.d_row_of ["saying"] [] := Z.F_row_of.bindsN fun _ _ _ _ _ _ us hl => match us, hl with | [_], _ => rfl
theorem bi_written : Binds K Z.d_written ["sheet"] [] := Z.F_written.bindsN fun _ _ _ _ _ _ us hl => match us, hl with | [_], _ => rfl
theorem ok_row_of : FnOk P w K mg base (L2.CX P w) 1 (He.ga K "row_of") Z.d_row_of ["saying"] (spD K PrRow) := by
  refine fn_data Z.F_row_of sc_row_of (fun ds r ⟨x, _, e, _⟩ => (by rw [e]; rfl)) fun cdv A outer s H E fx ds r hp => ?_
  obtain ⟨x, hx, rfl, rfl⟩ := hp
  refine ⟨.rt _, ?_, .rt⟩
  have hl : (catS Str.empty (rowL x)).length ≤ sizeLine := Nat.le_trans (row_len hx) (by rw [sizeLine_eq]; decide)
  have z := ok_nums hx
  have sm : ∀ {n : Nat}, n ≤ 1000 → n ≤ sizeLine := fun h => Nat.le_trans h (by rw [sizeLine_eq]; decide)
  have sm2 : ∀ {n : Nat}, n ≤ 10 → n ≤ sizeLine := fun h => Nat.le_trans h (by rw [sizeLine_eq]; decide)
  cases x with
  | at_ n p i =>
    exact pssd_ifT (ptd_val (pd_isi fx (pad_cons (pd_var fx 0) (pad_cons (pd_globR fx Z.m_At (dat_cls Z "At")) pad_nil)) Z.b_isinstance (.one (.own Z.o_At) rfl Z.kt_At_At)))
      (pssd_rt (psd_ret (pd_fstr (.cons (pd_fmtS (pd_fld fx (pd_var fx 0) Z.c_At Z.na_At_name rfl) (sm z.1)) (.cons pd_str (.cons (pd_fmtS (pd_fld fx (pd_var fx 0) Z.c_At Z.na_At_part rfl) (sm2 z.2.1)) (.cons pd_str (.cons (pd_fmtI (pd_fld fx (pd_var fx 0) Z.c_At Z.na_At_number rfl) (log_small z.2.2)) .nil))))) hl))) fun _ z => nomatch z
  | bes n s o b =>
    refine pssd_ifF (ptd_val (pd_isi fx (pad_cons (pd_var fx 0) (pad_cons (pd_globR fx Z.m_At (dat_cls Z "At")) pad_nil)) Z.b_isinstance (.one (.own Z.o_Beside) rfl Z.kt_Beside_At))) ?_
    exact pssd_ifT (ptd_val (pd_isi fx (pad_cons (pd_var fx 0) (pad_cons (pd_globR fx Z.m_Beside (dat_cls Z "Beside")) pad_nil)) Z.b_isinstance (.one (.own Z.o_Beside) rfl Z.kt_Beside_Beside)))
      (pssd_rt (psd_ret (pd_fstr (.cons (pd_fmtS (pd_fld fx (pd_var fx 0) Z.c_Beside Z.na_Beside_name rfl) (sm z.1)) (.cons pd_str (.cons (pd_fmtS (pd_fld fx (pd_var fx 0) Z.c_Beside Z.na_Beside_side rfl) (sm2 z.2.2.1)) (.cons pd_str (.cons (pd_fmtS (pd_fld fx (pd_var fx 0) Z.c_Beside Z.na_Beside_other rfl) (sm z.2.1)) (.cons pd_str (.cons (pd_fmtI (pd_fld fx (pd_var fx 0) Z.c_Beside Z.na_Beside_by rfl) (log_small z.2.2.2)) .nil))))))) hl))) fun _ z => nomatch z
  | alk n p o m =>
    refine pssd_ifF (ptd_val (pd_isi fx (pad_cons (pd_var fx 0) (pad_cons (pd_globR fx Z.m_At (dat_cls Z "At")) pad_nil)) Z.b_isinstance (.one (.own Z.o_Alike) rfl Z.kt_Alike_At))) ?_
    refine pssd_ifF (ptd_val (pd_isi fx (pad_cons (pd_var fx 0) (pad_cons (pd_globR fx Z.m_Beside (dat_cls Z "Beside")) pad_nil)) Z.b_isinstance (.one (.own Z.o_Alike) rfl Z.kt_Alike_Beside))) ?_
    exact pssd_ifT (ptd_val (pd_isi fx (pad_cons (pd_var fx 0) (pad_cons (pd_globR fx Z.m_Alike (dat_cls Z "Alike")) pad_nil)) Z.b_isinstance (.one (.own Z.o_Alike) rfl Z.kt_Alike_Alike)))
      (pssd_rt (psd_ret (pd_fstr (.cons (pd_fmtS (pd_fld fx (pd_var fx 0) Z.c_Alike Z.na_Alike_name rfl) (sm z.1)) (.cons pd_str (.cons (pd_fmtS (pd_fld fx (pd_var fx 0) Z.c_Alike Z.na_Alike_part rfl) (sm2 z.2.2.1)) (.cons pd_str (.cons (pd_fmtS (pd_fld fx (pd_var fx 0) Z.c_Alike Z.na_Alike_other rfl) (sm z.2.1)) (.cons pd_str (.cons (pd_fmtI (pd_fld fx (pd_var fx 0) Z.c_Alike Z.na_Alike_times rfl) (log_small z.2.2.2)) .nil))))))) hl))) fun _ z => nomatch z
  | amd n v o u =>
    refine pssd_ifF (ptd_val (pd_isi fx (pad_cons (pd_var fx 0) (pad_cons (pd_globR fx Z.m_At (dat_cls Z "At")) pad_nil)) Z.b_isinstance (.one (.own Z.o_Amid) rfl Z.kt_Amid_At))) ?_
    refine pssd_ifF (ptd_val (pd_isi fx (pad_cons (pd_var fx 0) (pad_cons (pd_globR fx Z.m_Beside (dat_cls Z "Beside")) pad_nil)) Z.b_isinstance (.one (.own Z.o_Amid) rfl Z.kt_Amid_Beside))) ?_
    refine pssd_ifF (ptd_val (pd_isi fx (pad_cons (pd_var fx 0) (pad_cons (pd_globR fx Z.m_Alike (dat_cls Z "Alike")) pad_nil)) Z.b_isinstance (.one (.own Z.o_Amid) rfl Z.kt_Amid_Alike))) ?_
    exact pssd_rt (psd_ret (pd_fstr (.cons (pd_fmtS (pd_fld fx (pd_var fx 0) Z.c_Amid Z.na_Amid_name rfl) (sm z.1)) (.cons pd_str (.cons (pd_fmtS (pd_fld fx (pd_var fx 0) Z.c_Amid Z.na_Amid_one rfl) (sm z.2.1)) (.cons pd_str (.cons (pd_fmtS (pd_fld fx (pd_var fx 0) Z.c_Amid Z.na_Amid_other rfl) (sm z.2.2.1)) (.cons pd_str (.cons (pd_fmtS (pd_fld fx (pd_var fx 0) Z.c_Amid Z.na_Amid_way rfl) (sm2 z.2.2.2)) .nil))))))) hl))
theorem ok_written : FnOk P w K mg base (L2.CX P w) 2 (He.ga K "written") Z.d_written ["sheet"] (spD K PrWritten) := by
  refine fn_data Z.F_written sc_written (fun ds r ⟨n, x, _, _, e, _⟩ => (by rw [e]; rfl)) fun cdv A outer s H E fx ds r hp => ?_
  obtain ⟨ns, xs, hn, hx, rfl, rfl⟩ := hp
  refine ⟨.rt _, ?_, .rt⟩
  have sm : ∀ {n : Nat}, n ≤ 1000 → n ≤ sizeLine := fun h => Nat.le_trans h (by rw [sizeLine_eq]; decide)
  have hf := rows_fit hn hx
  have e1 : ("\n" : Str).length = 1 := by decide +kernel
  refine pssd_cons (psd_expr (pd_call fx (ok_check_sheet Z) Z.m_check_sheet Z.F_check_sheet.kp (bi_check_sheet Z) .nil (fun _ => .nil) (pad_cons (pd_var fx 0) pad_nil) ⟨ns, xs, rfl, rfl⟩)) ?_
  refine pssd_cons (psd_setLc fx 1 [("name", 2)] ns D.str (fun _ => true) (fun n => D.str (boxS n)) (pid_list fx .lst (PED.share (pd_meth0 fx (pd_var fx 0) Z.c_Sheet Z.M_Sheet_names (ok_Sheet_names Z) (bi_Sheet_names Z) .nil (fun _ => .nil) rfl ⟨ns, xs, rfl, rfl⟩))) (by rw [sizeLine_eq]; omega)
    (fun n hm => ⟨_, _, tgd_name fx.bk 2, fun _ h => h, ptsd_nil, fun _ => pd_fstr (.cons pd_str (.cons (pd_fmtS (pd_var fx.bk 2) (sm (hn.2 n hm))) .nil)) (Nat.le_trans (box_len (hn.2 n hm)) (by rw [sizeLine_eq]; decide))⟩) (fun _ => blkOk_by rfl)) ?_
  rw [List.filter_eq_self.mpr fun _ _ => rfl]
  refine pssd_cons (psd_extend fx 1 (ds := ns.map fun n => D.str (boxS n)) (es := xs.map fun x => D.str (rowS x)) (he := pd_lcA fx [("saying", 3)] xs Say.d (fun x => D.str (rowS x)) (pid_list fx .lst (PED.share (pd_meth0 fx (pd_var fx 0) Z.c_Sheet Z.M_Sheet_sayings (ok_Sheet_sayings Z) (bi_Sheet_sayings Z) .nil (fun _ => .nil) rfl ⟨ns, xs, rfl, rfl⟩))) (by rw [sizeLine_eq]; omega)
    (fun x hm => ⟨_, _, tgd_name fx.bk 3, fun _ h => h, pd_call fx.bk (ok_row_of Z) Z.m_row_of Z.F_row_of.kp (bi_row_of Z) .nil (fun _ => .nil) (pad_cons (pd_var fx.bk 3) pad_nil) ⟨x, hx.2 x hm, rfl, rfl⟩⟩)) (hl := by rw [List.length_map, List.length_map, sizeLine_eq]; omega)) ?_
  have er : (ns.map fun n => D.str (boxS n)) ++ (xs.map fun x => D.str (rowS x)) = (rowsS ns xs).map .str := by
    unfold rowsS
    rw [List.map_append, List.map_map, List.map_map]
    rfl
  refine pssd_freeze 1 (d := .lst ((ns.map fun n => D.str (boxS n)) ++ (xs.map fun x => D.str (rowS x)))) rfl ?_
  rw [er]
  exact pssd_rt (psd_ret (pd_join pd_str (pd_var fx 1) .lst (by
    have := sum_le hf.2
    rw [e1]
    have h22 := hf.1
    have : (rowsS ns xs).length * 4000 ≤ 22 * 4000 := Nat.mul_le_mul_right _ h22
    omega) fx))
end
end K9
set_option Elab.async false
set_option linter.all false
set_option maxRecDepth 100000
set_option maxHeartbeats 4000000
namespace K9
open PySem PySem.Spec L2 Wd
open PyProof.Rows hiding St
open TL PySem.NumText
/-! ### words, texts, numbers of the law; numbers of the program -/
def wordsS : Say → List Str
  | .at_ n p i => [n, p, Str.ofString (toString i)]
  | .bes n s o b => [n, s, "of", o, "by", Str.ofString (toString b)]
  | .alk n p o m => [n, p, "as", o, "times", Str.ofString (toString m)]
  | .amd n v o u => [n, "amid", o, u, v]
theorem tl_joinT (y : Str) (ps : List Str) : tl (Txt.join y ps) = joinL (tl y) (ps.map tl) := by
  rw [← tl_join]
  exact congrArg tl (StrLaws.glued_eq_join y ps)
theorem tl_cat : ∀ (xs : List Str) (a : Str), tl (catS a xs) = tl a ++ (xs.map tl).flatten
  | [], a => by simp [catS]
  | x :: xs, a => by
    show tl (catS (a ++ x) xs) = _
    rw [tl_cat xs (a ++ x), tl_append, List.map_cons, List.flatten_cons, List.append_assoc]
theorem join_words (x : Say) : Txt.join " " (wordsS x) = rowS x := by
  apply ext_tl
  unfold rowS
  rw [tl_joinT, tl_cat]
  have e0 : tl Str.empty = [] := rfl
  have e1 : tl " " = [32] := by decide +kernel
  have e2 : tl " of " = 32 :: (tl "of" ++ [32]) := by decide +kernel
  have e3 : tl " by " = 32 :: (tl "by" ++ [32]) := by decide +kernel
  have e4 : tl " as " = 32 :: (tl "as" ++ [32]) := by decide +kernel
  have e5 : tl " times " = 32 :: (tl "times" ++ [32]) := by decide +kernel
  have e6 : tl " amid " = 32 :: (tl "amid" ++ [32]) := by decide +kernel
  rw [e0, e1]
  cases x with
  | at_ n p i => simp [wordsS, rowL, joinL, e1]
  | bes n s o b => simp [wordsS, rowL, joinL, e1, e2, e3]
  | alk n p o m => simp [wordsS, rowL, joinL, e1, e4, e5]
  | amd n v o u => simp [wordsS, rowL, joinL, e1, e6]
theorem box_cat (n : Str) : ("box " : Str) ++ n = boxS n := rfl
theorem words_fit {x : Say} (h : x.ok) : ((wordsS x).map (·.length)).sum + (wordsS x).length * 1 ≤ 4020 := by
  have z := ok_nums h
  have e2 : ("of" : Str).length = 2 := by decide +kernel
  have e3 : ("by" : Str).length = 2 := by decide +kernel
  have e4 : ("as" : Str).length = 2 := by decide +kernel
  have e5 : ("times" : Str).length = 5 := by decide +kernel
  have e6 : ("amid" : Str).length = 4 := by decide +kernel
  cases x with
  | at_ n p i =>
    have l := int_len (i := i) ⟨z.2.2.1, z.2.2.2⟩
    have := z.1; have := z.2.1
    simp only [wordsS, List.map_cons, List.map_nil, List.sum_cons, List.sum_nil, List.length_cons, List.length_nil]
    omega
  | bes n s o b =>
    have l := int_len (i := b) ⟨z.2.2.2.1, z.2.2.2.2⟩
    have := z.1; have := z.2.1; have := z.2.2.1
    simp only [wordsS, List.map_cons, List.map_nil, List.sum_cons, List.sum_nil, List.length_cons, List.length_nil, e2, e3]
    omega
  | alk n p o m =>
    have l := int_len (i := m) ⟨z.2.2.2.1, z.2.2.2.2⟩
    have := z.1; have := z.2.1; have := z.2.2.1
    simp only [wordsS, List.map_cons, List.map_nil, List.sum_cons, List.sum_nil, List.length_cons, List.length_nil, e4, e5]
    omega
  | amd n v o u =>
    have := z.1; have := z.2.1; have := z.2.2.1; have := z.2.2.2
    simp only [wordsS, List.map_cons, List.map_nil, List.sum_cons, List.sum_nil, List.length_cons, List.length_nil, e6]
    omega
theorem pd_addD {ι : Type} {Xs : ι → Cx} {P : Program} {w : World} {K : PySem.W.Frag} {mg : Str → Option Value} {base : Heap} {N : List Str} {k : Nat} {γ : Gm} {d1 d2 : D} {rs : Wd.Slot} {a b : Expr} {pos : Pos} (fx : Fx Xs P w K mg base N k) (ha : PED K Xs a γ (.sh d1)) (hb : PED K Xs b γ (.sh d2)) (h : AddD d1 d2 rs) : PED K Xs (.BinOp a .Add b pos) γ rs :=
  pd_op (fun i => by have z := op_addU (X := Xs i); rw [fx.hK i] at z; exact z) ha hb (rd_add h)
def PrWords (ds : List D) (r : Wd.Slot) : Prop := ∃ x : Say, x.ok ∧ ds = [x.t] ∧ r = .ow (.lst ((wordsS x).map .str))
def PrText (ds : List D) (r : Wd.Slot) : Prop := ∃ (ns : List Str) (xs : List Say), (ns.length ≤ 6 ∧ ∀ n ∈ ns, n.length ≤ 1000) ∧ (xs.length ≤ 16 ∧ ∀ x ∈ xs, x.ok) ∧ ds = [.lst (ns.map .str), .lst (xs.map Say.t)] ∧ r = .sh (.str (textS ns xs))
def optI : Option Int → D
  | some i => .int i
  | none => .non
def PrNumP (ds : List D) (r : Wd.Slot) : Prop := ∃ x : Str, x.length + 2 ≤ sizeLine ∧ ds = [.str x] ∧ r = .sh (optI (numP x))
def PrNumL (ds : List D) (r : Wd.Slot) : Prop := ∃ (x : Str) (a b : Int), x.length + 2 ≤ sizeLine ∧ ds = [.str x, .int a, .int b] ∧ r = .sh (optI (numQ x a b))
theorem digits_lt : ∀ {cs : List Nat}, AllDigits cs → digitsVal cs < 10 ^ cs.length := fun {cs} h => by
  have : ∀ (cs : List Nat) (a : Nat), AllDigits cs → cs.foldl (fun acc c => acc * 10 + (c - 48)) a < (a + 1) * 10 ^ cs.length := fun cs => by
    induction cs with
    | nil => intro a _; simp
    | cons c r ih =>
      intro a h
      have hc := h.head
      refine Nat.lt_of_lt_of_le (ih (a * 10 + (c - 48)) h.tail) ?_
      rw [List.length_cons, Nat.pow_succ, Nat.mul_comm (10 ^ r.length) 10, ← Nat.mul_assoc]
      exact Nat.mul_le_mul_right _ (by omega)
  have z := this cs 0 h
  simpa [digitsVal] using z
theorem strip_len (cs : List Nat) : cs.length ≤ (stripM cs).length + 1 := by
  cases cs with
  | nil => exact Nat.zero_le _
  | cons c r => show _ ≤ (if c = 45 then r else c :: r).length + 1; split <;> simp
section
variable {P : Program} {w : World} {K : PySem.W.Frag} {mg : Str → Option Value} {base : Heap} (Z : Env K mg w)
include Z
theorem bi_l_words : Binds K Z.d_l_words ["_law_said"] [] := Z.F_l_words.bindsN fun _ _ _ _ _ _ us hl => match us, hl with | [_], _ => rfl
theorem bi_l_text : Binds K Z.d_l_text ["_law_names_here", "_law_said"] [] := Z.F_l_text.bindsN fun _ _ _ _ _ _ us hl => match us, hl with | [_, _], _ => rfl
theorem bi_l_number : Binds K Z.d_l_number ["_law_word", "_law_least", "_law_most"] [] := Z.F_l_number.bindsN fun _ _ _ _ _ _ us hl => match us, hl with | [_, _, _], _ => rfl
theorem bi_number_of : Binds K Z.d_number_of ["word"] [] := Z.F_number_of.bindsN fun _ _ _ _ _ _ us hl => match us, hl with | [_], _ => rfl
theorem ok_l_words : FnOk P w K mg base (L2.CX P w) 1 (He.ga K "_law_words") Z.d_l_words ["_law_said"] (spD K PrWords) := by
  refine fn_data Z.F_l_words sc_l_words (fun ds r ⟨x, _, e, _⟩ => (by rw [e]; rfl)) fun cdv A outer s H E fx ds r hp => ?_
  obtain ⟨x, hx, rfl, rfl⟩ := hp
  refine ⟨.rt _, ?_, .rt⟩
  have z := ok_nums hx
  cases x with
  | at_ n p i => exact pssd_ifT (ptd_is Z fx (pd_sub fx (pd_var fx 0) pd_int (.tup .tup rfl)) pd_str (by decide +kernel)) (pssd_rt (psd_ret (pd_lst (pad_cons (pd_sub fx (pd_var fx 0) pd_int (.tup .tup rfl)) (pad_cons (pd_sub fx (pd_var fx 0) pd_int (.tup .tup rfl)) (pad_cons (pd_strI fx (pad_cons (pd_sub fx (pd_var fx 0) pd_int (.tup .tup rfl)) pad_nil) Z.b_str (log_small z.2.2)) pad_nil)))))) fun _ z => nomatch z
  | bes n s o b =>
    refine pssd_ifF (ptd_is Z fx (pd_sub fx (pd_var fx 0) pd_int (.tup .tup rfl)) pd_str (by decide +kernel)) ?_
    exact pssd_ifT (ptd_is Z fx (pd_sub fx (pd_var fx 0) pd_int (.tup .tup rfl)) pd_str (by decide +kernel)) (pssd_rt (psd_ret (pd_lst (pad_cons (pd_sub fx (pd_var fx 0) pd_int (.tup .tup rfl)) (pad_cons (pd_sub fx (pd_var fx 0) pd_int (.tup .tup rfl)) (pad_cons pd_str (pad_cons (pd_sub fx (pd_var fx 0) pd_int (.tup .tup rfl)) (pad_cons pd_str (pad_cons (pd_strI fx (pad_cons (pd_sub fx (pd_var fx 0) pd_int (.tup .tup rfl)) pad_nil) Z.b_str (log_small z.2.2.2)) pad_nil))))))))) fun _ z => nomatch z
  | alk n p o m =>
    refine pssd_ifF (ptd_is Z fx (pd_sub fx (pd_var fx 0) pd_int (.tup .tup rfl)) pd_str (by decide +kernel)) ?_
    refine pssd_ifF (ptd_is Z fx (pd_sub fx (pd_var fx 0) pd_int (.tup .tup rfl)) pd_str (by decide +kernel)) ?_
    exact pssd_ifT (ptd_is Z fx (pd_sub fx (pd_var fx 0) pd_int (.tup .tup rfl)) pd_str (by decide +kernel)) (pssd_rt (psd_ret (pd_lst (pad_cons (pd_sub fx (pd_var fx 0) pd_int (.tup .tup rfl)) (pad_cons (pd_sub fx (pd_var fx 0) pd_int (.tup .tup rfl)) (pad_cons pd_str (pad_cons (pd_sub fx (pd_var fx 0) pd_int (.tup .tup rfl)) (pad_cons pd_str (pad_cons (pd_strI fx (pad_cons (pd_sub fx (pd_var fx 0) pd_int (.tup .tup rfl)) pad_nil) Z.b_str (log_small z.2.2.2)) pad_nil))))))))) fun _ z => nomatch z
  | amd n v o u =>
    refine pssd_ifF (ptd_is Z fx (pd_sub fx (pd_var fx 0) pd_int (.tup .tup rfl)) pd_str (by decide +kernel)) ?_
    refine pssd_ifF (ptd_is Z fx (pd_sub fx (pd_var fx 0) pd_int (.tup .tup rfl)) pd_str (by decide +kernel)) ?_
    refine pssd_ifF (ptd_is Z fx (pd_sub fx (pd_var fx 0) pd_int (.tup .tup rfl)) pd_str (by decide +kernel)) ?_
    exact pssd_rt (psd_ret (pd_lst (pad_cons (pd_sub fx (pd_var fx 0) pd_int (.tup .tup rfl)) (pad_cons pd_str (pad_cons (pd_sub fx (pd_var fx 0) pd_int (.tup .tup rfl)) (pad_cons (pd_sub fx (pd_var fx 0) pd_int (.tup .tup rfl)) (pad_cons (pd_sub fx (pd_var fx 0) pd_int (.tup .tup rfl)) pad_nil)))))))
theorem ok_l_text : FnOk P w K mg base (L2.CX P w) 2 (He.ga K "_law_text") Z.d_l_text ["_law_names_here", "_law_said"] (spD K PrText) := by
  refine fn_data Z.F_l_text sc_l_text (fun ds r ⟨n, x, _, _, e, _⟩ => (by rw [e]; rfl)) fun cdv A outer s H E fx ds r hp => ?_
  obtain ⟨ns, xs, hn, hx, rfl, rfl⟩ := hp
  refine ⟨.rt _, ?_, .rt⟩
  have hf := rows_fit hn hx
  have e1 : ("\n" : Str).length = 1 := by decide +kernel
  have e2 : (" " : Str).length = 1 := by decide +kernel
  have e4 : ("box " : Str).length = 4 := by decide +kernel
  have er : (ns.map fun n => D.str (("box " : Str) ++ n)) ++ (xs.map fun x => D.str (Txt.join " " (wordsS x))) = (rowsS ns xs).map .str := by
    unfold rowsS
    rw [List.map_append, List.map_map, List.map_map]
    congr 1
    exact List.map_congr_left fun x _ => congrArg D.str (join_words x)
  refine pssd_rt (psd_ret (pd_join (ys := rowsS ns xs) pd_str (PED.share (pd_addD fx
    (PED.share (pd_lcA fx [("_law_name", 2)] ns D.str (fun n => D.str (("box " : Str) ++ n)) (pid_list fx .lst (pd_var fx 0)) (by rw [sizeLine_eq]; omega) (fun n hm => ⟨_, _, tgd_name fx.bk 2, fun _ h => h, pd_addD fx.bk pd_str (pd_var fx.bk 2) (.str (by rw [e4, sizeLine_eq]; have := hn.2 n hm; omega))⟩)))
    (PED.share (pd_lcA fx [("_law_one", 3)] xs Say.t (fun x => D.str (Txt.join " " (wordsS x))) (pid_list fx .lst (pd_var fx 1)) (by rw [sizeLine_eq]; omega) (fun x hm => ⟨_, _, tgd_name fx.bk 3, fun _ h => h, pd_join pd_str (PED.share (pd_call fx.bk (ok_l_words Z) Z.m_l_words Z.F_l_words.kp (bi_l_words Z) .nil (fun _ => .nil) (pad_cons (pd_var fx.bk 3) pad_nil) ⟨x, hx.2 x hm, rfl, rfl⟩)) .lst (by have := words_fit (hx.2 x hm); rw [e2]; omega) fx.bk⟩)))
    (.lst (by rw [List.length_map, List.length_map, sizeLine_eq]; omega)))) (by rw [← er]; exact .lst) (by
    have := sum_le hf.2
    rw [e1]
    have h22 := hf.1
    have : (rowsS ns xs).length * 4000 ≤ 22 * 4000 := Nat.mul_le_mul_right _ h22
    omega) fx))
end
end K9
set_option Elab.async false
set_option linter.all false
set_option maxRecDepth 100000
set_option maxHeartbeats 4000000
namespace K9
open PySem PySem.Spec L2 Wd
open PyProof.Rows hiding St
open TL PySem.NumText
theorem minS_eq : minS = ("-" : Str) := rfl
theorem digS_eq : digS = ("0123456789" : Str) := rfl
theorem strEq {x y : Str} : decide (V.str x = V.str y) = decide (x = y) := decide_eq_decide.mpr ⟨fun z => by injection z, fun z => by rw [z]⟩
theorem val_small {w : Str} {m : Nat} (h : AllDigits (stripM (tl w))) (hl : (stripM (tl w)).length ≤ m) : (valW w).natAbs < 10 ^ m := by
  have z := digits_lt h
  have z2 : 10 ^ (stripM (tl w)).length ≤ 10 ^ m := Nat.pow_le_pow_right (by decide) hl
  unfold valW
  split
  · rw [Int.natAbs_neg]; omega
  · omega
theorem log_lt {i : Int} (h : i.natAbs < 10 ^ 31) : i.natAbs.log2 < 1920 := by
  by_cases h0 : i.natAbs = 0
  · rw [h0]; decide
  · exact (Nat.log2_lt h0).mpr (Nat.lt_trans h (by decide +kernel))
theorem rmp_len (w : Str) : (Txt.removeprefix w minS).length = (stripM (tl w)).length := by rw [len_tl, tl_rmp]
theorem fig_len (w : Str) : (figL w).length = (stripM (tl w)).length := by rw [len_tl, tl_figL]
theorem strip_le (cs : List Nat) : (stripM cs).length ≤ cs.length := by
  cases cs with
  | nil => exact Nat.le_refl _
  | cons c r => show (if c = 45 then r else c :: r).length ≤ _; split <;> simp
section
variable {P : Program} {w : World} {K : PySem.W.Frag} {mg : Str → Option Value} {base : Heap} (Z : Env K mg w)
include Z
theorem ok_number_of : FnOk P w K mg base (L2.CX P w) 1 (He.ga K "number_of") Z.d_number_of ["word"] (spD K PrNumP) := by
  refine fn_data Z.F_number_of sc_number_of (fun ds r ⟨x, _, e, _⟩ => (by rw [e]; rfl)) fun cdv A outer s H E fx ds r hp => ?_
  obtain ⟨x, hx, rfl, rfl⟩ := hp
  refine ⟨.rt _, ?_, .rt⟩
  obtain ⟨t1, g1⟩ := Z.i_MOST_DIGITS
  obtain ⟨t2, g2⟩ := Z.i_DIGITS
  have hxl : x.length ≤ sizeLine := by omega
  have hd : (Txt.removeprefix x minS).length ≤ x.length := by rw [rmp_len, len_tl]; exact strip_le _
  refine pssd_cons (psd_set fx 1 (pd_rmp (y := minS) (pd_var fx 0) pd_str hxl)) ?_
  refine pssd_ifret (PWD.t (pwd_or (ptd_not (ptd_within pd_int (pd_blt fx (fun _ => call_lenU) Z.b_len (pad_cons (pd_var fx 1) pad_nil) (rc_len (.str (by omega)))) (pd_globI fx g1))) fun _ => pwd_or1 (ptd_not (ptd_val (pd_allC fx [("digit", 2)] (Txt.removeprefix x minS).cps.toList (fun c => D.str ⟨#[c]⟩) _ Z.b_all (pid_str (pd_var fx 1)) (by rw [← len_tl, sizeLine_eq]; rw [sizeLine_eq] at hx; omega) fun c hc => ⟨_, _, tgd_name fx.bk 2, fun _ h => h, pd_in fx.bk (pd_var fx.bk 2) (pd_globS fx.bk g2) .sign⟩))))) (fun h => ?_) fun h => ?_
  · have e : numP x = none := by
      unfold numP
      refine if_neg fun z => ?_
      have z1 : (decide ((1 : Int) ≤ ((Txt.removeprefix x minS).length : Int)) && decide (((Txt.removeprefix x minS).length : Int) ≤ 4)) = true := by
        rw [decide_eq_true (by have := z.1.1; omega), decide_eq_true (by have := z.1.2; omega)]; rfl
      have z2 : ((Txt.removeprefix x minS).cps.toList.all fun c => decide (c ∈ ("0123456789" : Str).cps.toList)) = true := z.2
      rw [z1, z2] at h
      cases h
    rw [e]
    exact pssd_rt (psd_ret pd_non)
  · obtain ⟨h1, h2⟩ := Bool.or_eq_false_iff.mp h
    obtain ⟨a1, a2⟩ := Bool.and_eq_true_iff.mp (by simpa using h1 : (decide ((1 : Int) ≤ ((Txt.removeprefix x minS).length : Int)) && decide (((Txt.removeprefix x minS).length : Int) ≤ 4)) = true)
    have b1 : 1 ≤ (Txt.removeprefix x minS).length := by have := of_decide_eq_true a1; omega
    have b2 : (Txt.removeprefix x minS).length ≤ 4 := by have := of_decide_eq_true a2; omega
    have b3 : allDig (Txt.removeprefix x minS) = true := by
      have : ((Txt.removeprefix x minS).cps.toList.all fun c => decide (c ∈ ("0123456789" : Str).cps.toList)) = true := by simpa using h2
      exact this
    have hD : AllDigits (stripM (tl x)) := by rw [← tl_rmp]; exact allDig_iff.mp b3
    have hn : stripM (tl x) ≠ [] := fun z => by rw [rmp_len, z] at b1; exact absurd b1 (by decide)
    rw [rmp_len] at b1 b2
    have hl5 : x.length ≤ 5 := by rw [len_tl]; have := strip_len (tl x); omega
    have vs : (valW x).natAbs < 10 ^ 4 := val_small hD b2
    refine pssd_cons (psd_set fx 3 (pd_intS fx (pad_cons (pd_var fx 0) pad_nil) Z.b_int (val_of hD hn (by omega)) (by omega))) ?_
    have e : numP x = if Str.ofString (toString (valW x)) = x then some (valW x) else none := by
      unfold numP
      exact if_pos ⟨⟨by rw [rmp_len]; exact b1, by rw [rmp_len]; exact b2⟩, b3⟩
    by_cases q : Str.ofString (toString (valW x)) = x
    · rw [e, if_pos q]
      exact pssd_rt (psd_ret (pd_if (tv := true) (ptd_cast (strEq.trans (decide_eq_true q)) (ptd_eq fx (pd_strI fx (pad_cons (pd_var fx 3) pad_nil) Z.b_str (log_lt (Nat.lt_trans vs (by decide +kernel)))) (pd_var fx 0) (.flat rfl rfl rfl))) (fun _ => pd_var fx 3) fun z => nomatch z))
    · rw [e, if_neg q]
      exact pssd_rt (psd_ret (pd_if (tv := false) (ptd_cast (strEq.trans (decide_eq_false q)) (ptd_eq fx (pd_strI fx (pad_cons (pd_var fx 3) pad_nil) Z.b_str (log_lt (Nat.lt_trans vs (by decide +kernel)))) (pd_var fx 0) (.flat rfl rfl rfl))) (fun z => nomatch z) fun _ => pd_non))
theorem ok_l_number : FnOk P w K mg base (L2.CX P w) 1 (He.ga K "_law_number") Z.d_l_number ["_law_word", "_law_least", "_law_most"] (spD K PrNumL) := by
  refine fn_data Z.F_l_number sc_l_number (fun ds r ⟨x, _, _, _, e, _⟩ => (by rw [e]; rfl)) fun cdv A outer s H E fx ds r hp => ?_
  obtain ⟨x, a, b, hx, rfl, rfl⟩ := hp
  refine ⟨.rt _, ?_, .rt⟩
  have hxl : x.length ≤ sizeLine := by omega
  have hd : (figL x).length ≤ x.length := by rw [fig_len, len_tl]; exact strip_le _
  refine pssd_cons (psd_set (rs := .sh (.str (figL x))) fx 3 (by
    by_cases q : cutS x none (some 1) = minS
    · have e : figL x = cutS x (some 1) none := if_pos q
      rw [e]
      exact pd_if (tv := true) (ptd_cast (strEq.trans (decide_eq_true q)) (ptd_eq fx (pd_sliceS (pd_var fx 0) pod_none (pod_some pd_int) hxl) pd_str (.flat rfl rfl rfl))) (fun _ => pd_sliceS (pd_var fx 0) (pod_some pd_int) pod_none hxl) fun z => nomatch z
    · have e : figL x = x := if_neg q
      rw [e]
      exact pd_if (tv := false) (ptd_cast (strEq.trans (decide_eq_false q)) (ptd_eq fx (pd_sliceS (pd_var fx 0) pod_none (pod_some pd_int) hxl) pd_str (.flat rfl rfl rfl))) (fun z => nomatch z) fun _ => pd_var fx 0)) ?_
  refine pssd_ifret (PWD.t (pwd_or (ptd_eq fx (pd_var fx 3) pd_str (.flat rfl rfl rfl)) fun _ => pwd_or (ptd_cmp (fun _ => op_gt) (nomark _) (pd_blt fx (fun _ => call_lenU) Z.b_len (pad_cons (pd_var fx 3) pad_nil) (rc_len (.str (by omega)))) pd_int rd_gt) fun _ => pwd_or1 (ptd_not (ptd_val (pd_allC fx [("_law_sign", 4)] (figL x).cps.toList (fun c => D.str ⟨#[c]⟩) _ Z.b_all (pid_str (pd_var fx 3)) (by rw [← len_tl, sizeLine_eq]; rw [sizeLine_eq] at hx; omega) fun c hc => ⟨_, _, tgd_name fx.bk 4, fun _ h => h, pd_in fx.bk (pd_var fx.bk 4) pd_str .sign⟩))))) (fun h => ?_) fun h => ?_
  · have e : numQ x a b = none := by
      unfold numQ
      refine if_pos ?_
      rcases Bool.or_eq_true_iff.mp h with h | h
      · left; left
        have z := of_decide_eq_true h
        injection z with z
      · rcases Bool.or_eq_true_iff.mp h with h | h
        · left; right
          have z := of_decide_eq_true h
          omega
        · right
          have z : ((figL x).cps.toList.all fun c => decide (c ∈ ("0123456789" : Str).cps.toList)) = false := by simpa using h
          exact z
    rw [e]
    exact pssd_rt (psd_ret pd_non)
  · obtain ⟨h1, h23⟩ := Bool.or_eq_false_iff.mp h
    obtain ⟨h2, h3⟩ := Bool.or_eq_false_iff.mp h23
    have b1 : figL x ≠ Str.empty := fun z => by
      have y := of_decide_eq_false h1
      exact y (by rw [z]; rfl)
    have b2 : (figL x).length ≤ 30 := by
      have y := of_decide_eq_false h2
      omega
    have b3 : allDig (figL x) = true := by
      have : ((figL x).cps.toList.all fun c => decide (c ∈ ("0123456789" : Str).cps.toList)) = true := by simpa using h3
      exact this
    have hD : AllDigits (stripM (tl x)) := by rw [← tl_figL]; exact allDig_iff.mp b3
    have hn : stripM (tl x) ≠ [] := fun z => b1 (ext_tl (by rw [tl_figL, z]; rfl))
    have hl31 : x.length ≤ 31 := by rw [fig_len] at b2; rw [len_tl]; have := strip_len (tl x); omega
    obtain ⟨c, cs, hcs⟩ : ∃ c cs, tl (figL x) = c :: cs := by
      cases hh : tl (figL x) with
      | nil => exact absurd (by rw [tl_figL] at hh; exact hh) hn
      | cons c cs => exact ⟨c, cs, rfl⟩
    have eN : numQ x a b = if (tl (figL x)).head? = some 48 ∧ tl x ≠ [48] then none else if a ≤ valW x ∧ valW x ≤ b then some (valW x) else none := by
      unfold numQ
      exact if_neg fun z => by
        rcases z with (z | z) | z
        · exact b1 z
        · omega
        · rw [b3] at z; cases z
    have e0 : ("0" : Str) = ⟨#[48]⟩ := by decide +kernel
    have z1 : decide (V.str ⟨#[c]⟩ = V.str "0") = decide ((tl (figL x)).head? = some 48) := by
      rw [hcs, e0]
      refine decide_eq_decide.mpr ⟨fun z => ?_, fun z => ?_⟩
      · injection z with z
        injection z with z
        have z2 : [c] = [48] := congrArg Array.toList z
        injection z2 with z2
        rw [z2]; rfl
      · have z2 : c = 48 := Option.some.inj z
        rw [z2]
    have z2 : decide (V.str x = V.str "0") = decide (tl x = [48]) := by
      rw [strEq, e0]
      exact decide_eq_decide.mpr ⟨fun z => by rw [z], fun z => ext_tl z⟩
    refine pssd_ifret (tv := decide ((tl (figL x)).head? = some 48) && !decide (tl x = [48])) (PWD.t (pwd_and (ptd_cast z1 (ptd_eq fx (pd_sub fx (pd_var fx 3) pd_int (.str (by omega) (atI_nat (j := 0) (x := c) (by rw [show (figL x).cps.toList = c :: cs from hcs]; rfl)))) pd_str (.flat rfl rfl rfl))) fun _ => pwd_and1 (ptd_cast (by rw [z2]) (ptd_ne fx (pd_var fx 0) pd_str (.flat rfl rfl rfl))))) (fun h => ?_) fun h => ?_
    · obtain ⟨q1, q2⟩ := Bool.and_eq_true_iff.mp h
      rw [eN, if_pos ⟨of_decide_eq_true q1, fun z => by rw [z] at q2; cases q2⟩]
      exact pssd_rt (psd_ret pd_non)
    · have nq : ¬((tl (figL x)).head? = some 48 ∧ tl x ≠ [48]) := fun ⟨q1, q2⟩ => by
        rw [decide_eq_true q1, decide_eq_false q2] at h
        cases h
      rw [eN, if_neg nq]
      have vi := val_of hD hn (by omega)
      by_cases q : a ≤ valW x ∧ valW x ≤ b
      · rw [if_pos q]
        exact pssd_rt (psd_ret (pd_if (tv := true) (ptd_cast (by rw [decide_eq_true q.1, decide_eq_true q.2]; rfl) (ptd_within (pd_var fx 1) (pd_intS fx (pad_cons (pd_var fx 0) pad_nil) Z.b_int vi (by omega)) (pd_var fx 2))) (fun _ => pd_intS fx (pad_cons (pd_var fx 0) pad_nil) Z.b_int vi (by omega)) fun z => nomatch z))
      · rw [if_neg q]
        exact pssd_rt (psd_ret (pd_if (tv := false) (ptd_cast (by
          by_cases q1 : a ≤ valW x
          · rw [decide_eq_true q1, decide_eq_false (fun y => q ⟨q1, y⟩)]; rfl
          · rw [decide_eq_false q1]; rfl) (ptd_within (pd_var fx 1) (pd_intS fx (pad_cons (pd_var fx 0) pad_nil) Z.b_int vi (by omega)) (pd_var fx 2))) (fun z => nomatch z) fun _ => pd_non))
end
end K9
set_option Elab.async false
set_option linter.all false
set_option maxRecDepth 100000
set_option maxHeartbeats 4000000
namespace K9
open PySem PySem.Spec L2 Wd
open PyProof.Rows hiding St
/-! ### the saying that words are -/
def sayP : List Str → Option Say
  | [a, p, v] => (numP v).bind fun i => if nameOk a = true ∧ p ∈ partL ∧ -1000 ≤ i ∧ i ≤ 1000 then some (.at_ a p i) else none
  | [a, m, b, c, y] => if m = "amid" then (if unlikeOk [a, b, c] = true ∧ y ∈ wayL then some (.amd a y b c) else none) else none
  | [a, s, o, b, y, v] => if o = "of" ∧ y = "by" then (numP v).bind fun i => if unlikeOk [a, b] = true ∧ s ∈ sideL ∧ -1000 ≤ i ∧ i ≤ 1000 then some (.bes a s b i) else none
      else if o = "as" ∧ y = "times" then (numP v).bind fun i => if unlikeOk [a, b] = true ∧ s ∈ partL ∧ 1 ≤ i ∧ i ≤ 9 then some (.alk a s b i) else none else none
  | _ => none
def PrSayP (ds : List D) (r : Wd.Slot) : Prop := ∃ (ws : List Str) (x : Say), (ws.length ≤ 2000 ∧ ∀ y ∈ ws, y.length ≤ 1000) ∧ sayP ws = some x ∧ ds = [.lst (ws.map .str)] ∧ r = .ow x.d
def PrSayX (ds : List D) (c : Str) : Prop := ∃ ws : List Str, (ws.length ≤ 2000 ∧ ∀ y ∈ ws, y.length ≤ 1000) ∧ sayP ws = none ∧ ds = [.lst (ws.map .str)] ∧ c = "BadSaying"
theorem unlike1b (a : Str) : unlikeOk [a] = nameOk a := by
  cases h : nameOk a with
  | true => exact unlike1 h
  | false => unfold unlikeOk; simp [h]
theorem unlD (l : List Str) : K9X.unlikeD (l.map .str) = unlikeOk l := by
  unfold K9X.unlikeD unlikeOk
  rw [List.all_map, List.map_map, List.length_map]
  have e : (l.map (K9X.strOf ∘ D.str)) = l := by
    rw [show (K9X.strOf ∘ D.str) = id from rfl, List.map_id]
  rw [e]
  rfl
theorem optI_ty (o : Option Int) : (tyN (optI o)).isSome = true := by cases o <;> rfl
theorem numD_opt (o : Option Int) (a b : Int) : K9X.numD (optI o) a b = (o.bind fun i => if a ≤ i ∧ i ≤ b then some i else none).isSome := by
  cases o with
  | none => rfl
  | some i =>
    show (decide (a ≤ i) && decide (i ≤ b)) = (if a ≤ i ∧ i ≤ b then some i else none : Option Int).isSome
    by_cases h : a ≤ i ∧ i ≤ b
    · rw [if_pos h, decide_eq_true h.1, decide_eq_true h.2]; rfl
    · rw [if_neg h]
      by_cases h1 : a ≤ i
      · rw [decide_eq_true h1, decide_eq_false fun z => h ⟨h1, z⟩]; rfl
      · rw [decide_eq_false h1]; rfl
theorem plS {x : Str} (h : x.length ≤ 1000) : K9X.plainD (.str x) := ⟨rfl, fun y e => by injection e with e; rw [← e]; exact h⟩
theorem badW (x : Str) (l : List Str) : K9X.badWord (.str x) l = decide (x ∉ l) := rfl
theorem sayAt {a p : Str} {o : Option Int} : ((o.bind fun i => if nameOk a = true ∧ p ∈ partL ∧ -1000 ≤ i ∧ i ≤ 1000 then some (Say.at_ a p i) else none) = none) ↔ (K9X.unlikeD [.str a] && (!K9X.badWord (.str p) partL && K9X.numD (optI o) (-1000) 1000)) = false := by
  rw [show ([D.str a] : List D) = [a].map .str from rfl, unlD, unlike1b, badW, numD_opt]
  cases o with
  | none => simp
  | some i =>
    simp only [Option.bind_some, decide_not, Bool.not_not]
    by_cases q : nameOk a = true ∧ p ∈ partL ∧ -1000 ≤ i ∧ i ≤ 1000
    · obtain ⟨q1, q2, q3, q4⟩ := q
      simp [q1, q2, q3, q4]
    · rw [if_neg q]
      refine ⟨fun _ => ?_, fun _ => rfl⟩
      cases h1 : nameOk a with
      | false => rfl
      | true =>
        by_cases h2 : p ∈ partL
        · rw [decide_eq_true h2, if_neg fun z => q ⟨h1, h2, z.1, z.2⟩]; rfl
        · rw [decide_eq_false h2]; rfl
theorem saySp {l : List Str} {s : Str} {o : Option Int} {L : List Str} {u v : Int} {f : Int → Say} : ((o.bind fun i => if unlikeOk l = true ∧ s ∈ L ∧ u ≤ i ∧ i ≤ v then some (f i) else none) = none) ↔ (K9X.unlikeD (l.map .str) && (!K9X.badWord (.str s) L && K9X.numD (optI o) u v)) = false := by
  rw [unlD, badW, numD_opt]
  cases o with
  | none => simp
  | some i =>
    simp only [Option.bind_some, decide_not, Bool.not_not]
    by_cases q : unlikeOk l = true ∧ s ∈ L ∧ u ≤ i ∧ i ≤ v
    · obtain ⟨q1, q2, q3, q4⟩ := q
      simp [q1, q2, q3, q4]
    · rw [if_neg q]
      refine ⟨fun _ => ?_, fun _ => rfl⟩
      cases h1 : unlikeOk l with
      | false => rfl
      | true =>
        by_cases h2 : s ∈ L
        · rw [decide_eq_true h2, if_neg fun z => q ⟨h1, h2, z.1, z.2⟩]; rfl
        · rw [decide_eq_false h2]; rfl
section
variable {P : Program} {w : World} {K : PySem.W.Frag} {mg : Str → Option Value} {base : Heap} (Z : Env K mg w)
include Z
theorem bi_saying_of : Binds K Z.d_saying_of ["words"] [] := Z.F_saying_of.bindsN fun _ _ _ _ _ _ us hl => match us, hl with | [_], _ => rfl
theorem ok_saying_of : FnOk P w K mg base (L2.CX P w) 6 (He.ga K "saying_of") Z.d_saying_of ["words"] (spD K PrSayP) := by
  refine fn_data Z.F_saying_of sc_saying_of (fun ds r ⟨ws, _, _, _, e, _⟩ => (by rw [e]; rfl)) fun cdv A outer s H E fx ds r hp => ?_
  obtain ⟨ws, x, ⟨hl, hy⟩, hx, rfl, rfl⟩ := hp
  refine ⟨.rt _, ?_, .rt⟩
  match ws, hl, hy, hx with
  | [a, p, v], hl, hy, hx =>
    have la : a.length ≤ 1000 := hy a (by simp)
    have lv : v.length ≤ 1000 := hy v (by simp)
    have hx : ((numP v).bind fun i => if nameOk a = true ∧ p ∈ partL ∧ -1000 ≤ i ∧ i ≤ 1000 then some (Say.at_ a p i) else none) = some x := hx
    cases hv : numP v with
    | none => rw [hv] at hx; cases hx
    | some i =>
      rw [hv] at hx
      have hx : (if nameOk a = true ∧ p ∈ partL ∧ -1000 ≤ i ∧ i ≤ 1000 then some (Say.at_ a p i) else none) = some x := hx
      by_cases q : nameOk a = true ∧ p ∈ partL ∧ -1000 ≤ i ∧ i ≤ 1000
      · rw [if_pos q] at hx
        cases hx
        exact pssd_ifT (ptd_cast (decV.trans rfl) (ptd_eq fx (pd_blt fx (fun _ => call_lenU) Z.b_len (pad_cons (pd_var fx 0) pad_nil) (rc_len (.lst .lst))) pd_int (.flat rfl rfl rfl))) (pssd_rt (psd_ret (pd_make fx Z.M_At_init (ok_At_init Z) Z.m_At (bi_At_init Z) .nil (fun _ => .nil) (pad_cons (pd_sub fx (pd_var fx 0) pd_int (.lst .lst rfl)) (pad_cons (pd_sub fx (pd_var fx 0) pd_int (.lst .lst rfl)) (pad_cons (pd_cast (r := .sh (optI (numP v))) (by rw [hv]; rfl) (pd_call fx (ok_number_of Z) Z.m_number_of Z.F_number_of.kp (bi_number_of Z) .nil (fun _ => .nil) (pad_cons (pd_sub fx (pd_var fx 0) pd_int (.lst .lst rfl)) pad_nil) ⟨v, by rw [sizeLine_eq]; omega, rfl, rfl⟩)) pad_nil))) ⟨a, p, i, ⟨la, q.1, q.2.1, q.2.2.1, q.2.2.2⟩, rfl, rfl⟩))) fun _ z => nomatch z
      · rw [if_neg q] at hx; cases hx
  | [a, m, b, c, y], hl, hy, hx =>
    have la : a.length ≤ 1000 := hy a (by simp)
    have lb : b.length ≤ 1000 := hy b (by simp)
    have lc : c.length ≤ 1000 := hy c (by simp)
    have hx : (if m = "amid" then (if unlikeOk [a, b, c] = true ∧ y ∈ wayL then some (Say.amd a y b c) else none) else none) = some x := hx
    by_cases q0 : m = "amid"
    · rw [if_pos q0] at hx
      by_cases q : unlikeOk [a, b, c] = true ∧ y ∈ wayL
      · rw [if_pos q] at hx
        cases hx
        exact pssd_ifF (ptd_cast (decV.trans rfl) (ptd_eq fx (pd_blt fx (fun _ => call_lenU) Z.b_len (pad_cons (pd_var fx 0) pad_nil) (rc_len (.lst .lst))) pd_int (.flat rfl rfl rfl))) (pssd_ifT (PWD.t (pwd_and (tv := true) (tw := true) (ptd_cast (decV.trans rfl) (ptd_eq fx (pd_blt fx (fun _ => call_lenU) Z.b_len (pad_cons (pd_var fx 0) pad_nil) (rc_len (.lst .lst))) pd_int (.flat rfl rfl rfl))) fun _ => pwd_and1 (ptd_cast (strEq.trans (decide_eq_true q0)) (ptd_eq fx (pd_sub fx (pd_var fx 0) pd_int (.lst .lst rfl)) pd_str (.flat rfl rfl rfl))))) (pssd_rt (psd_ret (pd_make fx Z.M_Amid_init (ok_Amid_init Z) Z.m_Amid (bi_Amid_init Z) .nil (fun _ => .nil) (pad_cons (pd_sub fx (pd_var fx 0) pd_int (.lst .lst rfl)) (pad_cons (pd_sub fx (pd_var fx 0) pd_int (.lst .lst rfl)) (pad_cons (pd_sub fx (pd_var fx 0) pd_int (.lst .lst rfl)) (pad_cons (pd_sub fx (pd_var fx 0) pd_int (.lst .lst rfl)) pad_nil)))) ⟨a, y, b, c, ⟨⟨la, lb, lc⟩, q.1, q.2⟩, rfl, rfl⟩))) fun _ z => nomatch z)
      · rw [if_neg q] at hx; cases hx
    · rw [if_neg q0] at hx; cases hx
  | [a, s, o, b, y, v], hl, hy, hx =>
    have la : a.length ≤ 1000 := hy a (by simp)
    have lb : b.length ≤ 1000 := hy b (by simp)
    have lv : v.length ≤ 1000 := hy v (by simp)
    have hx : (if o = "of" ∧ y = "by" then (numP v).bind fun i => if unlikeOk [a, b] = true ∧ s ∈ sideL ∧ -1000 ≤ i ∧ i ≤ 1000 then some (Say.bes a s b i) else none
      else if o = "as" ∧ y = "times" then (numP v).bind fun i => if unlikeOk [a, b] = true ∧ s ∈ partL ∧ 1 ≤ i ∧ i ≤ 9 then some (Say.alk a s b i) else none else none) = some x := hx
    by_cases q1 : o = "of" ∧ y = "by"
    · rw [if_pos q1] at hx
      cases hv : numP v with
      | none => rw [hv] at hx; cases hx
      | some i =>
        rw [hv] at hx
        have hx : (if unlikeOk [a, b] = true ∧ s ∈ sideL ∧ -1000 ≤ i ∧ i ≤ 1000 then some (Say.bes a s b i) else none) = some x := hx
        by_cases q : unlikeOk [a, b] = true ∧ s ∈ sideL ∧ -1000 ≤ i ∧ i ≤ 1000
        · rw [if_pos q] at hx
          cases hx
          exact pssd_ifF (ptd_cast (decV.trans rfl) (ptd_eq fx (pd_blt fx (fun _ => call_lenU) Z.b_len (pad_cons (pd_var fx 0) pad_nil) (rc_len (.lst .lst))) pd_int (.flat rfl rfl rfl))) (pssd_ifF (PWD.t (pwd_and (tv := false) (tw := false) (ptd_cast (decV.trans rfl) (ptd_eq fx (pd_blt fx (fun _ => call_lenU) Z.b_len (pad_cons (pd_var fx 0) pad_nil) (rc_len (.lst .lst))) pd_int (.flat rfl rfl rfl))) fun z => nomatch z)) (pssd_ifT (PWD.t (pwd_and (tv := true) (tw := true) (ptd_cast (decV.trans rfl) (ptd_eq fx (pd_blt fx (fun _ => call_lenU) Z.b_len (pad_cons (pd_var fx 0) pad_nil) (rc_len (.lst .lst))) pd_int (.flat rfl rfl rfl))) fun _ => pwd_and (tv := true) (tw := true) (ptd_cast (strEq.trans (decide_eq_true q1.1)) (ptd_eq fx (pd_sub fx (pd_var fx 0) pd_int (.lst .lst rfl)) pd_str (.flat rfl rfl rfl))) fun _ => pwd_and1 (ptd_cast (strEq.trans (decide_eq_true q1.2)) (ptd_eq fx (pd_sub fx (pd_var fx 0) pd_int (.lst .lst rfl)) pd_str (.flat rfl rfl rfl))))) (pssd_rt (psd_ret (pd_make fx Z.M_Beside_init (ok_Beside_init Z) Z.m_Beside (bi_Beside_init Z) .nil (fun _ => .nil) (pad_cons (pd_sub fx (pd_var fx 0) pd_int (.lst .lst rfl)) (pad_cons (pd_sub fx (pd_var fx 0) pd_int (.lst .lst rfl)) (pad_cons (pd_sub fx (pd_var fx 0) pd_int (.lst .lst rfl)) (pad_cons (pd_cast (r := .sh (optI (numP v))) (by rw [hv]; rfl) (pd_call fx (ok_number_of Z) Z.m_number_of Z.F_number_of.kp (bi_number_of Z) .nil (fun _ => .nil) (pad_cons (pd_sub fx (pd_var fx 0) pd_int (.lst .lst rfl)) pad_nil) ⟨v, by rw [sizeLine_eq]; omega, rfl, rfl⟩)) pad_nil)))) ⟨a, s, b, i, ⟨⟨la, lb⟩, q.1, q.2.1, q.2.2.1, q.2.2.2⟩, rfl, rfl⟩))) fun _ z => nomatch z))
        · rw [if_neg q] at hx; cases hx
    · rw [if_neg q1] at hx
      by_cases q2 : o = "as" ∧ y = "times"
      · rw [if_pos q2] at hx
        cases hv : numP v with
        | none => rw [hv] at hx; cases hx
        | some i =>
          rw [hv] at hx
          have hx : (if unlikeOk [a, b] = true ∧ s ∈ partL ∧ 1 ≤ i ∧ i ≤ 9 then some (Say.alk a s b i) else none) = some x := hx
          by_cases q : unlikeOk [a, b] = true ∧ s ∈ partL ∧ 1 ≤ i ∧ i ≤ 9
          · rw [if_pos q] at hx
            cases hx
            have t1 := q1
            exact pssd_ifF (ptd_cast (decV.trans rfl) (ptd_eq fx (pd_blt fx (fun _ => call_lenU) Z.b_len (pad_cons (pd_var fx 0) pad_nil) (rc_len (.lst .lst))) pd_int (.flat rfl rfl rfl))) (pssd_ifF (PWD.t (pwd_and (tv := false) (tw := false) (ptd_cast (decV.trans rfl) (ptd_eq fx (pd_blt fx (fun _ => call_lenU) Z.b_len (pad_cons (pd_var fx 0) pad_nil) (rc_len (.lst .lst))) pd_int (.flat rfl rfl rfl))) fun z => nomatch z)) (pssd_ifF (show PTD K _ _ _ false from by
      by_cases r1 : o = "of"
      · exact PWD.t (pwd_and (tv := true) (tw := false) (ptd_cast (decV.trans rfl) (ptd_eq fx (pd_blt fx (fun _ => call_lenU) Z.b_len (pad_cons (pd_var fx 0) pad_nil) (rc_len (.lst .lst))) pd_int (.flat rfl rfl rfl))) fun _ => pwd_and (tv := true) (tw := false) (ptd_cast (strEq.trans (decide_eq_true r1)) (ptd_eq fx (pd_sub fx (pd_var fx 0) pd_int (.lst .lst rfl)) pd_str (.flat rfl rfl rfl))) fun _ => pwd_and1 (ptd_cast (strEq.trans (decide_eq_false fun z => q1 ⟨r1, z⟩)) (ptd_eq fx (pd_sub fx (pd_var fx 0) pd_int (.lst .lst rfl)) pd_str (.flat rfl rfl rfl))))
      · exact PWD.t (pwd_and (tv := true) (tw := false) (ptd_cast (decV.trans rfl) (ptd_eq fx (pd_blt fx (fun _ => call_lenU) Z.b_len (pad_cons (pd_var fx 0) pad_nil) (rc_len (.lst .lst))) pd_int (.flat rfl rfl rfl))) fun _ => pwd_and (tv := false) (tw := false) (ptd_cast (strEq.trans (decide_eq_false r1)) (ptd_eq fx (pd_sub fx (pd_var fx 0) pd_int (.lst .lst rfl)) pd_str (.flat rfl rfl rfl))) fun z => nomatch z)) (pssd_ifT (PWD.t (pwd_and (tv := true) (tw := true) (ptd_cast (decV.trans rfl) (ptd_eq fx (pd_blt fx (fun _ => call_lenU) Z.b_len (pad_cons (pd_var fx 0) pad_nil) (rc_len (.lst .lst))) pd_int (.flat rfl rfl rfl))) fun _ => pwd_and (tv := true) (tw := true) (ptd_cast (strEq.trans (decide_eq_true q2.1)) (ptd_eq fx (pd_sub fx (pd_var fx 0) pd_int (.lst .lst rfl)) pd_str (.flat rfl rfl rfl))) fun _ => pwd_and1 (ptd_cast (strEq.trans (decide_eq_true q2.2)) (ptd_eq fx (pd_sub fx (pd_var fx 0) pd_int (.lst .lst rfl)) pd_str (.flat rfl rfl rfl))))) (pssd_rt (psd_ret (pd_make fx Z.M_Alike_init (ok_Alike_init Z) Z.m_Alike (bi_Alike_init Z) .nil (fun _ => .nil) (pad_cons (pd_sub fx (pd_var fx 0) pd_int (.lst .lst rfl)) (pad_cons (pd_sub fx (pd_var fx 0) pd_int (.lst .lst rfl)) (pad_cons (pd_sub fx (pd_var fx 0) pd_int (.lst .lst rfl)) (pad_cons (pd_cast (r := .sh (optI (numP v))) (by rw [hv]; rfl) (pd_call fx (ok_number_of Z) Z.m_number_of Z.F_number_of.kp (bi_number_of Z) .nil (fun _ => .nil) (pad_cons (pd_sub fx (pd_var fx 0) pd_int (.lst .lst rfl)) pad_nil) ⟨v, by rw [sizeLine_eq]; omega, rfl, rfl⟩)) pad_nil)))) ⟨a, s, b, i, ⟨⟨la, lb⟩, q.1, q.2.1, q.2.2.1, q.2.2.2⟩, rfl, rfl⟩))) fun _ z => nomatch z)))
          · rw [if_neg q] at hx; cases hx
      · rw [if_neg q2] at hx; cases hx
  | [], _, _, hx => cases hx
  | [_], _, _, hx => cases hx
  | [_, _], _, _, hx => cases hx
  | [_, _, _, _], _, _, hx => cases hx
  | _ :: _ :: _ :: _ :: _ :: _ :: _ :: _, _, _, hx => cases hx
theorem okx_saying_of : FnOk P w K mg base (L2N.CX P w) 6 (He.ga K "saying_of") Z.d_saying_of ["words"] (spX K PrSayX) := by
  refine fnx_data Z.F_saying_of sc_saying_of (fun ds c ⟨ws, _, _, e, _⟩ => (by rw [e]; rfl)) fun cdv A outer s H E fx tk ds c hp => ?_
  obtain ⟨ws, ⟨hl, hy⟩, hx, rfl, rfl⟩ := hp
  match ws, hl, hy, hx with
  | [a, p, v], hl, hy, hx =>
    have la : a.length ≤ 1000 := hy a (by simp)
    have lv : v.length ≤ 1000 := hy v (by simp)
    exact pxss_here (pxs_ifT (ptd_cast (decV.trans rfl) (ptd_eq fx (pd_blt fx (fun _ => call_lenU) Z.b_len (pad_cons (pd_var fx 0) pad_nil) (rc_len (.lst .lst))) pd_int (.flat rfl rfl rfl))) (pxss_here (pxs_ret (pxd_make fx tk Z.M_At_init (K9X.okx_At_init Z) Z.m_At (bi_At_init Z) .nil (fun _ => .nil) (pad_cons (pd_sub fx (pd_var fx 0) pd_int (.lst .lst rfl)) (pad_cons (pd_sub fx (pd_var fx 0) pd_int (.lst .lst rfl)) (pad_cons (pd_call fx (ok_number_of Z) Z.m_number_of Z.F_number_of.kp (bi_number_of Z) .nil (fun _ => .nil) (pad_cons (pd_sub fx (pd_var fx 0) pd_int (.lst .lst rfl)) pad_nil) ⟨v, by rw [sizeLine_eq]; omega, rfl, rfl⟩) pad_nil))) ⟨.str a, .str p, optI (numP v), plS la, rfl, optI_ty _, rfl, rfl, sayAt.mp hx⟩))))
  | [a, m, b, c, y], hl, hy, hx =>
    have la : a.length ≤ 1000 := hy a (by simp)
    have lb : b.length ≤ 1000 := hy b (by simp)
    have lc : c.length ≤ 1000 := hy c (by simp)
    have hx : (if m = "amid" then (if unlikeOk [a, b, c] = true ∧ y ∈ wayL then some (Say.amd a y b c) else none) else none) = none := hx
    by_cases q0 : m = "amid"
    · rw [if_pos q0] at hx
      have hb : (K9X.unlikeD ([a, b, c].map .str) && !K9X.badWord (.str y) wayL) = false := by
        rw [unlD, badW, decide_not, Bool.not_not]
        cases h1 : unlikeOk [a, b, c] with
        | false => rfl
        | true =>
          by_cases h2 : y ∈ wayL
          · rw [if_pos ⟨h1, h2⟩] at hx; cases hx
          · rw [decide_eq_false h2]; rfl
      exact pxss_ifF (ptd_cast (decV.trans rfl) (ptd_eq fx (pd_blt fx (fun _ => call_lenU) Z.b_len (pad_cons (pd_var fx 0) pad_nil) (rc_len (.lst .lst))) pd_int (.flat rfl rfl rfl))) (pxss_here (pxs_ifT (PWD.t (pwd_and (tv := true) (tw := true) (ptd_cast (decV.trans rfl) (ptd_eq fx (pd_blt fx (fun _ => call_lenU) Z.b_len (pad_cons (pd_var fx 0) pad_nil) (rc_len (.lst .lst))) pd_int (.flat rfl rfl rfl))) fun _ => pwd_and1 (ptd_cast (strEq.trans (decide_eq_true q0)) (ptd_eq fx (pd_sub fx (pd_var fx 0) pd_int (.lst .lst rfl)) pd_str (.flat rfl rfl rfl))))) (pxss_here (pxs_ret (pxd_make fx tk Z.M_Amid_init (K9X.okx_Amid_init Z) Z.m_Amid (bi_Amid_init Z) .nil (fun _ => .nil) (pad_cons (pd_sub fx (pd_var fx 0) pd_int (.lst .lst rfl)) (pad_cons (pd_sub fx (pd_var fx 0) pd_int (.lst .lst rfl)) (pad_cons (pd_sub fx (pd_var fx 0) pd_int (.lst .lst rfl)) (pad_cons (pd_sub fx (pd_var fx 0) pd_int (.lst .lst rfl)) pad_nil)))) ⟨.str a, .str y, .str b, .str c, plS la, plS lb, plS lc, rfl, rfl, rfl, hb⟩)))))
    · exact pxss_ifF (ptd_cast (decV.trans rfl) (ptd_eq fx (pd_blt fx (fun _ => call_lenU) Z.b_len (pad_cons (pd_var fx 0) pad_nil) (rc_len (.lst .lst))) pd_int (.flat rfl rfl rfl))) (pxss_ifF (PWD.t (pwd_and (tv := true) (tw := false) (ptd_cast (decV.trans rfl) (ptd_eq fx (pd_blt fx (fun _ => call_lenU) Z.b_len (pad_cons (pd_var fx 0) pad_nil) (rc_len (.lst .lst))) pd_int (.flat rfl rfl rfl))) fun _ => pwd_and1 (ptd_cast (strEq.trans (decide_eq_false q0)) (ptd_eq fx (pd_sub fx (pd_var fx 0) pd_int (.lst .lst rfl)) pd_str (.flat rfl rfl rfl))))) (pxss_ifF (PWD.t (pwd_and (tv := false) (tw := false) (ptd_cast (decV.trans rfl) (ptd_eq fx (pd_blt fx (fun _ => call_lenU) Z.b_len (pad_cons (pd_var fx 0) pad_nil) (rc_len (.lst .lst))) pd_int (.flat rfl rfl rfl))) fun z => nomatch z)) (pxss_ifF (PWD.t (pwd_and (tv := false) (tw := false) (ptd_cast (decV.trans rfl) (ptd_eq fx (pd_blt fx (fun _ => call_lenU) Z.b_len (pad_cons (pd_var fx 0) pad_nil) (rc_len (.lst .lst))) pd_int (.flat rfl rfl rfl))) fun z => nomatch z)) (pxss_here (pxs_raise fx tk Z.X_BadSaying Z.m_BadSaying)))))
  | [a, s, o, b, y, v], hl, hy, hx =>
    have la : a.length ≤ 1000 := hy a (by simp)
    have lb : b.length ≤ 1000 := hy b (by simp)
    have lv : v.length ≤ 1000 := hy v (by simp)
    have hx : (if o = "of" ∧ y = "by" then (numP v).bind fun i => if unlikeOk [a, b] = true ∧ s ∈ sideL ∧ -1000 ≤ i ∧ i ≤ 1000 then some (Say.bes a s b i) else none
      else if o = "as" ∧ y = "times" then (numP v).bind fun i => if unlikeOk [a, b] = true ∧ s ∈ partL ∧ 1 ≤ i ∧ i ≤ 9 then some (Say.alk a s b i) else none else none) = none := hx
    by_cases q1 : o = "of" ∧ y = "by"
    · rw [if_pos q1] at hx
      exact pxss_ifF (ptd_cast (decV.trans rfl) (ptd_eq fx (pd_blt fx (fun _ => call_lenU) Z.b_len (pad_cons (pd_var fx 0) pad_nil) (rc_len (.lst .lst))) pd_int (.flat rfl rfl rfl))) (pxss_ifF (PWD.t (pwd_and (tv := false) (tw := false) (ptd_cast (decV.trans rfl) (ptd_eq fx (pd_blt fx (fun _ => call_lenU) Z.b_len (pad_cons (pd_var fx 0) pad_nil) (rc_len (.lst .lst))) pd_int (.flat rfl rfl rfl))) fun z => nomatch z)) (pxss_here (pxs_ifT (PWD.t (pwd_and (tv := true) (tw := true) (ptd_cast (decV.trans rfl) (ptd_eq fx (pd_blt fx (fun _ => call_lenU) Z.b_len (pad_cons (pd_var fx 0) pad_nil) (rc_len (.lst .lst))) pd_int (.flat rfl rfl rfl))) fun _ => pwd_and (tv := true) (tw := true) (ptd_cast (strEq.trans (decide_eq_true q1.1)) (ptd_eq fx (pd_sub fx (pd_var fx 0) pd_int (.lst .lst rfl)) pd_str (.flat rfl rfl rfl))) fun _ => pwd_and1 (ptd_cast (strEq.trans (decide_eq_true q1.2)) (ptd_eq fx (pd_sub fx (pd_var fx 0) pd_int (.lst .lst rfl)) pd_str (.flat rfl rfl rfl))))) (pxss_here (pxs_ret (pxd_make fx tk Z.M_Beside_init (K9X.okx_Beside_init Z) Z.m_Beside (bi_Beside_init Z) .nil (fun _ => .nil) (pad_cons (pd_sub fx (pd_var fx 0) pd_int (.lst .lst rfl)) (pad_cons (pd_sub fx (pd_var fx 0) pd_int (.lst .lst rfl)) (pad_cons (pd_sub fx (pd_var fx 0) pd_int (.lst .lst rfl)) (pad_cons (pd_call fx (ok_number_of Z) Z.m_number_of Z.F_number_of.kp (bi_number_of Z) .nil (fun _ => .nil) (pad_cons (pd_sub fx (pd_var fx 0) pd_int (.lst .lst rfl)) pad_nil) ⟨v, by rw [sizeLine_eq]; omega, rfl, rfl⟩) pad_nil)))) ⟨.str a, .str s, .str b, optI (numP v), plS la, plS lb, rfl, optI_ty _, rfl, rfl, (saySp (l := [a, b])).mp hx⟩))))))
    · rw [if_neg q1] at hx
      by_cases q2 : o = "as" ∧ y = "times"
      · rw [if_pos q2] at hx
        exact pxss_ifF (ptd_cast (decV.trans rfl) (ptd_eq fx (pd_blt fx (fun _ => call_lenU) Z.b_len (pad_cons (pd_var fx 0) pad_nil) (rc_len (.lst .lst))) pd_int (.flat rfl rfl rfl))) (pxss_ifF (PWD.t (pwd_and (tv := false) (tw := false) (ptd_cast (decV.trans rfl) (ptd_eq fx (pd_blt fx (fun _ => call_lenU) Z.b_len (pad_cons (pd_var fx 0) pad_nil) (rc_len (.lst .lst))) pd_int (.flat rfl rfl rfl))) fun z => nomatch z)) (pxss_ifF (show PTD K _ _ _ false from by
      by_cases r1 : o = "of"
      · exact PWD.t (pwd_and (tv := true) (tw := false) (ptd_cast (decV.trans rfl) (ptd_eq fx (pd_blt fx (fun _ => call_lenU) Z.b_len (pad_cons (pd_var fx 0) pad_nil) (rc_len (.lst .lst))) pd_int (.flat rfl rfl rfl))) fun _ => pwd_and (tv := true) (tw := false) (ptd_cast (strEq.trans (decide_eq_true r1)) (ptd_eq fx (pd_sub fx (pd_var fx 0) pd_int (.lst .lst rfl)) pd_str (.flat rfl rfl rfl))) fun _ => pwd_and1 (ptd_cast (strEq.trans (decide_eq_false fun z => q1 ⟨r1, z⟩)) (ptd_eq fx (pd_sub fx (pd_var fx 0) pd_int (.lst .lst rfl)) pd_str (.flat rfl rfl rfl))))
      · exact PWD.t (pwd_and (tv := true) (tw := false) (ptd_cast (decV.trans rfl) (ptd_eq fx (pd_blt fx (fun _ => call_lenU) Z.b_len (pad_cons (pd_var fx 0) pad_nil) (rc_len (.lst .lst))) pd_int (.flat rfl rfl rfl))) fun _ => pwd_and (tv := false) (tw := false) (ptd_cast (strEq.trans (decide_eq_false r1)) (ptd_eq fx (pd_sub fx (pd_var fx 0) pd_int (.lst .lst rfl)) pd_str (.flat rfl rfl rfl))) fun z => nomatch z)) (pxss_here (pxs_ifT (PWD.t (pwd_and (tv := true) (tw := true) (ptd_cast (decV.trans rfl) (ptd_eq fx (pd_blt fx (fun _ => call_lenU) Z.b_len (pad_cons (pd_var fx 0) pad_nil) (rc_len (.lst .lst))) pd_int (.flat rfl rfl rfl))) fun _ => pwd_and (tv := true) (tw := true) (ptd_cast (strEq.trans (decide_eq_true q2.1)) (ptd_eq fx (pd_sub fx (pd_var fx 0) pd_int (.lst .lst rfl)) pd_str (.flat rfl rfl rfl))) fun _ => pwd_and1 (ptd_cast (strEq.trans (decide_eq_true q2.2)) (ptd_eq fx (pd_sub fx (pd_var fx 0) pd_int (.lst .lst rfl)) pd_str (.flat rfl rfl rfl))))) (pxss_here (pxs_ret (pxd_make fx tk Z.M_Alike_init (K9X.okx_Alike_init Z) Z.m_Alike (bi_Alike_init Z) .nil (fun _ => .nil) (pad_cons (pd_sub fx (pd_var fx 0) pd_int (.lst .lst rfl)) (pad_cons (pd_sub fx (pd_var fx 0) pd_int (.lst .lst rfl)) (pad_cons (pd_sub fx (pd_var fx 0) pd_int (.lst .lst rfl)) (pad_cons (pd_call fx (ok_number_of Z) Z.m_number_of Z.F_number_of.kp (bi_number_of Z) .nil (fun _ => .nil) (pad_cons (pd_sub fx (pd_var fx 0) pd_int (.lst .lst rfl)) pad_nil) ⟨v, by rw [sizeLine_eq]; omega, rfl, rfl⟩) pad_nil)))) ⟨.str a, .str s, .str b, optI (numP v), plS la, plS lb, rfl, optI_ty _, rfl, rfl, (saySp (l := [a, b])).mp hx⟩)))))))
      · exact pxss_ifF (ptd_cast (decV.trans rfl) (ptd_eq fx (pd_blt fx (fun _ => call_lenU) Z.b_len (pad_cons (pd_var fx 0) pad_nil) (rc_len (.lst .lst))) pd_int (.flat rfl rfl rfl))) (pxss_ifF (PWD.t (pwd_and (tv := false) (tw := false) (ptd_cast (decV.trans rfl) (ptd_eq fx (pd_blt fx (fun _ => call_lenU) Z.b_len (pad_cons (pd_var fx 0) pad_nil) (rc_len (.lst .lst))) pd_int (.flat rfl rfl rfl))) fun z => nomatch z)) (pxss_ifF (show PTD K _ _ _ false from by
      by_cases r1 : o = "of"
      · exact PWD.t (pwd_and (tv := true) (tw := false) (ptd_cast (decV.trans rfl) (ptd_eq fx (pd_blt fx (fun _ => call_lenU) Z.b_len (pad_cons (pd_var fx 0) pad_nil) (rc_len (.lst .lst))) pd_int (.flat rfl rfl rfl))) fun _ => pwd_and (tv := true) (tw := false) (ptd_cast (strEq.trans (decide_eq_true r1)) (ptd_eq fx (pd_sub fx (pd_var fx 0) pd_int (.lst .lst rfl)) pd_str (.flat rfl rfl rfl))) fun _ => pwd_and1 (ptd_cast (strEq.trans (decide_eq_false fun z => q1 ⟨r1, z⟩)) (ptd_eq fx (pd_sub fx (pd_var fx 0) pd_int (.lst .lst rfl)) pd_str (.flat rfl rfl rfl))))
      · exact PWD.t (pwd_and (tv := true) (tw := false) (ptd_cast (decV.trans rfl) (ptd_eq fx (pd_blt fx (fun _ => call_lenU) Z.b_len (pad_cons (pd_var fx 0) pad_nil) (rc_len (.lst .lst))) pd_int (.flat rfl rfl rfl))) fun _ => pwd_and (tv := false) (tw := false) (ptd_cast (strEq.trans (decide_eq_false r1)) (ptd_eq fx (pd_sub fx (pd_var fx 0) pd_int (.lst .lst rfl)) pd_str (.flat rfl rfl rfl))) fun z => nomatch z)) (pxss_ifF (show PTD K _ _ _ false from by
      by_cases r1 : o = "as"
      · exact PWD.t (pwd_and (tv := true) (tw := false) (ptd_cast (decV.trans rfl) (ptd_eq fx (pd_blt fx (fun _ => call_lenU) Z.b_len (pad_cons (pd_var fx 0) pad_nil) (rc_len (.lst .lst))) pd_int (.flat rfl rfl rfl))) fun _ => pwd_and (tv := true) (tw := false) (ptd_cast (strEq.trans (decide_eq_true r1)) (ptd_eq fx (pd_sub fx (pd_var fx 0) pd_int (.lst .lst rfl)) pd_str (.flat rfl rfl rfl))) fun _ => pwd_and1 (ptd_cast (strEq.trans (decide_eq_false fun z => q2 ⟨r1, z⟩)) (ptd_eq fx (pd_sub fx (pd_var fx 0) pd_int (.lst .lst rfl)) pd_str (.flat rfl rfl rfl))))
      · exact PWD.t (pwd_and (tv := true) (tw := false) (ptd_cast (decV.trans rfl) (ptd_eq fx (pd_blt fx (fun _ => call_lenU) Z.b_len (pad_cons (pd_var fx 0) pad_nil) (rc_len (.lst .lst))) pd_int (.flat rfl rfl rfl))) fun _ => pwd_and (tv := false) (tw := false) (ptd_cast (strEq.trans (decide_eq_false r1)) (ptd_eq fx (pd_sub fx (pd_var fx 0) pd_int (.lst .lst rfl)) pd_str (.flat rfl rfl rfl))) fun z => nomatch z)) (pxss_here (pxs_raise fx tk Z.X_BadSaying Z.m_BadSaying)))))
  | [], _, _, hx => exact pxss_ifF (ptd_cast (decV.trans rfl) (ptd_eq fx (pd_blt fx (fun _ => call_lenU) Z.b_len (pad_cons (pd_var fx 0) pad_nil) (rc_len (.lst .lst))) pd_int (.flat rfl rfl rfl))) (pxss_ifF (PWD.t (pwd_and (tv := false) (tw := false) (ptd_cast (decV.trans rfl) (ptd_eq fx (pd_blt fx (fun _ => call_lenU) Z.b_len (pad_cons (pd_var fx 0) pad_nil) (rc_len (.lst .lst))) pd_int (.flat rfl rfl rfl))) fun z => nomatch z)) (pxss_ifF (PWD.t (pwd_and (tv := false) (tw := false) (ptd_cast (decV.trans rfl) (ptd_eq fx (pd_blt fx (fun _ => call_lenU) Z.b_len (pad_cons (pd_var fx 0) pad_nil) (rc_len (.lst .lst))) pd_int (.flat rfl rfl rfl))) fun z => nomatch z)) (pxss_ifF (PWD.t (pwd_and (tv := false) (tw := false) (ptd_cast (decV.trans rfl) (ptd_eq fx (pd_blt fx (fun _ => call_lenU) Z.b_len (pad_cons (pd_var fx 0) pad_nil) (rc_len (.lst .lst))) pd_int (.flat rfl rfl rfl))) fun z => nomatch z)) (pxss_here (pxs_raise fx tk Z.X_BadSaying Z.m_BadSaying)))))
  | [_], _, _, hx => exact pxss_ifF (ptd_cast (decV.trans rfl) (ptd_eq fx (pd_blt fx (fun _ => call_lenU) Z.b_len (pad_cons (pd_var fx 0) pad_nil) (rc_len (.lst .lst))) pd_int (.flat rfl rfl rfl))) (pxss_ifF (PWD.t (pwd_and (tv := false) (tw := false) (ptd_cast (decV.trans rfl) (ptd_eq fx (pd_blt fx (fun _ => call_lenU) Z.b_len (pad_cons (pd_var fx 0) pad_nil) (rc_len (.lst .lst))) pd_int (.flat rfl rfl rfl))) fun z => nomatch z)) (pxss_ifF (PWD.t (pwd_and (tv := false) (tw := false) (ptd_cast (decV.trans rfl) (ptd_eq fx (pd_blt fx (fun _ => call_lenU) Z.b_len (pad_cons (pd_var fx 0) pad_nil) (rc_len (.lst .lst))) pd_int (.flat rfl rfl rfl))) fun z => nomatch z)) (pxss_ifF (PWD.t (pwd_and (tv := false) (tw := false) (ptd_cast (decV.trans rfl) (ptd_eq fx (pd_blt fx (fun _ => call_lenU) Z.b_len (pad_cons (pd_var fx 0) pad_nil) (rc_len (.lst .lst))) pd_int (.flat rfl rfl rfl))) fun z => nomatch z)) (pxss_here (pxs_raise fx tk Z.X_BadSaying Z.m_BadSaying)))))
  | [_, _], _, _, hx => exact pxss_ifF (ptd_cast (decV.trans rfl) (ptd_eq fx (pd_blt fx (fun _ => call_lenU) Z.b_len (pad_cons (pd_var fx 0) pad_nil) (rc_len (.lst .lst))) pd_int (.flat rfl rfl rfl))) (pxss_ifF (PWD.t (pwd_and (tv := false) (tw := false) (ptd_cast (decV.trans rfl) (ptd_eq fx (pd_blt fx (fun _ => call_lenU) Z.b_len (pad_cons (pd_var fx 0) pad_nil) (rc_len (.lst .lst))) pd_int (.flat rfl rfl rfl))) fun z => nomatch z)) (pxss_ifF (PWD.t (pwd_and (tv := false) (tw := false) (ptd_cast (decV.trans rfl) (ptd_eq fx (pd_blt fx (fun _ => call_lenU) Z.b_len (pad_cons (pd_var fx 0) pad_nil) (rc_len (.lst .lst))) pd_int (.flat rfl rfl rfl))) fun z => nomatch z)) (pxss_ifF (PWD.t (pwd_and (tv := false) (tw := false) (ptd_cast (decV.trans rfl) (ptd_eq fx (pd_blt fx (fun _ => call_lenU) Z.b_len (pad_cons (pd_var fx 0) pad_nil) (rc_len (.lst .lst))) pd_int (.flat rfl rfl rfl))) fun z => nomatch z)) (pxss_here (pxs_raise fx tk Z.X_BadSaying Z.m_BadSaying)))))
  | [_, _, _, _], _, _, hx => exact pxss_ifF (ptd_cast (decV.trans rfl) (ptd_eq fx (pd_blt fx (fun _ => call_lenU) Z.b_len (pad_cons (pd_var fx 0) pad_nil) (rc_len (.lst .lst))) pd_int (.flat rfl rfl rfl))) (pxss_ifF (PWD.t (pwd_and (tv := false) (tw := false) (ptd_cast (decV.trans rfl) (ptd_eq fx (pd_blt fx (fun _ => call_lenU) Z.b_len (pad_cons (pd_var fx 0) pad_nil) (rc_len (.lst .lst))) pd_int (.flat rfl rfl rfl))) fun z => nomatch z)) (pxss_ifF (PWD.t (pwd_and (tv := false) (tw := false) (ptd_cast (decV.trans rfl) (ptd_eq fx (pd_blt fx (fun _ => call_lenU) Z.b_len (pad_cons (pd_var fx 0) pad_nil) (rc_len (.lst .lst))) pd_int (.flat rfl rfl rfl))) fun z => nomatch z)) (pxss_ifF (PWD.t (pwd_and (tv := false) (tw := false) (ptd_cast (decV.trans rfl) (ptd_eq fx (pd_blt fx (fun _ => call_lenU) Z.b_len (pad_cons (pd_var fx 0) pad_nil) (rc_len (.lst .lst))) pd_int (.flat rfl rfl rfl))) fun z => nomatch z)) (pxss_here (pxs_raise fx tk Z.X_BadSaying Z.m_BadSaying)))))
  | u0 :: u1 :: u2 :: u3 :: u4 :: u5 :: u6 :: l, _, _, hx =>
    have e3 : decide (V.int (((u0 :: u1 :: u2 :: u3 :: u4 :: u5 :: u6 :: l).map D.str).length : Nat) = V.int 3) = false := decV.trans (decide_eq_false (by rw [List.length_map]; simp only [List.length_cons]; omega))
    have e5 : decide (V.int (((u0 :: u1 :: u2 :: u3 :: u4 :: u5 :: u6 :: l).map D.str).length : Nat) = V.int 5) = false := decV.trans (decide_eq_false (by rw [List.length_map]; simp only [List.length_cons]; omega))
    have e6 : decide (V.int (((u0 :: u1 :: u2 :: u3 :: u4 :: u5 :: u6 :: l).map D.str).length : Nat) = V.int 6) = false := decV.trans (decide_eq_false (by rw [List.length_map]; simp only [List.length_cons]; omega))
    exact pxss_ifF (ptd_cast (e3) (ptd_eq fx (pd_blt fx (fun _ => call_lenU) Z.b_len (pad_cons (pd_var fx 0) pad_nil) (rc_len (.lst .lst))) pd_int (.flat rfl rfl rfl))) (pxss_ifF (PWD.t (pwd_and (tv := false) (tw := false) (ptd_cast (e5) (ptd_eq fx (pd_blt fx (fun _ => call_lenU) Z.b_len (pad_cons (pd_var fx 0) pad_nil) (rc_len (.lst .lst))) pd_int (.flat rfl rfl rfl))) fun z => nomatch z)) (pxss_ifF (PWD.t (pwd_and (tv := false) (tw := false) (ptd_cast (e6) (ptd_eq fx (pd_blt fx (fun _ => call_lenU) Z.b_len (pad_cons (pd_var fx 0) pad_nil) (rc_len (.lst .lst))) pd_int (.flat rfl rfl rfl))) fun z => nomatch z)) (pxss_ifF (PWD.t (pwd_and (tv := false) (tw := false) (ptd_cast (e6) (ptd_eq fx (pd_blt fx (fun _ => call_lenU) Z.b_len (pad_cons (pd_var fx 0) pad_nil) (rc_len (.lst .lst))) pd_int (.flat rfl rfl rfl))) fun z => nomatch z)) (pxss_here (pxs_raise fx tk Z.X_BadSaying Z.m_BadSaying)))))
end
end K9
set_option Elab.async false
set_option linter.all false
set_option maxRecDepth 100000
set_option maxHeartbeats 4000000
namespace K9
open PySem PySem.Spec L2 Wd
open PyProof.Rows hiding St
/-! ### rows taken in by the program -/
abbrev pwFile : Str := PySem.Challenge.pw_wheresay_k09_whole_texts.main.file
def boxOk (ns : List Str) (xs : List Say) (b n : Str) : Bool := decide (b = "box") && (nameOk n && (!inV (.str n) (ns.map V.str) && (!decide ((ns.length : Int) = 6) && xs.isEmpty)))
def embP (l1 l2 : Addr) (us : List V) : List V := .ref l1 :: .ref l2 :: us
structure SzOk (ns : List Str) (xs : List Say) (ws : List Str) : Prop where
  n : ns.length ≤ 100
  x : xs.length ≤ 100
  w : ws.length ≤ 2000
  l : ∀ y ∈ ws, y.length ≤ 1000
def PrBox (ds1 ds2 ds : List D) (r : D) (es1 es2 : List D) : Prop := ∃ (ns : List Str) (xs : List Say) (b n : Str) (i : Int), SzOk ns xs [b, n] ∧ boxOk ns xs b n = true ∧ ds1 = ns.map .str ∧ ds2 = xs.map Say.d ∧ ds = [.lst ([b, n].map .str), .int i] ∧ r = .non ∧ es1 = (ns ++ [n]).map .str ∧ es2 = ds2
def PrBoxX (ds1 ds2 ds : List D) (c : Str) (fds : List (Str × D)) : Prop := ∃ (ns : List Str) (xs : List Say) (b n : Str) (i : Int), SzOk ns xs [b, n] ∧ boxOk ns xs b n = false ∧ ds1 = ns.map .str ∧ ds2 = xs.map Say.d ∧ ds = [.lst ([b, n].map .str), .int i] ∧ c = "BadRows" ∧ fds = [(("row" : Str), D.int i)]
theorem emb_len (l1 l2 : Addr) (us : List V) : (embP l1 l2 us).length = us.length + 2 := rfl
/-- the tests of take_box -/
theorem box_test {K : PySem.W.Frag} {ι : Type} {Xs : ι → Cx} {γ : Gm} {e0 e1 e2 e3 e4 : Expr} {pos : Pos} {ns : List Str} {xs : List Say} {b n : Str} (h0 : PTD K Xs e0 γ (!decide (b = "box"))) (h1 : PTD K Xs e1 γ (!nameOk n)) (h2 : PTD K Xs e2 γ (inV (.str n) (ns.map V.str))) (h3 : PTD K Xs e3 γ (decide ((ns.length : Int) = 6))) (h4 : PTD K Xs e4 γ (!xs.isEmpty)) : PTD K Xs (.BoolOp .Or [e0, e1, e2, e3, e4] pos) γ (!boxOk ns xs b n) :=
  PWD.t (ptd_cast2 (by unfold boxOk; cases decide (b = "box") <;> cases nameOk n <;> cases inV (.str n) (ns.map V.str) <;> cases decide ((ns.length : Int) = 6) <;> cases xs.isEmpty <;> rfl) (pwd_or h0 fun _ => pwd_or h1 fun _ => pwd_or h2 fun _ => pwd_or h3 fun _ => pwd_or1 h4))
theorem pv_out {K : PySem.W.Frag} {S H S' H' F' : Hp} {l1 l2 : Addr} {ys1 ys2 : List V} {es1 es2 : List D} {γ : Gm} {σ : L2.St} (p : Pv K γ F' (del2 H l1 l2) S S' H' σ) (f1 : F' l1 = some (.lst ys1)) (f2 : F' l2 = some (.lst ys2)) (d1 : Dats K S' ys1 es1) (d2 : Dats K S' ys2 es2) : MOut K S H l1 l2 S' H' ys1 ys2 es1 es2 :=
  ⟨⟨p.ok.s0, p.ok.h0, p.ok.nw⟩, p.ok.sh, p.fs _ _ f1, p.fs _ _ f2, p.fh _ _ f1, p.fh _ _ f2, d1, d2⟩
theorem sc_BadRows_init2 : NdefX.NScope ["self", "row", "__class__"] ["self", "row"] ["__class__"] (defScope s_BadRows_init) := NdefX.nscope_by (by decide +kernel)
section
variable {P : Program} {w : World} {K : PySem.W.Frag} {mg : Str → Option Value} {base : Heap} (Z : Env K mg w) (hP : SupP P pwFile)
include Z
theorem bi_take_box : Binds K Z.d_take_box ["names", "sayings", "words", "at"] [] := Z.F_take_box.bindsN fun _ _ _ _ _ _ us hl => match us, hl with | [_, _, _, _], _ => rfl
theorem bi_BadRows : Binds K Z.fd_BadRows ["self", "row"] [] := by
  obtain ⟨oc, od, dV, kV, doc, pm, an, cda, cc, ct, osl, e, lk, hcd, hd, _⟩ := Z.E_BadRows.sf.fn
  rw [e, hd]
  exact .all fun us hl => match us, hl with | [_, _], _ => rfl
include hP
theorem ok_BadRows : FnOk P w K mg base (L2.CX P w) 1 (He.ma K (He.ga K "BadRows") "__init__") Z.fd_BadRows ["self", "row"] (spRow (He.ga K "BadRows") "row") ∧ L2H.FnH P w K mg base (L2.CX P w) 1 (He.ma K (He.ga K "BadRows") "__init__") Z.fd_BadRows ["self", "row"] (spRow (He.ga K "BadRows") "row") :=
  okRow Z.E_BadRows hP sc_BadRows_init2 Z.b_super rfl rfl rfl rfl
theorem ok_take_box : FnOk P w K mg base (L2.CX P w) 2 (He.ga K "take_box") Z.d_take_box ["names", "sayings", "words", "at"] (spM K embP PrBox) := by
  refine fnm_data Z.F_take_box sc_take_box emb_len (fun ds1 ds2 ds r es1 es2 ⟨ns, xs, b, n, i, _, _, _, _, e, _⟩ => (by rw [e]; rfl)) fun cdv A outer s H E fx S vs l1 l2 us xs1 xs2 ds ds1 ds2 r es1 es2 D m hp hN q => ?_
  obtain ⟨ns, xs, b, n, i, sz, hb, rfl, rfl, rfl, rfl, rfl, rfl⟩ := hp
  obtain ⟨t1, g1⟩ := Z.i_MOST_NAMES
  have ev := m.ev
  subst ev
  cases m.du with
  | @cons w1 _ us' _ dw1 du' =>
  cases du' with
  | @cons w2 _ us'' _ dw2 du'' =>
  cases du''
  have pv0 := m.pv (N := N_take_box) (gs := [.un, .un, .sh (.lst ([b, n].map .str)), .sh (.int i)]) rfl hN (fun j t ht => match j, ht with
    | 0, ht => by cases ht; exact .inl rfl
    | 1, ht => by cases ht; exact .inl rfl
    | 2, ht => by cases ht; exact .inr ⟨_, w1, rfl, rfl, dw1⟩
    | 3, ht => by cases ht; exact .inr ⟨_, w2, rfl, rfl, dw2⟩
    | j + 4, ht => by simp at ht)
  have f1 : two l1 l2 xs1 xs2 l1 = some (.lst xs1) := two1
  have f2 : two l1 l2 xs1 xs2 l2 = some (.lst xs2) := two2 m.ne
  refine rs_cons (as_set fx 4 (pv0.eval (pd_sub fx (pd_var fx 2) pd_int (.lst .lst rfl)) fun v S1 H1 pv1 g1' s1 r1 => ?_))
  have pv2 := pv1.sets (j := 4) (Nat.le_of_ble_eq_true rfl) r1
  have D1 : Dats K S1 xs1 (ns.map .str) := m.d1.ex g1'.ss
  have D2 : Dats K S1 xs2 (xs.map Say.d) := m.d2.ex g1'.ss
  have fro := pv2.frozG (γ' := [.sh (.lst (ns.map .str)), .sh (.lst (xs.map Say.d)), .sh (.lst ([b, n].map .str)), .sh (.int i), .sh (.str n)]) rfl (fun j t ht => match j, ht with
    | 0, ht => by cases ht; exact .inr (.inr ⟨.ref l1, _, rfl, rfl, .lst (uni_F f1) (D1.ex (uni_ex pv2.fs))⟩)
    | 1, ht => by cases ht; exact .inr (.inr ⟨.ref l2, _, rfl, rfl, .lst (uni_F f2) (D2.ex (uni_ex pv2.fs))⟩)
    | 2, ht => by cases ht; exact .inl rfl
    | 3, ht => by cases ht; exact .inl rfl
    | 4, ht => by cases ht; exact .inl rfl
    | j + 5, ht => by simp at ht)
  have hn : n.length ≤ 1000 := sz.l n (by simp)
  have sx := sz.x
  have sn := sz.n
  refine rs_cons (as_if (tv := false) pv2 fro (ptd_cast ?_ (box_test (xs := xs) (ns := ns) (b := b) (n := n) ?_ ?_ ?_ ?_ ?_)) (fun z => by cases z) fun _ H2 pv3 e3 => ?_)
  · rw [hb]; rfl
  · exact ptd_cast (by rw [strEq]) (ptd_ne fx (pd_sub fx (pd_var fx 2) pd_int (.lst .lst rfl)) pd_str (.flat rfl rfl rfl))
  · exact ptd_not (ptd_val (pd_call fx (ok_is_name Z) Z.m_is_name Z.F_is_name.kp (bi_is_name Z) .nil (fun _ => .nil) (pad_cons (pd_var fx 4) pad_nil) ⟨n, hn, rfl, rfl⟩))
  · exact ptd_in fx (pd_var fx 4) (pd_var fx 0) (.lst (vs := ns.map V.str) (v := .str n) .lst (by rw [List.map_map, List.map_map]; rfl) rfl)
  · exact ptd_cast (tv := decide (V.int ((ns.map Wd.D.str).length : Nat) = V.int 6)) (by rw [decV, List.length_map]) (ptd_eq fx (pd_blt fx (fun _ => call_lenU) Z.b_len (pad_cons (pd_var fx 0) pad_nil) (rc_len (.lst .lst))) (pd_globI fx g1) (.flat rfl rfl rfl))
  · exact ptd_cast (tv := !(xs.map Say.d).isEmpty) (by rw [List.isEmpty_map]) (ptd_truthL fx (pd_var fx 1) .lst)
  refine rs_nil (rs_cons (as_append fx 0 pv3 rfl f1 (pd_var fx 4) (by rw [D1.length, List.length_map, sizeLine_eq]; omega) (fun v2 S4 H4 pv4 dv2 e4 => ?_)))
  refine rs_nil ?_
  have q2 := q .non S4 H4 (xs1 ++ [v2]) xs2 (pv_out pv4 upd_same (by rw [upd_ne (fun z => m.ne z.symm)]; exact f2) (by rw [List.map_append]; exact (D1.ex e4).append (.one dv2)) (D2.ex e4)) .non
  exact q2.2 rfl _
theorem okx_take_box : FnOk P w K mg base (L2.CX P w) 3 (He.ga K "take_box") Z.d_take_box ["names", "sayings", "words", "at"] (spMX K embP PrBoxX) := by
  refine fnmx_data Z.F_take_box sc_take_box emb_len (fun ds1 ds2 ds c fds ⟨ns, xs, b, n, i, _, _, _, _, e, _⟩ => (by rw [e]; rfl)) fun cdv A outer s H E fx tk S vs l1 l2 us xs1 xs2 ds ds1 ds2 c fds D m hp hN q => ?_
  obtain ⟨ns, xs, b, n, i, sz, hb, rfl, rfl, rfl, rfl, rfl⟩ := hp
  obtain ⟨t1, g1⟩ := Z.i_MOST_NAMES
  have ev := m.ev
  subst ev
  cases m.du with
  | @cons w1 _ us' _ dw1 du' =>
  cases du' with
  | @cons w2 _ us'' _ dw2 du'' =>
  cases du''
  have pv0 := m.pv (N := N_take_box) (gs := [.un, .un, .sh (.lst ([b, n].map .str)), .sh (.int i)]) rfl hN (fun j t ht => match j, ht with
    | 0, ht => by cases ht; exact .inl rfl
    | 1, ht => by cases ht; exact .inl rfl
    | 2, ht => by cases ht; exact .inr ⟨_, w1, rfl, rfl, dw1⟩
    | 3, ht => by cases ht; exact .inr ⟨_, w2, rfl, rfl, dw2⟩
    | j + 4, ht => by simp at ht)
  have f1 : two l1 l2 xs1 xs2 l1 = some (.lst xs1) := two1
  have f2 : two l1 l2 xs1 xs2 l2 = some (.lst xs2) := two2 m.ne
  refine rs_cons (as_set fx 4 (pv0.eval (pd_sub fx (pd_var fx 2) pd_int (.lst .lst rfl)) fun v S1 H1 pv1 g1' s1 r1 => ?_))
  have pv2 := pv1.sets (j := 4) (Nat.le_of_ble_eq_true rfl) r1
  have D1 : Dats K S1 xs1 (ns.map .str) := m.d1.ex g1'.ss
  have D2 : Dats K S1 xs2 (xs.map Say.d) := m.d2.ex g1'.ss
  have fro := pv2.frozG (γ' := [.sh (.lst (ns.map .str)), .sh (.lst (xs.map Say.d)), .sh (.lst ([b, n].map .str)), .sh (.int i), .sh (.str n)]) rfl (fun j t ht => match j, ht with
    | 0, ht => by cases ht; exact .inr (.inr ⟨.ref l1, _, rfl, rfl, .lst (uni_F f1) (D1.ex (uni_ex pv2.fs))⟩)
    | 1, ht => by cases ht; exact .inr (.inr ⟨.ref l2, _, rfl, rfl, .lst (uni_F f2) (D2.ex (uni_ex pv2.fs))⟩)
    | 2, ht => by cases ht; exact .inl rfl
    | 3, ht => by cases ht; exact .inl rfl
    | 4, ht => by cases ht; exact .inl rfl
    | j + 5, ht => by simp at ht)
  have hn : n.length ≤ 1000 := sz.l n (by simp)
  have sx := sz.x
  have sn := sz.n
  refine rs_cons (as_if (tv := true) pv2 fro (ptd_cast ?_ (box_test (xs := xs) (ns := ns) (b := b) (n := n) ?_ ?_ ?_ ?_ ?_)) (fun _ H2 pv3 e3 => ?_) fun z => by cases z)
  · rw [hb]; rfl
  · exact ptd_cast (by rw [strEq]) (ptd_ne fx (pd_sub fx (pd_var fx 2) pd_int (.lst .lst rfl)) pd_str (.flat rfl rfl rfl))
  · exact ptd_not (ptd_val (pd_call fx (ok_is_name Z) Z.m_is_name Z.F_is_name.kp (bi_is_name Z) .nil (fun _ => .nil) (pad_cons (pd_var fx 4) pad_nil) ⟨n, hn, rfl, rfl⟩))
  · exact ptd_in fx (pd_var fx 4) (pd_var fx 0) (.lst (vs := ns.map V.str) (v := .str n) .lst (by rw [List.map_map, List.map_map]; rfl) rfl)
  · exact ptd_cast (tv := decide (V.int ((ns.map Wd.D.str).length : Nat) = V.int 6)) (by rw [decV, List.length_map]) (ptd_eq fx (pd_blt fx (fun _ => call_lenU) Z.b_len (pad_cons (pd_var fx 0) pad_nil) (rc_len (.lst .lst))) (pd_globI fx g1) (.flat rfl rfl rfl))
  · exact ptd_cast (tv := !(xs.map Say.d).isEmpty) (by rw [List.isEmpty_map]) (ptd_truthL fx (pd_var fx 1) .lst)
  refine rs_cons (as_raise (pxf_raise fx tk Z.E_BadRows (ok_BadRows Z hP).1 (bi_BadRows Z) Z.m_BadRows (pd_var fx 3)) pv3 fun dx S' H' σ' g s hd xf => ?_)
  exact q dx S' H' g s hd xf
end
end K9
set_option Elab.async false
set_option linter.all false
set_option maxRecDepth 100000
set_option maxHeartbeats 1000000
/-! try whose clause raises on; the clause's raise. -/
namespace Wd
open PySem PySem.Spec L2
open PyProof.Rows hiding St
/-- the contexts of a try's body -/
structure TrI {ι : Type} (Xs : ι → Cx) (W : WX) where
  i : ι
  pn : List (Addr × Obj)
  xe : Value → Shared → Prop
  tk : L2N.Takes ((Xs i).tr pn xe) W
def trF {ι : Type} (Xs : ι → Cx) (W : WX) : TrI Xs W → Cx := fun q => (Xs q.i).tr q.pn q.xe
structure TrJ {ι : Type} (Xs : ι → Cx) (W : WX) where
  i : ι
  pn : List (Addr × Obj)
  xe : Value → Shared → Prop
  tk : L2.Takes ((Xs i).tr pn xe) W
def trJ {ι : Type} (Xs : ι → Cx) (W : WX) : TrJ Xs W → Cx := fun q => (Xs q.i).tr q.pn q.xe
section
variable {ι : Type} {Xs : ι → Cx} {W Wout : WX} {P : Program} {w : World} {K : PySem.W.Frag} {mg : Str → Option Value} {base : Heap} {N : List Str} {k j : Nat} {γ γ' : Gm} {d : D} {ds : List D} {e : Expr} {pos pos' np p p2 : Pos} {x c fld : Str} {body suite : List Stmt} {b₀ : Stmt} {H0 S0 S H F : Hp} {σ : L2.St} {D : Ends} {cv : Value}
theorem Fx.tr (fx : Fx Xs P w K mg base N k) : Fx (trF Xs W) P w K mg base N k := ⟨fun q => fx.hP q.i, fun q => fx.hw q.i, fun q => fx.hK q.i, fun q => fx.hmg q.i, fun q => fx.hb q.i, fun q => fx.hN q.i, fx.nd, fun q => fx.calm q.i, fun q => fx.room q.i⟩
theorem Fx.trj (fx : Fx Xs P w K mg base N k) : Fx (trJ Xs W) P w K mg base N k := ⟨fun q => fx.hP q.i, fun q => fx.hw q.i, fun q => fx.hK q.i, fun q => fx.hmg q.i, fun q => fx.hb q.i, fun q => fx.hN q.i, fx.nd, fun q => fx.calm q.i, fun q => fx.room q.i⟩
theorem as_tryX (fx : Fx Xs P w K mg base N k) (hs : ∀ i, (Xs i).stack = (Xs i).env :: (Xs i).outer) (hf : ∀ i, (Xs i).env.frame = some (Xs i).env.locals) (hc : ∀ i, Names (Xs i) x cv) (hpa : ∀ i, ∀ hd : Option Value, PassesOwnAt (model (Xs i).prog (Xs i).w) ((Xs i).A.mark hd) (Xs i).A (Xs i).env (Xs i).xe) (tk : ∀ i, L2.Takes (Xs i) Wout) (ts : Addr → Value → Option Addr → TS)
    (hsu : ∀ (i : ι) (a : Addr) (oe : Obj) (cls : Value) (d : Option Addr) (pn : List (Addr × Obj)), L2.Takes (L2H.suiteX (Xs i) a ((a, oe) :: pn)) Wout → L2H.HotC (L2H.suiteX (Xs i) a ((a, oe) :: pn)) → PSs (L2H.suiteX (Xs i) a ((a, oe) :: pn)) (b₀ :: suite) (ts a cls d))
    (h : anySs (trF Xs (wOnly K cv ts Wout D)) body D σ H) : anyS Xs (.Try body [.ExceptHandler (some (.Name x np)) none (b₀ :: suite) pos'] [] [] pos) D σ H :=
  ⟨fun D σ H => anySs (trF Xs (wOnly K cv ts Wout D)) body D σ H, fun i => by
    have z := L2H.ps_try_onlyX (X := Xs i) (np := np) (pos := pos) (pos' := pos') (tb := fun W => anySs (trF Xs W) body) (ts := ts) (hs i) (hf i) (hc i) (hpa i) (tk i) (fun W pn xe t _ _ => pss_any (Xs := trF Xs W) body ⟨i, pn, xe, t⟩) (fun a oe cls d pn _ _ t hot => hsu i a oe cls d pn t hot)
    rw [fx.hK i] at z
    exact z, h⟩
/-- x = e, e raising -/
theorem as_setX (fx : Fx Xs P w K mg base N k) (i : Nat) (ok : Ok K H0 S0 S H σ γ) (h : PXD K Xs W e γ c) (q : ∀ H', Ex H H' → W (.ref (He.ga K c)) none σ H') (hN : N[i]? = some x := by rfl) (hx : ∀ j, Loc (Xs j).env.scope x := by first | exact fun _ => Or.inl rfl | exact fun _ => Or.inr rfl)
    (hs : ∀ j, swapsWith e (some (.Name x np)) pos.line (Xs j).env = pure false := by exact fun _ => rfl) (hf : ∀ j, (Xs j).fn x = true ∨ (Xs j).env.scope.names.lookup x = some .local := by first | exact fun _ => Or.inl rfl | exact fun _ => Or.inr rfl) : anyS Xs (.Assign [.Name x np] e pos) D σ H :=
  ⟨tAsg (anyE Xs e) (gName i), fun j => ps_set (i := i) (by rw [fx.hN j]; exact fx.nd) (by rw [fx.hN j]; exact hN) (hx j) (pe_any e j) (hs j) (hf j), h H0 S0 S H σ ok q _⟩
/-- raise C(y) from None, in the clause -/
def tsRaise (K : PySem.W.Frag) (c fld : Str) (i : Nat) (Wout : WX) : Addr → Value → Option Addr → TS := fun _ _ _ _ σ H => tMkO (He.ga K c) (spRow (He.ga K c) fld) [] (tCons (tVar i) tNil) σ H fun cls d H' => Wout cls d σ H'
theorem suite_raise {X : Cx} {fd : FuncData} {ps : List Str} {qual : Str} {params : Arguments} {scope : Scope} {file : Str} {fbody : List Stmt} {y : Str} {i jj : Nat} {cp p3 : Pos} {a : Addr} {pn : List (Addr × Obj)} {cls : Value} {d : Option Addr} (hP : X.prog = P) (hw : X.w = w) (hK : X.K = K) (hmg : X.mg = mg) (hb : X.base = base) (hN : X.N = N) (hr : Room k X.A) (tk : L2.Takes (L2H.suiteX X a pn) Wout) (hot : L2H.HotC (L2H.suiteX X a pn))
    (EF : ExcF K c fld fd qual params fbody scope file) (G : L2H.FnH P w K mg base (L2.CX P w) 1 (He.ma K (He.ga K c) "__init__") fd ps (spRow (He.ga K c) fld)) (B : Binds K fd ps []) (hm : mg c = some (.ref (He.ga K c))) (hk : 2 ≤ k) (hi : N[i]? = some y) (hv : Vis X.env.scope y) (hg : Gl X c)
    (hd : (y == ("__debug__" : Str)) = false := by decide) (hcd : (y == ("__classdict__" : Str)) = false := by decide) (hdb : (c == ("__debug__" : Str)) = false := by decide)
    (hst : starEach [.Name y p2] X.env = (false, eval (.Name y p2) X.env) :: starEach [] X.env := by rfl) (hpl : (backTo pos (starEach [] X.env)).any (·.1) = false := by rfl) :
    PSs (L2H.suiteX X a pn) [.Raise (some (.Call (.Name c p) [.Name y p2] [] pos)) (some (.Constant .none jj cp)) p3] (tSeq (tsRaise K c fld i Wout a cls d) tNext) := by
  subst hP hw hK hmg hb hN
  refine pss_cons (L2H.ps_raiseHN hot tk (L2H.pmk5_oexH (CX := L2.CX X.prog X.w) (k := 1) EF.sf.ox EF.iC EF.tI G (L2H.roomH_mark (hr.mono hk) _) hot B (fun pins σ H s e s' I z => passes_call tk (E := fun _ _ _ => False) (fun _ _ _ _ y => y.elim) pins σ H s e s' I z) hg hm (pa_cons (pe_var (i := i) hi hv hd hcd) pa_nil hst) hdb hst hpl)) pss_nil
/-- what the clause's raise comes to -/
theorem ts_raise {i : Nat} {v : V} {a : Addr} {cls : Value} {dd : Option Addr} (hσ : σ[i]? = some (some v)) (q : ∀ dx, H dx = none → Wout (.ref (He.ga K c)) (some dx) σ (upd H dx (.xd [(fld, v)]))) : tsRaise K c fld i Wout a cls dd D σ H :=
  ⟨v, hσ, by show 1 ≤ 1000; decide, fun a ha => ⟨a, v, rfl, upd_same, fun dx hd ne => ⟨rfl, dx, [(fld, v)], upd_same, by rw [upd_ne ne, upd_same], by rw [upd_ne ne] at hd; exact hd, by
    rw [made_eq ha ne]
    rw [upd_ne ne] at hd
    exact q dx hd⟩⟩⟩
end
end Wd
set_option Elab.async false
set_option linter.all false
set_option maxRecDepth 100000
set_option maxHeartbeats 1000000
/-! try .. except C as n: .. with further clauses that are never reached. -/
namespace Wd
open PySem PySem.Spec L2
open PyProof.Rows hiding St
/-- the wish: the first clause takes it -/
def wFst (K : PySem.W.Frag) (c : Value) (i : Nat) (ts : Addr → Value → Option Addr → TS) (D : Ends) : WX := fun cls d σ H => PySem.W.exmOne K cls c = some true ∧
  ∀ a, H a = none → ts a cls d { nx := fun σ' H' => D.nx (σ'.set i none) H', rt := D.rt, bk := fun σ' H' => D.bk (σ'.set i none) H', ct := fun σ' H' => D.ct (σ'.set i none) H' } (σ.set i (some (.ref a))) H
section
variable {X : Cx} {x n : Str} {c : Value} {i : Nat} {body suite : List Stmt} {b₀ : Stmt} {np pos pos' : Pos} {hds : List ExceptHandler} {tb : WX → TS} {ts : Addr → Value → Option Addr → TS}
theorem ps_try_fst (hs : X.stack = X.env :: X.outer) (hf : X.env.frame = some X.env.locals) (hN : X.N.Nodup) (hi : X.N[i]? = some n) (hln : X.env.kindOf n = some .local) (hc : Names X x c)
    (hb : ∀ (W : WX) (pn : List (Addr × Obj)) (xe : Value → Shared → Prop), L2.Takes (X.tr pn xe) W → PSs (X.tr pn xe) body (tb W))
    (hsu : ∀ (a : Addr) (oe : Obj) (cls : Value) (d : Option Addr) (pn : List (Addr × Obj)), Zc cls d oe → (∃ vs, oe.data = .fields vs) → PSs (X.suite a ((a, oe) :: pn)) (b₀ :: suite) (ts a cls d)) :
    PS X (.Try body (.ExceptHandler (some (.Name x np)) (some n) (b₀ :: suite) pos' :: hds) [] [] pos) (fun D σ H => tb (wFst X.K c i ts D) D σ H) := by
  refine ⟨fun pins s σ H D I h => wpAny_Try_except ?_⟩
  have ok := I.ok
  have fr : X.A.frames = some (X.env :: X.outer) := by rw [ok.frames, hs]
  have run := (hb (wFst X.K c i ts D) (X.pn ++ pins) (fun e s₁ => wpAny (model X.prog X.w) X.A (noteFrame e X.env) (fun _ s₂ => wpAny (model X.prog X.w) X.A (setFlight e none) (fun _ s₃ =>
    wpAny (model X.prog X.w) X.A (handleBy e X.env (.ExceptHandler (some (.Name x np)) (some n) (b₀ :: suite) pos' :: hds)) (SP X pins D) X.xe s₃) X.xe s₂) X.xe s₁) (fun u s' ⟨a, B, sI, pins', σ', H', cls, d, eu, J', nb, up, sky, na, os, ag, hem, hts⟩ => ?_)).run [] s σ H D (I.toTry _) h
  · refine wpAny_mono run (fun fl s1 q => ?_) fun e s1 he => he
    cases fl with
    | next => obtain ⟨σ', H', J', q⟩ := q; exact wpAny_execs_nil ⟨σ', H', J'.ofTry ok, q⟩
    | brk => obtain ⟨σ', H', J', q⟩ := q; exact ⟨σ', H', J'.ofTry ok, q⟩
    | cont => obtain ⟨σ', H', J', q⟩ := q; exact ⟨σ', H', J'.ofTry ok, q⟩
    | ret u => obtain ⟨v, σ', H', J', r, q⟩ := q; exact ⟨v, σ', H', J'.ofTry ok, r, q⟩
  · subst eu
    have J : Inv X pins σ' H' sI := J'.ofTry ok
    have sky2 : Sky B (X.env :: X.outer) a (Zc cls d) X.env.locals s'.heap := by rw [← hs]; exact sky
    refine Sky.land Zc.steady fr hf sky2 fun h3 fl3 up3 => ?_
    have J3 : Inv X pins σ' H' { s' with heap := h3 } := J.landed nb fl3.1 (up.trans up3) os ag
    obtain ⟨oe, vs, he, hz, hd⟩ := fl3.there
    have out : a ∉ frs (X.env :: X.outer) := fun hm => by
      obtain ⟨_, o2, e2, hnf⟩ := fl3.2.2.1.mem hm
      rw [he] at e2
      cases e2
      exact hnf _ hd
    have nL : a ≠ X.env.locals := fun z => out (List.mem_filterMap.mpr ⟨X.env, List.mem_cons_self, by rw [hf, z]⟩)
    have nF : a ∉ X.fs := fun hm => by
      obtain ⟨e, he2, q⟩ := List.mem_filterMap.mp hm
      exact out (List.mem_filterMap.mpr ⟨e, List.mem_cons_of_mem _ he2, q⟩)
    have S3 := J3.suite he hd na nL nF
    refine wpAny_handleBy_cons (codeAny_handlers_test ?_) (by intro q; cases q)
    have LT : PySem.W.Looks (model X.prog X.w) h3 (typeOf (.ref a)) cls := fun A Q E s k q => wpAny_typeOf_ref (k _ _ he) (by rw [hz.1]; exact q)
    have LM := PySem.W.exm_one (M := model X.prog X.w) (J3.kIn) LT hem
    have test : ∀ {Q : Value → Shared → Prop} {E : Value → Shared → Prop}, Q c { s' with heap := h3 } → wpAny (model X.prog X.w) (X.A.mark (some (.ref a))) (eval (.Name x np) X.env) Q E { s' with heap := h3 } := fun {Q E} q => by
      obtain ⟨hg, hdbg, hm | ⟨hm, hv, hnn⟩⟩ := hc
      · exact ld_glob (X := X.suite a ((a, oe) :: (X.pn ++ pins))) S3 hg hm q hdbg
      · exact ld_blt (X := X.suite a ((a, oe) :: (X.pn ++ pins))) S3 hg hm hv q hnn hdbg
    refine test (LM.here (codeAny_handlers_suite_as ?_))
    refine HandSPX.lands_againZ fl3 fun h4 fl4 up4 => ?_
    have J4 : Inv X pins σ' H' { s' with heap := h4 } := J.landed nb fl4.1 ((up.trans up3).trans up4) os ag
    obtain ⟨oe4, vs4, he4, hz4, hd4⟩ := fl4.there
    refine store_ok (X := X.suite a ((a, oe4) :: (X.pn ++ pins))) (v := .ref a) (J4.suite he4 hd4 na nL nF) hN hi (.inl hln) rfl (fun s5 S5 => ?_) (.inr hln)
    refine wpAny_mono ((hsu a oe4 cls d (X.pn ++ pins) hz4 ⟨_, hd4⟩).run [] s5 _ H' _ S5 (hts a na)) (fun fl s6 q => ?_) (fun _ _ z => False.elim z)
    have end_ : ∀ {σ6 : L2.St} {H6 : Hp} {Q : Shared → Prop}, Inv (X.suite a ((a, oe4) :: (X.pn ++ pins))) [] σ6 H6 s6 → (∀ s7, Inv X pins (σ6.set i none) H6 s7 → Q s7) →
        wpAny (model X.prog X.w) X.A (do bindName X.env n .none; unbindBehindTheSuite X.env n pos') (fun _ s7 => Q s7) X.xe s6 := fun {σ6 H6 Q} S6 hq => gone_ok (S6.unsuite ok) hN hi hln hq
    cases fl with
    | next => obtain ⟨σ6, H6, S6, q6⟩ := q; exact end_ S6 fun s7 J7 => ⟨_, _, J7, q6⟩
    | brk => obtain ⟨σ6, H6, S6, q6⟩ := q; exact end_ S6 fun s7 J7 => ⟨_, _, J7, q6⟩
    | cont => obtain ⟨σ6, H6, S6, q6⟩ := q; exact end_ S6 fun s7 J7 => ⟨_, _, J7, q6⟩
    | ret u => obtain ⟨v6, σ6, H6, S6, r6, q6⟩ := q; exact end_ S6 fun s7 J7 => ⟨_, _, _, J7, r6, q6⟩
end
end Wd
set_option Elab.async false
set_option linter.all false
set_option maxRecDepth 100000
set_option maxHeartbeats 4000000
namespace K9
open PySem PySem.Spec L2 Wd
open PyProof.Rows hiding St
/-! ### sayings taken in by the program -/
def sayTake (ns : List Str) (xs : List Say) (ws : List Str) : Option Say := match sayP ws with
  | some x => if ofNames x ns = true ∧ xs.length ≠ 16 then some x else none
  | none => none
def PrTakeS (ds1 ds2 ds : List D) (r : D) (es1 es2 : List D) : Prop := ∃ (ns : List Str) (xs : List Say) (ws : List Str) (i : Int) (x : Say), SzOk ns xs ws ∧ sayTake ns xs ws = some x ∧ ds1 = ns.map .str ∧ ds2 = xs.map Say.d ∧ ds = [.lst (ws.map .str), .int i] ∧ r = .non ∧ es1 = ds1 ∧ es2 = (xs ++ [x]).map Say.d
def PrTakeSX (ds1 ds2 ds : List D) (c : Str) (fds : List (Str × D)) : Prop := ∃ (ns : List Str) (xs : List Say) (ws : List Str) (i : Int), SzOk ns xs ws ∧ sayTake ns xs ws = none ∧ ds1 = ns.map .str ∧ ds2 = xs.map Say.d ∧ ds = [.lst (ws.map .str), .int i] ∧ c = "BadRows" ∧ fds = [(("row" : Str), D.int i)]
section
variable {P : Program} {w : World} {K : PySem.W.Frag} {mg : Str → Option Value} {base : Heap} (Z : Env K mg w) (hP : SupP P pwFile)
include Z
theorem bi_take_saying : Binds K Z.d_take_saying ["names", "sayings", "words", "at"] [] := Z.F_take_saying.bindsN fun _ _ _ _ _ _ us hl => match us, hl with | [_, _, _, _], _ => rfl
include hP
/-- the clause of take_saying -/
theorem clause_say {A : Around} {outer : List PySem.Env} {s : Shared} {H : Hp} {E : XK} {cdv : Value} {a : Addr} {oe : Obj} {cls : Value} {d : Option Addr} {pn : List (Addr × Obj)} (fx : Fx (bodyC P w K mg base N_take_saying "take_saying" (defScope s_take_saying) (He.ga K "take_saying") cdv A outer s H E) P w K mg base N_take_saying 6)
    (t : L2.Takes (L2H.suiteX (bodyC P w K mg base N_take_saying "take_saying" (defScope s_take_saying) (He.ga K "take_saying") cdv A outer s H E ()) a ((a, oe) :: pn)) (fun cls d _ H => E cls d H)) (hot : L2H.HotC (L2H.suiteX (bodyC P w K mg base N_take_saying "take_saying" (defScope s_take_saying) (He.ga K "take_saying") cdv A outer s H E ()) a ((a, oe) :: pn))) {pos p p2 cp p3 : Pos} {jj : Nat} :
    PSs (L2H.suiteX (bodyC P w K mg base N_take_saying "take_saying" (defScope s_take_saying) (He.ga K "take_saying") cdv A outer s H E ()) a ((a, oe) :: pn)) [.Raise (some (.Call (.Name "BadRows" p) [.Name "at" p2] [] pos)) (some (.Constant .none jj cp)) p3] (tSeq (tsRaise K "BadRows" "row" 3 (fun cls d _ H => E cls d H) a cls d) tNext) :=
  suite_raise rfl rfl rfl rfl rfl rfl (fx.room ()) t hot Z.E_BadRows (ok_BadRows Z hP).2 (bi_BadRows Z) Z.m_BadRows (by decide) rfl (Or.inl rfl) rfl
theorem ok_take_saying : FnOk P w K mg base (L2.CX P w) 7 (He.ga K "take_saying") Z.d_take_saying ["names", "sayings", "words", "at"] (spM K embP PrTakeS) := by
  refine fnm_data Z.F_take_saying sc_take_saying emb_len (fun ds1 ds2 ds r es1 es2 ⟨ns, xs, ws, i, x, _, _, _, _, e, _⟩ => (by rw [e]; rfl)) fun cdv A outer s H E fx S vs l1 l2 us xs1 xs2 ds ds1 ds2 r es1 es2 D m hp hN q => ?_
  obtain ⟨ns, xs, ws, i, x, sz, hb, rfl, rfl, rfl, rfl, rfl, rfl⟩ := hp
  obtain ⟨t1, g1⟩ := Z.i_MOST_SAYINGS
  have ev := m.ev
  subst ev
  cases m.du with
  | @cons w1 _ us' _ dw1 du' =>
  cases du' with
  | @cons w2 _ us'' _ dw2 du'' =>
  cases du''
  have pv0 := m.pv (N := N_take_saying) (gs := [.un, .un, .sh (.lst (ws.map .str)), .sh (.int i)]) rfl hN (fun j t ht => match j, ht with
    | 0, ht => by cases ht; exact .inl rfl
    | 1, ht => by cases ht; exact .inl rfl
    | 2, ht => by cases ht; exact .inr ⟨_, w1, rfl, rfl, dw1⟩
    | 3, ht => by cases ht; exact .inr ⟨_, w2, rfl, rfl, dw2⟩
    | j + 4, ht => by simp at ht)
  have f1 : two l1 l2 xs1 xs2 l1 = some (.lst xs1) := two1
  have f2 : two l1 l2 xs1 xs2 l2 = some (.lst xs2) := two2 m.ne
  have sx := sz.x
  have sn := sz.n
  obtain ⟨hsay, hof, h16⟩ : sayP ws = some x ∧ ofNames x ns = true ∧ xs.length ≠ 16 := by
    unfold sayTake at hb
    split at hb
    · rename_i y hy
      split at hb
      · rename_i h; cases hb; exact ⟨hy, h.1, h.2⟩
      · cases hb
    · cases hb
  refine rs_cons (as_tryX (cv := .ref (He.ga K "BadSaying")) (Wout := fun cls d _ H => E cls d H) fx (fun _ => rfl) (fun _ => rfl) (fun _ => ⟨rfl, by decide, .inl Z.m_BadSaying⟩) (fun _ hd => PassesOwnAt.leaving) (fun _ => takes_of rfl rfl rfl rfl) (fun a cls d => tSeq (tsRaise K "BadRows" "row" 3 (fun cls d _ H => E cls d H) a cls d) tNext) (fun _ a oe cls d pn t hot => clause_say Z hP fx t hot)  (rs_cons (as_set fx.tr 4 (pv0.eval (PED.share (pd_call fx.tr (ok_saying_of Z) Z.m_saying_of Z.F_saying_of.kp (bi_saying_of Z) .nil (fun _ => .nil) (pad_cons (pd_var fx.tr 2) pad_nil) ⟨ws, x, ⟨sz.w, sz.l⟩, hsay, rfl, rfl⟩)) fun v S1 H1 pv1 g1' s1 r1 => ?_))))
  refine rs_nil ?_
  have pv2 := pv1.sets (j := 4) (Nat.le_of_ble_eq_true rfl) r1
  have D1 : Dats K S1 xs1 (ns.map .str) := m.d1.ex g1'.ss
  have D2 : Dats K S1 xs2 (xs.map Say.d) := m.d2.ex g1'.ss
  have fro := pv2.frozG (γ' := [.sh (.lst (ns.map .str)), .sh (.lst (xs.map Say.d)), .sh (.lst (ws.map .str)), .sh (.int i), .sh x.d]) rfl (fun j t ht => match j, ht with
    | 0, ht => by cases ht; exact .inr (.inr ⟨.ref l1, _, rfl, rfl, .lst (uni_F f1) (D1.ex (uni_ex pv2.fs))⟩)
    | 1, ht => by cases ht; exact .inr (.inr ⟨.ref l2, _, rfl, rfl, .lst (uni_F f2) (D2.ex (uni_ex pv2.fs))⟩)
    | 2, ht => by cases ht; exact .inl rfl
    | 3, ht => by cases ht; exact .inl rfl
    | 4, ht => by cases ht; exact .inl rfl
    | j + 5, ht => by simp at ht)
  refine rs_cons (as_if (tv := false) pv2 fro (PWD.t (ptd_cast2 ?_ (pwd_or (tv := !ofNames x ns) (tw := decide ((xs.length : Int) = 16)) ?_ fun _ => pwd_or1 ?_))) (fun z => by cases z) fun _ H2 pv3 e3 => ?_)
  · rw [hof, decide_eq_false (by omega)]; rfl
  · exact ptd_not (ptd_val (pd_call fx (ok_is_saying_of Z) Z.m_is_saying_of Z.F_is_saying_of.kp (bi_is_saying_of Z) .nil (fun _ => .nil) (pad_cons (pd_var fx 4) (pad_cons (pd_var fx 0) pad_nil)) ⟨x, ns, sn, rfl, rfl⟩))
  · exact ptd_cast (tv := decide (V.int ((xs.map Say.d).length : Nat) = V.int 16)) (by rw [decV, List.length_map]) (ptd_eq fx (pd_blt fx (fun _ => call_lenU) Z.b_len (pad_cons (pd_var fx 1) pad_nil) (rc_len (.lst .lst))) (pd_globI fx g1) (.flat rfl rfl rfl))
  refine rs_nil (rs_cons (as_append fx 1 pv3 rfl f2 (pd_var fx 4) (by rw [D2.length, List.length_map, sizeLine_eq]; omega) (fun v2 S4 H4 pv4 dv2 e4 => ?_)))
  refine rs_nil ?_
  have q2 := q .non S4 H4 xs1 (xs2 ++ [v2]) (pv_out pv4 (by rw [upd_ne m.ne]; exact f1) upd_same (D1.ex e4) (by rw [List.map_append]; exact (D2.ex e4).append (.one dv2))) .non
  exact q2.2 rfl _
theorem okx_take_saying : FnOk P w K mg base (L2.CX P w) 7 (He.ga K "take_saying") Z.d_take_saying ["names", "sayings", "words", "at"] (spMX K embP PrTakeSX) := by
  refine fnmx_data Z.F_take_saying sc_take_saying emb_len (fun ds1 ds2 ds c fds ⟨ns, xs, ws, i, _, _, _, _, e, _⟩ => (by rw [e]; rfl)) fun cdv A outer s H E fx tk S vs l1 l2 us xs1 xs2 ds ds1 ds2 c fds D m hp hN q => ?_
  obtain ⟨ns, xs, ws, i, sz, hb, rfl, rfl, rfl, rfl, rfl⟩ := hp
  obtain ⟨t1, g1⟩ := Z.i_MOST_SAYINGS
  have ev := m.ev
  subst ev
  cases m.du with
  | @cons w1 _ us' _ dw1 du' =>
  cases du' with
  | @cons w2 _ us'' _ dw2 du'' =>
  cases du''
  have pv0 := m.pv (N := N_take_saying) (gs := [.un, .un, .sh (.lst (ws.map .str)), .sh (.int i)]) rfl hN (fun j t ht => match j, ht with
    | 0, ht => by cases ht; exact .inl rfl
    | 1, ht => by cases ht; exact .inl rfl
    | 2, ht => by cases ht; exact .inr ⟨_, w1, rfl, rfl, dw1⟩
    | 3, ht => by cases ht; exact .inr ⟨_, w2, rfl, rfl, dw2⟩
    | j + 4, ht => by simp at ht)
  have f1 : two l1 l2 xs1 xs2 l1 = some (.lst xs1) := two1
  have f2 : two l1 l2 xs1 xs2 l2 = some (.lst xs2) := two2 m.ne
  have sx := sz.x
  have sn := sz.n
  cases hsay : sayP ws with
  | none =>
    refine rs_cons (as_tryX (cv := .ref (He.ga K "BadSaying")) (Wout := fun cls d _ H => E cls d H) fx (fun _ => rfl) (fun _ => rfl) (fun _ => ⟨rfl, by decide, .inl Z.m_BadSaying⟩) (fun _ hd => PassesOwnAt.leaving) (fun _ => takes_of rfl rfl rfl rfl) (fun a cls d => tSeq (tsRaise K "BadRows" "row" 3 (fun cls d _ H => E cls d H) a cls d) tNext) (fun _ a oe cls d pn t hot => clause_say Z hP fx t hot)  (rs_cons (as_setX fx.tr 4 pv0.ok (pxd_call fx.tr (fun q => q.tk) (okx_saying_of Z) Z.m_saying_of Z.F_saying_of.kp (bi_saying_of Z) (pad_cons (pd_var fx.tr 2) pad_nil) ⟨ws, ⟨sz.w, sz.l⟩, hsay, rfl, rfl⟩) fun H' e => ⟨true, Z.em_BadSaying, fun _ a ha => ts_raise (i := 3) (v := w2) rfl fun dx hd => ?_, fun z => nomatch z⟩)))
    have g0 : Gr S (del2 H l1 l2) S (upd H' dx (.xd [(("row" : Str), w2)])) := ⟨Same.refl _, fun b u hb => (Ex.new hd) b u (e b u (pv0.ok.h0 b u hb)), fun b o z n => by rw [n] at z; cases z⟩
    exact q dx S _ g0 ((m.sh.ex e).ex (Ex.new hd)) (Ex.back (Same.trans pv0.ok.h0 e) hd) ⟨_, upd_same, rfl, .one dw2⟩
  | some x =>
  have hb2 : (!ofNames x ns || decide ((xs.length : Int) = 16)) = true := by
    unfold sayTake at hb
    rw [hsay] at hb
    have hb : (if ofNames x ns = true ∧ xs.length ≠ 16 then some x else none) = none := hb
    by_cases h1 : ofNames x ns = true
    · by_cases h2 : xs.length = 16
      · rw [decide_eq_true (by omega), Bool.or_true]
      · rw [if_pos ⟨h1, h2⟩] at hb; cases hb
    · rw [Bool.eq_false_iff.mpr h1]; rfl
  refine rs_cons (as_tryX (cv := .ref (He.ga K "BadSaying")) (Wout := fun cls d _ H => E cls d H) fx (fun _ => rfl) (fun _ => rfl) (fun _ => ⟨rfl, by decide, .inl Z.m_BadSaying⟩) (fun _ hd => PassesOwnAt.leaving) (fun _ => takes_of rfl rfl rfl rfl) (fun a cls d => tSeq (tsRaise K "BadRows" "row" 3 (fun cls d _ H => E cls d H) a cls d) tNext) (fun _ a oe cls d pn t hot => clause_say Z hP fx t hot)  (rs_cons (as_set fx.tr 4 (pv0.eval (PED.share (pd_call fx.tr (ok_saying_of Z) Z.m_saying_of Z.F_saying_of.kp (bi_saying_of Z) .nil (fun _ => .nil) (pad_cons (pd_var fx.tr 2) pad_nil) ⟨ws, x, ⟨sz.w, sz.l⟩, hsay, rfl, rfl⟩)) fun v S1 H1 pv1 g1' s1 r1 => ?_))))
  refine rs_nil ?_
  have pv2 := pv1.sets (j := 4) (Nat.le_of_ble_eq_true rfl) r1
  have D1 : Dats K S1 xs1 (ns.map .str) := m.d1.ex g1'.ss
  have D2 : Dats K S1 xs2 (xs.map Say.d) := m.d2.ex g1'.ss
  have fro := pv2.frozG (γ' := [.sh (.lst (ns.map .str)), .sh (.lst (xs.map Say.d)), .sh (.lst (ws.map .str)), .sh (.int i), .sh x.d]) rfl (fun j t ht => match j, ht with
    | 0, ht => by cases ht; exact .inr (.inr ⟨.ref l1, _, rfl, rfl, .lst (uni_F f1) (D1.ex (uni_ex pv2.fs))⟩)
    | 1, ht => by cases ht; exact .inr (.inr ⟨.ref l2, _, rfl, rfl, .lst (uni_F f2) (D2.ex (uni_ex pv2.fs))⟩)
    | 2, ht => by cases ht; exact .inl rfl
    | 3, ht => by cases ht; exact .inl rfl
    | 4, ht => by cases ht; exact .inl rfl
    | j + 5, ht => by simp at ht)
  refine rs_cons (as_if (tv := true) pv2 fro (PWD.t (ptd_cast2 hb2 (pwd_or (tv := !ofNames x ns) (tw := decide ((xs.length : Int) = 16)) ?_ fun _ => pwd_or1 ?_))) (fun _ H2 pv3 e3 => ?_) fun z => by cases z)
  · exact ptd_not (ptd_val (pd_call fx (ok_is_saying_of Z) Z.m_is_saying_of Z.F_is_saying_of.kp (bi_is_saying_of Z) .nil (fun _ => .nil) (pad_cons (pd_var fx 4) (pad_cons (pd_var fx 0) pad_nil)) ⟨x, ns, sn, rfl, rfl⟩))
  · exact ptd_cast (tv := decide (V.int ((xs.map Say.d).length : Nat) = V.int 16)) (by rw [decV, List.length_map]) (ptd_eq fx (pd_blt fx (fun _ => call_lenU) Z.b_len (pad_cons (pd_var fx 1) pad_nil) (rc_len (.lst .lst))) (pd_globI fx g1) (.flat rfl rfl rfl))
  refine rs_cons (as_raise (pxf_raise fx tk Z.E_BadRows (ok_BadRows Z hP).1 (bi_BadRows Z) Z.m_BadRows (pd_var fx 3)) pv3 fun dx S' H' σ' g s hd xf => ?_)
  exact q dx S' H' g s hd xf
end
end K9
set_option Elab.async false
set_option linter.all false
set_option maxRecDepth 100000
set_option maxHeartbeats 1000000
/-! Walks with a private heap; enumerate; new private lists; defs that raise, raw. -/
namespace Wd
open PySem PySem.Spec L2
open PyProof.Rows hiding St
section
variable {ι : Type} {Xs : ι → Cx} {W : WX} {P : Program} {w : World} {K : PySem.W.Frag} {mg : Str → Option Value} {base : Heap} {N : List Str} {k j : Nat} {γ γ' : Gm} {d : D} {ds : List D} {e a tg : Expr} {es elts : List Expr} {sts : List Stmt} {pos p pos' np pa pb : Pos} {x y : Str} {H0 S0 S H F : Hp} {σ : L2.St} {D : Ends}
theorem ite_d {S1 : Hp} {ad : Addr} {xs : List V} (h : ∀ S H, Ex S1 S → Sub S H → SqL K H ad xs) (t : Dats K S1 xs ds) : ItD K (Ite K ad) S1 (ds.mapIdx fun i d => Wd.D.tup [.int (i : Nat), d]) where
  go := fun i S H e s hi => ⟨xs, xs[i]'(by rw [t.length]; simpa using hi), h S H e s, by simp⟩
  stop := fun S H e s => ⟨xs, h S H e s, by rw [List.length_mapIdx, t.length]; exact Nat.le_refl _⟩
  yld := fun i S H x H' d e s hd y => by
    obtain ⟨T, v, rfl, hT, rfl, y⟩ := y
    rw [List.getElem?_mapIdx] at hd
    cases hdi : ds[i]? with
    | none => rw [hdi] at hd; cases hd
    | some di =>
      rw [hdi] at hd
      cases hd
      obtain ⟨v2, hv, hd'⟩ := t.get hdi
      have y2 := y xs (h S H e s)
      rw [y2] at hv
      cases hv
      have hS : S T = none := s.out hT
      refine ⟨L2.upd S T (.tup [.int (i : Nat), v]), ⟨Ex.new hS, Ex.new hT, fun b o hb n => ?_⟩, s.upd, .tup upd_same (.cons .int (.cons ((hd'.ex e).ex (Ex.new hS)) .nil))⟩
      by_cases q : b = T
      · rw [q]; exact hT
      · rw [upd_ne q, n] at hb; cases hb
theorem pid_enum {kk : Nat} {tpos : Pos} (fx : Fx Xs P w K mg base N k) (hm : mg "enumerate" = none) (he : PED K Xs e γ (.sh d)) (hd : IsL d ds) (hg : ∀ i, Gl (Xs i) "enumerate" := by exact fun _ => rfl) (hs : ∀ i, starEach [e] (Xs i).env = [(false, eval e (Xs i).env)] := by exact fun _ => rfl) :
    PID K Xs (.Tuple elts kk tpos) (.Call (.Name "enumerate" p) [e] [] pos) γ (ds.mapIdx fun i d => Wd.D.tup [.int (i : Nat), d]) := fun H0 S0 S H σ k R q =>
  ⟨iEnum K (tCons (anyE Xs e) tNil), fun i => by
    have z := pi_enum (X := Xs i) (p := p) (pos := pos) (tpos := tpos) (elts := elts) (kk := kk) (hg i) (by rw [fx.hmg i]; exact hm) (pa_cons (pe_any e i) pa_nil (hs i)) (hs i)
    rw [fx.hK i] at z
    exact z, he H0 S0 S H σ k _ fun v S' H' g s r => by
    cases hd with
    | lst => cases r with | lst a1 t1 => exact ⟨_, _, rfl, SqL.of (s.lst a1), q _ S' H' g s (ite_d (fun S2 H2 e2 s2 => SqL.of (s2.lst (e2 _ _ a1))) t1)⟩
    | ro => cases r with | ro a1 t1 => exact ⟨_, _, rfl, s.seqL a1, q _ S' H' g s (ite_d (fun S2 H2 e2 s2 => s2.seqL (Ex.seqL e2 a1)) t1)⟩⟩
theorem Pv.wk (pv : Pv K γ F H0 S0 S H σ) (h : Wk γ γ') (hn : noOw γ') : Pv K γ' F H0 S0 S H σ := ⟨pv.ok.wk h, hn, pv.fh, pv.fs, pv.f0⟩
theorem Pv.nil (ok : Ok K H0 S0 S H σ γ) (hn : noOw γ) : Pv K γ (fun _ => none) H0 S0 S H σ := ⟨ok, hn, (fun _ _ h => nomatch h), (fun _ _ h => nomatch h), (fun _ _ h => nomatch h)⟩
/-- a walk, a private heap changed at each turn, a turn that may leave -/
theorem as_forP (fx : Fx Xs P w K mg base N k) {α : Type} (xs : List α) (enc : α → Wd.D) (hi : PID K Xs tg a γ (xs.map enc)) (I : Nat → Hp → Hp → L2.St → Prop) (mono : ∀ i F S S' σ, I i F S σ → Ex S S' → I i F S' σ) (pv : Pv K γ F H0 S0 S H σ) (i0 : I 0 F S σ)
    (turn : ∀ (i : Nat) (y : α), xs[i]? = some y → ∀ (F S H : Hp) (σ : L2.St) (v : V) (Dt : Ends), Pv K γ F H0 S0 S H σ → I i F S σ → Dat K S v (enc y) → (∀ F' S' H' σ', Pv K γ F' H0 S0 S' H' σ' → I (i + 1) F' S' σ' → Ex S S' → Dt.nx σ' H') → Dt.rt = D.rt → anyG Xs tg v σ H fun σ2 H2 => anySs Xs sts Dt σ2 H2)
    (q : ∀ F S H σ, Pv K γ F H0 S0 S H σ → I xs.length F S σ → D.nx σ H)
    (hp : ∀ i, PassesOwn (model (Xs i).prog (Xs i).w) (Xs i).A (Xs i).env (Xs i).xe := by first | exact fun _ => PassesOwn.never | exact fun _ => passes_of rfl)
    (hs : ∀ i, ∀ x, foldedSetIterable a (Xs i).env x = pure x := by exact fun _ _ => rfl) : anyS Xs (.For tg a sts [] pos) D σ H := by
  refine ⟨tFor (anyI Xs tg a) (anyG Xs tg) (anySs Xs sts), fun i => ps_for (hp i) (fx.calm i) (pi_any tg a i) (pg_any tg i) (pss_any sts i) (hs i), ?_⟩
  refine hi H0 S0 S H σ pv.ok _ fun J S1 H1 g1 s1 it => ?_
  refine ⟨fun i m σ H => m = xs.length - i ∧ i ≤ xs.length ∧ ∃ F S, Pv K γ F H0 S0 S H σ ∧ Ex S1 S ∧ I i F S σ, ⟨_, rfl, Nat.zero_le _, F, S1, pv.grow g1 s1, Same.refl _, mono _ _ _ _ _ i0 g1.ss⟩, ?_⟩
  rintro i m σ H ⟨rfl, hle, F, S, pv', e1, hI⟩
  by_cases hlt : i < xs.length
  · refine .inr ⟨it.go i S H e1 pv'.ok.sh (by rw [List.length_map]; exact hlt), fun σ' H' => ∃ F' S', Pv K γ F' H0 S0 S' H' σ' ∧ I (i + 1) F' S' σ' ∧ Ex S1 S', fun σ' H' ⟨F', S', k2, i2, e2⟩ => ⟨xs.length - (i + 1), by omega, rfl, hlt, F', S', k2, e2, i2⟩, fun x H' y => ?_⟩
    obtain ⟨S2, g2, s2, hd⟩ := it.yld i S H x H' (enc xs[i]) e1 pv'.ok.sh (by rw [List.getElem?_map]; simp [hlt]) y
    have st : Ex S1 S2 := Same.trans e1 g2.ss
    exact turn i xs[i] (by simp [hlt]) F S2 H' σ x _ (pv'.grow g2 s2) (mono _ _ _ _ _ hI g2.ss) hd (fun F' S' H'' σ' k2 i2 e2 => ⟨F', S', k2, i2, Same.trans st e2⟩) rfl
  · have e : i = xs.length := by omega
    subst e
    refine .inl ⟨?_, q F S H σ pv' hI⟩
    have z := it.stop S H e1 pv'.ok.sh
    rw [List.length_map] at z
    exact z
/-- x = [], x private -/
theorem as_newL (fx : Fx Xs P w K mg base N k) (i : Nat) (pv : Pv K γ F H0 S0 S H σ) (hi : i < γ.length) (q : ∀ l H', F l = none → Pv K (γ.set i .un) (upd F l (.lst [])) H0 S0 S H' (σ.set i (some (.ref l))) → D.nx (σ.set i (some (.ref l))) H') (hN : N[i]? = some x := by rfl) (hx : ∀ j, Loc (Xs j).env.scope x := by first | exact fun _ => Or.inl rfl | exact fun _ => Or.inr rfl)
    (hs : ∀ j, swapsWith (.List [] pos) (some (.Name x np)) pos'.line (Xs j).env = pure false := by exact fun _ => rfl) (hf : ∀ j, (Xs j).fn x = true ∨ (Xs j).env.scope.names.lookup x = some .local := by first | exact fun _ => Or.inl rfl | exact fun _ => Or.inr rfl) : anyS Xs (.Assign [.Name x np] (.List [] pos) pos') D σ H := by
  refine ⟨tAsg (tLst tNil) (gName i), fun j => ps_set (i := i) (by rw [fx.hN j]; exact fx.nd) (by rw [fx.hN j]; exact hN) (hx j) (pe_lst pa_nil) (hs j) (hf j), ?_⟩
  refine ⟨Nat.zero_le _, fun l hl => ?_⟩
  have hS : S l = none := pv.ok.sh.out hl
  have hF : F l = none := by
    cases z : F l with
    | none => rfl
    | some u => have y := pv.fh l u z; rw [hl] at y; cases y
  have p2 := (pv.back (H' := upd H l (.lst [])) (Ex.new hl)).add (a := l) (o := .lst []) upd_same hS (Ex.back pv.ok.h0 hl)
  exact q l _ hF (p2.setu hi)
theorem margs2 (fx : Fx Xs P w K mg base N k) {l1 l2 : Addr} {i j : Nat} (pv : Pv K γ F H0 S0 S H σ) (h1 : σ[i]? = some (some (.ref l1))) (h2 : σ[j]? = some (some (.ref l2))) (hr : PAD K Xs es γ ds) (hN1 : N[i]? = some x := by rfl) (hN2 : N[j]? = some y := by rfl)
    (hv1 : ∀ q, Vis (Xs q).env.scope x := by first | exact fun _ => Or.inl rfl | exact fun _ => Or.inr (Or.inl rfl) | exact fun _ => Or.inr (Or.inr rfl)) (hv2 : ∀ q, Vis (Xs q).env.scope y := by first | exact fun _ => Or.inl rfl | exact fun _ => Or.inr (Or.inl rfl) | exact fun _ => Or.inr (Or.inr rfl))
    (d1 : (x == ("__debug__" : Str)) = false := by decide) (c1 : (x == ("__classdict__" : Str)) = false := by decide) (d2 : (y == ("__debug__" : Str)) = false := by decide) (c2 : (y == ("__classdict__" : Str)) = false := by decide)
    (s1 : ∀ q, starEach (.Name x pa :: .Name y pb :: es) (Xs q).env = (false, eval (.Name x pa) (Xs q).env) :: starEach (.Name y pb :: es) (Xs q).env := by exact fun _ => rfl) (s2 : ∀ q, starEach (.Name y pb :: es) (Xs q).env = (false, eval (.Name y pb) (Xs q).env) :: starEach es (Xs q).env := by exact fun _ => rfl) :
    MArgs K (fun l1 l2 us => .ref l1 :: .ref l2 :: us) l1 l2 ds (anyA Xs (.Name x pa :: .Name y pb :: es)) γ F H0 S0 S H σ := fun Q q =>
  ⟨tCons (tVar i) (tCons (tVar j) (anyA Xs es)), fun i => pa_cons (pe_self _ fx hN1 hv1 d1 c1 i) (pa_cons (pe_self _ fx hN2 hv2 d2 c2 i) (pa_any es i) (s2 i)) (s1 i), _, h1, _, h2, hr H0 S0 S H σ pv.ok _ fun us S' H' g s r => q us S' H' (pv.grow g s) g r⟩
/-- a def that raises with a field, its body raw -/
theorem fnxf_data {P : Program} {w : World} {K : PySem.W.Frag} {mg : Str → Option Value} {base : Heap} {k : Nat} {x qual : Str} {params : Arguments} {body : List Stmt} {scope : Scope} {dvs : List V} {kws : List (Str × V)} {f : Addr} {fd : FuncData} {N ps : List Str} {Pr : List Wd.D → Str → List (Str × Wd.D) → Prop} (F : FunD K x qual params body scope dvs kws f fd) (Sc : FnScope N ps scope) (len : ∀ ds c fds, Pr ds c fds → ds.length = ps.length)
    (h : ∀ (cdv : Value) (A : Around) (outer : List Env) (s : Shared) (H : Hp) (E : XK), Fx (bodyC P w K mg base N qual scope f cdv A outer s H E) P w K mg base N k → (∀ i, L2.Takes (bodyC P w K mg base N qual scope f cdv A outer s H E i) (fun cls d _ H => E cls d H)) → ∀ (S : Hp) (σ : L2.St) (ds : List Wd.D) (c : Str) (fds : List (Str × Wd.D)) (D : Ends), Ok K H S S H σ (γ0 N ds) → Pr ds c fds →
      (∀ dx S' H', Gr S H S' H' → Sub S' H' → H dx = none → XfAt K S' H' dx fds → E (.ref (He.ga K c)) (some dx) H') → anySs (bodyC P w K mg base N qual scope f cdv A outer s H E) body D σ H) : FnOk P w K mg base (L2.CX P w) (k + 1) f fd ps (spXF K Pr) := by
  refine F.ok Sc (fun vs H Q E ⟨S, ds, c, fds, _, hd, hp, _⟩ => hd.length.trans (len ds c fds hp)) fun cdv A outer s H vs Q E hr ⟨S, ds, c, fds, hs, hd, hp, q⟩ => ?_
  have fx : Fx (bodyC P w K mg base N qual scope f cdv A outer s H E) P w K mg base N k := ⟨fun _ => rfl, fun _ => rfl, fun _ => rfl, fun _ => rfl, fun _ => rfl, fun _ => rfl, Sc.nd, fun _ => rfl, fun _ => hr⟩
  have hpl : ds.length ≤ N.length := by
    have h1 := congrArg List.length Sc.pre
    rw [List.length_take] at h1
    have h2 := len ds c fds hp
    omega
  exact ⟨_, pss_any (Xs := bodyC P w K mg base N qual scope f cdv A outer s H E) body (), h cdv A outer s H E fx (fun i => takes_of rfl rfl rfl rfl) S _ ds c fds _ (ok_start hs hd hpl) hp q⟩
end
end Wd
set_option Elab.async false
set_option linter.all false
set_option maxRecDepth 100000
set_option maxHeartbeats 4000000
namespace K9
open PySem PySem.Spec L2 Wd
open PyProof.Rows hiding St
open TL
/-! ### texts read by the program -/
abbrev St2 : Type := List Str × List Say
def rowP (st : St2) (row : Str) : Option St2 := match Txt.split row " " with
  | [b, n] => if boxOk st.1 st.2 b n = true then some (st.1 ++ [n], st.2) else none
  | ws => (sayTake st.1 st.2 ws).map fun x => (st.1, st.2 ++ [x])
def stAt (rows : List Str) (i : Nat) : Option St2 := (rows.take i).foldlM rowP ([], [])
theorem stAt_zero (rows : List Str) : stAt rows 0 = some ([], []) := rfl
theorem stAt_succ {rows : List Str} {i : Nat} {r : Str} (h : rows[i]? = some r) : stAt rows (i + 1) = (stAt rows i).bind fun s => rowP s r := by
  unfold stAt
  rw [List.take_add_one, h, List.foldlM_append]
  show ((rows.take i).foldlM rowP ([], [])).bind (fun s => [r].foldlM rowP s) = _
  congr 1
  funext s
  show (rowP s r).bind (fun s => some s) = rowP s r
  cases rowP s r <;> rfl
theorem join_split (x y : Str) : Txt.join y (Txt.split x y) = x := by
  have one : Txt.join y [x] = x := by
    show Builtin.Str.glued y [x] = x
    unfold Builtin.Str.glued
    simp
  unfold Txt.split
  split
  · exact one
  · split
    · exact one
    · exact StrLaws.glued_between_self x y _
theorem joinL_len {S : List Nat} : ∀ {ps : List (List Nat)} {p : List Nat}, p ∈ ps → p.length ≤ (joinL S ps).length
  | [], _, h => by cases h
  | [q], p, h => by rw [List.mem_singleton.mp h]; exact Nat.le_refl _
  | q :: r :: ps, p, h => by
    show p.length ≤ (q ++ (S ++ joinL S (r :: ps))).length
    rw [List.length_append, List.length_append]
    rcases List.mem_cons.mp h with rfl | h
    · omega
    · have := joinL_len (S := S) h
      omega
theorem split_short {x y w : Str} (h : w ∈ Txt.split x y) : w.length ≤ x.length := by
  have e := congrArg tl (join_split x y)
  rw [tl_joinT] at e
  have z := joinL_len (S := tl y) (List.mem_map_of_mem (f := tl) h)
  rw [e] at z
  rw [len_tl, len_tl]
  exact z
/-- what is known of what was read so far -/
structure StOk (s : St2) : Prop where
  n6 : s.1.length ≤ 6
  nm : ∀ n ∈ s.1, nameOk n = true
  nl : ∀ n ∈ s.1, n.length ≤ 1000
  nd : s.1.Nodup
  x16 : s.2.length ≤ 16
  xo : ∀ x ∈ s.2, ofNames x s.1 = true ∧ x.ok
theorem sayP_ok {ws : List Str} {x : Say} (hl : ∀ y ∈ ws, y.length ≤ 1000) (h : sayP ws = some x) : x.ok := by
  match ws, hl, h with
  | [a, p, v], hl, h =>
    have h : ((numP v).bind fun i => if nameOk a = true ∧ p ∈ partL ∧ -1000 ≤ i ∧ i ≤ 1000 then some (Say.at_ a p i) else none) = some x := h
    obtain ⟨i, _, h⟩ := Option.bind_eq_some_iff.mp h
    split at h
    · rename_i q; cases h; exact ⟨hl a (by simp), q.1, q.2.1, q.2.2.1, q.2.2.2⟩
    · cases h
  | [a, m, b, c, y], hl, h =>
    have h : (if m = "amid" then (if unlikeOk [a, b, c] = true ∧ y ∈ wayL then some (Say.amd a y b c) else none) else none) = some x := h
    split at h
    · split at h
      · rename_i q; cases h; exact ⟨⟨hl a (by simp), hl b (by simp), hl c (by simp)⟩, q.1, q.2⟩
      · cases h
    · cases h
  | [a, s, o, b, y, v], hl, h =>
    have h : (if o = "of" ∧ y = "by" then (numP v).bind fun i => if unlikeOk [a, b] = true ∧ s ∈ sideL ∧ -1000 ≤ i ∧ i ≤ 1000 then some (Say.bes a s b i) else none
      else if o = "as" ∧ y = "times" then (numP v).bind fun i => if unlikeOk [a, b] = true ∧ s ∈ partL ∧ 1 ≤ i ∧ i ≤ 9 then some (Say.alk a s b i) else none else none) = some x := h
    split at h
    · obtain ⟨i, _, h⟩ := Option.bind_eq_some_iff.mp h
      split at h
      · rename_i q; cases h; exact ⟨⟨hl a (by simp), hl b (by simp)⟩, q.1, q.2.1, q.2.2.1, q.2.2.2⟩
      · cases h
    · split at h
      · obtain ⟨i, _, h⟩ := Option.bind_eq_some_iff.mp h
        split at h
        · rename_i q; cases h; exact ⟨⟨hl a (by simp), hl b (by simp)⟩, q.1, q.2.1, q.2.2.1, q.2.2.2⟩
        · cases h
      · cases h
  | [], _, h => cases h
  | [_], _, h => cases h
  | [_, _], _, h => cases h
  | [_, _, _, _], _, h => cases h
  | _ :: _ :: _ :: _ :: _ :: _ :: _ :: _, _, h => cases h
theorem not_inV {n : Str} {ns : List Str} (h : inV (.str n) (ns.map V.str) = false) : n ∉ ns := fun z => by
  rw [inV_mem z] at h; cases h
theorem rowP_ok {s s' : St2} {row : Str} (hs : StOk s) (hl : row.length ≤ 1000) (h : rowP s row = some s') : StOk s' := by
  obtain ⟨ns, xs⟩ := s
  have wl : ∀ y ∈ Txt.split row " ", y.length ≤ 1000 := fun y hy => Nat.le_trans (split_short hy) hl
  have says : ∀ ws : List Str, (∀ y ∈ ws, y.length ≤ 1000) → ((sayTake ns xs ws).map fun x => (ns, xs ++ [x])) = some s' → StOk s' := fun ws wl h => by
    unfold sayTake at h
    cases hq : sayP ws with
    | none => rw [hq] at h; cases h
    | some x =>
      rw [hq] at h
      have h : ((if ofNames x ns = true ∧ xs.length ≠ 16 then some x else none).map fun x => (ns, xs ++ [x])) = some s' := h
      split at h
      · rename_i q
        cases h
        refine ⟨hs.n6, hs.nm, hs.nl, hs.nd, ?_, fun y hy => ?_⟩
        · have hx6 : xs.length ≤ 16 := hs.x16
          rw [List.length_append]
          show xs.length + 1 ≤ 16
          have := q.2
          omega
        · rcases List.mem_append.mp hy with hy | hy
          · exact hs.xo y hy
          · rw [List.mem_singleton.mp hy]; exact ⟨q.1, sayP_ok wl hq⟩
      · cases h
  unfold rowP at h
  split at h
  · rename_i b n e
    split at h
    · rename_i q
      cases h
      unfold boxOk at q
      obtain ⟨_, q⟩ := Bool.and_eq_true_iff.mp q
      obtain ⟨q1, q⟩ := Bool.and_eq_true_iff.mp q
      obtain ⟨q2, q⟩ := Bool.and_eq_true_iff.mp q
      obtain ⟨q3, q4⟩ := Bool.and_eq_true_iff.mp q
      have hx : xs = [] := List.isEmpty_iff.mp q4
      have hn : n ∉ ns := not_inV (by simpa using q2)
      have h6 : ns.length ≠ 6 := fun z => by
        have q3 : (!decide ((ns.length : Int) = 6)) = true := q3
        rw [decide_eq_true (by omega)] at q3
        cases q3
      refine ⟨?_, fun m hm => ?_, fun m hm => ?_, ?_, hs.x16, fun y hy => ?_⟩
      · have := hs.n6
        show (ns ++ [n]).length ≤ 6
        rw [List.length_append]
        show ns.length + 1 ≤ 6
        have : ns.length ≤ 6 := this
        omega
      · rcases List.mem_append.mp hm with hm | hm
        · exact hs.nm m hm
        · rw [List.mem_singleton.mp hm]; exact q1
      · rcases List.mem_append.mp hm with hm | hm
        · exact hs.nl m hm
        · rw [List.mem_singleton.mp hm]; exact wl n (by rw [e]; simp)
      · rw [List.nodup_append]
        exact ⟨hs.nd, by simp, fun a ha b hb z => hn (by rw [← List.mem_singleton.mp hb, ← z]; exact ha)⟩
      · have hy : y ∈ xs := hy
        rw [hx] at hy; cases hy
    · cases h
  · exact says _ wl h
theorem stAt_ok {rows : List Str} (hr : ∀ r ∈ rows, r.length ≤ 1000) : ∀ {i : Nat} {s : St2}, i ≤ rows.length → stAt rows i = some s → StOk s
  | 0, s, _, h => by
    cases h
    exact ⟨Nat.zero_le _, (fun _ h => absurd h List.not_mem_nil), (fun _ h => absurd h List.not_mem_nil), List.nodup_nil, Nat.zero_le _, (fun _ h => absurd h List.not_mem_nil)⟩
  | i + 1, s, hi, h => by
    have e : rows[i]? = some rows[i] := by simp
    rw [stAt_succ e] at h
    obtain ⟨s0, h0, h1⟩ := Option.bind_eq_some_iff.mp h
    exact rowP_ok (stAt_ok hr (by omega) h0) (hr _ (List.getElem_mem _)) h1
def rowsOf (t : Str) : List Str := Txt.split t "\n"
def PrRead (ds : List D) (r : Wd.Slot) : Prop := ∃ (t : Str) (s : St2), t.length ≤ 1000 ∧ stAt (rowsOf t) (rowsOf t).length = some s ∧ ds = [.str t] ∧ r = .ow (.obj "Sheet" (shF s.1 s.2))
def PrReadX (ds : List D) (c : Str) (fds : List (Str × D)) : Prop := ∃ (t : Str) (i : Nat) (s : St2) (row : Str), t.length ≤ 1000 ∧ (rowsOf t)[i]? = some row ∧ stAt (rowsOf t) i = some s ∧ rowP s row = none ∧ ds = [.str t] ∧ c = "BadRows" ∧ fds = [(("row" : Str), D.int (i : Nat))]
theorem rowP_two {st : St2} {row b n : Str} (h : Txt.split row " " = [b, n]) : rowP st row = if boxOk st.1 st.2 b n = true then some (st.1 ++ [n], st.2) else none := by unfold rowP; rw [h]
theorem rowP_say {st : St2} {row : Str} (h : (Txt.split row " ").length ≠ 2) : rowP st row = (sayTake st.1 st.2 (Txt.split row " ")).map fun x => (st.1, st.2 ++ [x]) := by
  unfold rowP
  split
  · rename_i b n e; rw [e] at h; exact absurd rfl h
  · rfl
theorem sayTake_ne {ns : List Str} {xs : List Say} {ws : List Str} {x : Say} (h : sayTake ns xs ws = some x) : ns ≠ [] := by
  unfold sayTake at h
  split at h
  · rename_i y _
    split at h
    · rename_i q
      intro z
      subst z
      have q1 := q.1
      cases y <;> simp [ofNames, Say.names, inV] at q1
    · cases h
  · cases h
theorem rowP_ne {s s' : St2} {row : Str} (h : rowP s row = some s') : s'.1 ≠ [] := by
  by_cases l2 : (Txt.split row " ").length = 2
  · match hw : Txt.split row " ", l2 with
    | [b, n], _ =>
      rw [rowP_two hw] at h
      split at h
      · cases h; simp
      · cases h
  · rw [rowP_say l2] at h
    obtain ⟨x, hx, rfl⟩ := Option.map_eq_some_iff.mp h
    exact sayTake_ne hx
theorem stAt_none {rows : List Str} {i : Nat} (h : stAt rows i = none) (d : Nat) : stAt rows (i + d) = none := by
  induction d with
  | zero => exact h
  | succ d ih =>
    show stAt rows (i + d + 1) = none
    cases e : rows[i + d]? with
    | some r => rw [stAt_succ e, ih]; rfl
    | none =>
      have hl : rows.length ≤ i + d := List.getElem?_eq_none_iff.mp e
      unfold stAt at ih ⊢
      rw [List.take_of_length_le (by omega)]
      rw [List.take_of_length_le hl] at ih
      exact ih
theorem stAt_le {rows : List Str} {i n : Nat} {s : St2} (hi : i ≤ n) (h : stAt rows n = some s) : ∃ s', stAt rows i = some s' := by
  cases e : stAt rows i with
  | some s' => exact ⟨s', rfl⟩
  | none =>
    have z := stAt_none e (n - i)
    rw [show i + (n - i) = n from by omega, h] at z
    cases z
theorem StOk.sheet {s : St2} (h : StOk s) (ne : s.1 ≠ []) : NsOk s.1 ∧ XsOk s.1 s.2 := by
  have l1 : 1 ≤ s.1.length := List.length_pos_iff.mpr ne
  refine ⟨⟨⟨l1, h.n6, h.nl⟩, ?_⟩, h.x16, fun x hx => (h.xo x hx).1⟩
  unfold unlikeOk
  rw [Bool.and_eq_true_iff]
  exact ⟨List.all_eq_true.mpr h.nm, decide_eq_true ((unlikes_iff _).mpr h.nd)⟩
theorem rowsOf_pos (t : Str) : 1 ≤ (rowsOf t).length := by
  have h := split_pos t "\n"
  unfold rowsOf
  omega
theorem pid_cast {ι : Type} {Xs : ι → Cx} {K : PySem.W.Frag} {tg a : Expr} {γ : Gm} {ds ds' : List D} (e : ds = ds') (p : PID K Xs tg a γ ds) : PID K Xs tg a γ ds' := e ▸ p
def rowD (p : Nat × Str) : D := .tup [.int (p.1 : Nat), .str p.2]
theorem rowsD (rows : List Str) : ((rows.map Wd.D.str).mapIdx fun i d => Wd.D.tup [.int (i : Nat), d]) = (rows.mapIdx fun i r => (i, r)).map rowD := by
  apply List.ext_getElem?
  intro i
  rw [List.getElem?_mapIdx, List.getElem?_map, List.getElem?_map, List.getElem?_mapIdx]
  cases rows[i]? <;> rfl
section
variable {P : Program} {w : World} {K : PySem.W.Frag} {mg : Str → Option Value} {base : Heap} (Z : Env K mg w) (hP : SupP P pwFile)
include Z
theorem bi_read : Binds K Z.d_read ["text"] [] := Z.F_read.bindsN fun _ _ _ _ _ _ us hl => match us, hl with | [_], _ => rfl
include hP
theorem ok_read : FnOk P w K mg base (L2.CX P w) 8 (He.ga K "read") Z.d_read ["text"] (spD K PrRead) := by
  refine fn_data Z.F_read sc_read (fun ds r ⟨t, s, _, _, e, _⟩ => (by rw [e]; rfl)) fun cdv A outer s HH E fx ds r hp => ?_
  obtain ⟨t, sf, ht, hst, rfl, rfl⟩ := hp
  refine ⟨.rt _, pssd_ifF (ptd_not (tv := true) (ptd_val (pd_isi fx (pad_cons (pd_var fx 0) (pad_cons (pd_ty fx (n := "str") Z.b_str) pad_nil)) Z.b_isinstance (.one (.bt rfl) rfl rfl)))) fun H0 S0 S H σ D k q => ?_, .rt⟩
  have kl : σ.length = 6 := k.len
  have pv : Pv K ([.sh (.str t), .un, .un, .un, .un, .un] : Gm) (fun _ => none) H0 S0 S H σ := Pv.nil k (fun j d hj => by
      match j, hj with
      | 0, hj => cases hj
      | 1, hj => cases hj
      | 2, hj => cases hj
      | 3, hj => cases hj
      | 4, hj => cases hj
      | 5, hj => cases hj
      | j + 6, hj => simp at hj)
  refine rs_cons (as_newL fx 1 pv (Nat.le_of_ble_eq_true rfl) fun l1 H1 n1 pv1 => rs_cons (as_newL fx 2 pv1 (Nat.le_of_ble_eq_true rfl) fun l2 H2 n2 pv2 => ?_))
  have ne : l1 ≠ l2 := fun z => by rw [z, upd_same] at n2; cases n2
  have hrl : ∀ r ∈ rowsOf t, r.length ≤ 1000 := fun r hr => Nat.le_trans (split_short hr) ht
  have hrn : (rowsOf t).length ≤ 1002 := Nat.le_trans (split_le t _) (by omega)
  have pv2 : Pv K ([.sh (.str t), .un, .un, .un, .un, .un] : Gm) (upd (upd (fun _ => none) l1 (.lst [])) l2 (.lst [])) H0 S0 S H2 ((σ.set 1 (some (.ref l1))).set 2 (some (.ref l2))) := pv2
  have hT : ∀ {p1 p2 p3 : Pos} {z : Nat} {i : Nat} {row : Str}, TgD K (bodyX P w K mg base N_read "read" (defScope s_read) (He.ga K "read") cdv A outer s HH E) (.Tuple [.Name "at" p1, .Name "row" p2] z p3) ([.sh (.str t), .un, .un, .un, .un, .un] : Gm) (rowD (i, row)) ([.sh (.str t), .un, .un, .sh (.int (i : Nat)), .sh (.str row), .un] : Gm) ([3] ++ ([4] ++ [])) := fun {p1 p2 p3 z i row} => tgd_tup fx (ds := [.int (i : Nat), .str row]) .tup (tgsd_cons (tgd_name fx 3) (tgsd_cons (tgd_name fx 4) tgsd_nil))
  refine rs_cons (as_forP (γ := ([.sh (.str t), .un, .un, .un, .un, .un] : Gm)) fx ((rowsOf t).mapIdx fun i r => (i, r)) rowD
    (pid_cast (rowsD (rowsOf t)) (pid_enum fx Z.b_enumerate (PED.share (pd_split (pd_var fx 0) pd_str (by decide +kernel) (by rw [sizeLine_eq]; omega))) .lst))
    (fun i F S σ => ∃ (s : St2) (ys1 ys2 : List V), stAt (rowsOf t) i = some s ∧ F l1 = some (.lst ys1) ∧ F l2 = some (.lst ys2) ∧ Dats K S ys1 (s.1.map .str) ∧ Dats K S ys2 (s.2.map Say.d) ∧ σ[1]? = some (some (.ref l1)) ∧ σ[2]? = some (some (.ref l2)))
    (fun i F S S' σ ⟨s, ys1, ys2, h1, h2, h3, h4, h5, h6, h7⟩ e => ⟨s, ys1, ys2, h1, h2, h3, h4.ex e, h5.ex e, h6, h7⟩) pv2
    ⟨([], []), [], [], rfl, by rw [upd_ne ne]; exact upd_same, upd_same, .nil, .nil, by rw [List.getElem?_set_ne (by decide)]; exact List.getElem?_set_self (by omega), List.getElem?_set_self (by rw [List.length_set]; omega)⟩
    (fun i y hy F S H σ v Dt pv ⟨st, ys1, ys2, h1, h2, h3, h4, h5, h6, h7⟩ dv next hrt => ?_) fun F S H σ pv ⟨st, ys1, ys2, h1, h2, h3, h4, h5, h6, h7⟩ => ?_)
  · rw [List.getElem?_mapIdx] at hy
    obtain ⟨row, hrow, e⟩ := Option.map_eq_some_iff.mp hy
    subst e
    have hi : i < (rowsOf t).length := (List.getElem?_eq_some_iff.mp hrow).1
    have so := stAt_ok hrl (Nat.le_of_lt hi) h1
    have rl : row.length ≤ 1000 := hrl row (List.mem_of_getElem? hrow)
    have wl : ∀ y ∈ Txt.split row " ", y.length ≤ 1000 := fun y hy => Nat.le_trans (split_short hy) rl
    have wn : (Txt.split row " ").length ≤ 2000 := Nat.le_trans (split_le row _) (by omega)
    have kl : σ.length = 6 := pv.ok.len
    refine hT H0 S0 S H σ v pv.ok dv _ fun σ2 ok2 hl2 hs2 => ?_
    have pv3 : Pv K ([.sh (.str t), .un, .un, .sh (.int (i : Nat)), .sh (.str row), .un] : Gm) F H0 S0 S H σ2 := ⟨ok2, (fun j d hj => by
      match j, hj with
      | 0, hj => cases hj
      | 1, hj => cases hj
      | 2, hj => cases hj
      | 3, hj => cases hj
      | 4, hj => cases hj
      | 5, hj => cases hj
      | j + 6, hj => simp at hj), pv.fh, pv.fs, pv.f0⟩
    have s1 : σ2[1]? = some (some (.ref l1)) := (hs2 1 (by decide)).trans h6
    have s2 : σ2[2]? = some (some (.ref l2)) := (hs2 2 (by decide)).trans h7
    refine rs_cons (as_set fx 5 (pv3.eval (PED.share (pd_split (pd_var fx 4) pd_str (by decide +kernel) (by rw [sizeLine_eq]; omega))) fun v5 S5 H5 pv5 g5 sb5 r5 => ?_))
    have pv6 : Pv K ([.sh (.str t), .un, .un, .sh (.int (i : Nat)), .sh (.str row), .sh (.lst ((Txt.split row " ").map .str))] : Gm) F H0 S0 S5 H5 (σ2.set 5 (some v5)) := pv5.sets (j := 5) (Nat.le_of_ble_eq_true rfl) r5
    have t1 : (σ2.set 5 (some v5))[1]? = some (some (.ref l1)) := by rw [List.getElem?_set_ne (by decide)]; exact s1
    have t2 : (σ2.set 5 (some v5))[2]? = some (some (.ref l2)) := by rw [List.getElem?_set_ne (by decide)]; exact s2
    have D1 := h4.ex g5.ss
    have D2 := h5.ex g5.ss
    have cont : ∀ (s' : St2), rowP st row = some s' → ∀ S' H' zs1 zs2, Pv K ([.sh (.str t), .un, .un, .sh (.int (i : Nat)), .sh (.str row), .sh (.lst ((Txt.split row " ").map .str))] : Gm) (upd (upd F l1 (.lst zs1)) l2 (.lst zs2)) H0 S0 S' H' (σ2.set 5 (some v5)) → Dats K S' zs1 (s'.1.map .str) → Dats K S' zs2 (s'.2.map Say.d) → Ex S5 S' → Dt.nx (σ2.set 5 (some v5)) H' := fun s' hrow' S' H' zs1 zs2 pv' E1 E2 ex =>
      next _ S' H' _ (pv'.wk (Wk.s (Wk.s (Wk.s (Wk.u (Wk.u (Wk.u Wk.n)))))) (fun j d hj => by
      match j, hj with
      | 0, hj => cases hj
      | 1, hj => cases hj
      | 2, hj => cases hj
      | 3, hj => cases hj
      | 4, hj => cases hj
      | 5, hj => cases hj
      | j + 6, hj => simp at hj)) ⟨s', zs1, zs2, by rw [stAt_succ hrow, h1]; exact hrow', by rw [upd_ne ne]; exact upd_same, upd_same, E1, E2, t1, t2⟩ (Same.trans g5.ss ex)
    have szw : SzOk st.1 st.2 (Txt.split row " ") := ⟨Nat.le_trans so.n6 (by decide), Nat.le_trans so.x16 (by decide), wn, wl⟩
    have fro := pv6.frozG (γ' := ([.sh (.str t), .un, .un, .sh (.int (i : Nat)), .sh (.str row), .sh (.lst ((Txt.split row " ").map .str))] : Gm)) rfl (fun _ _ h => .inl h)
    refine rs_cons (as_if (tv := decide ((Txt.split row " ").length = 2)) pv6 fro (ptd_cast ?_ (ptd_eq fx (pd_blt fx (fun _ => call_lenU) Z.b_len (pad_cons (pd_var fx 5) pad_nil) (rc_len (.lst .lst))) pd_int (.flat rfl rfl rfl))) (fun tt H6 pv7 e7 => ?_) fun tt H6 pv7 e7 => ?_)
    · rw [decV, List.length_map]; exact decide_eq_decide.mpr ⟨fun z => by omega, fun z => by omega⟩
    · have l2' := of_decide_eq_true tt
      obtain ⟨b, n, hw⟩ : ∃ b n, Txt.split row " " = [b, n] := match hw : Txt.split row " ", l2' with
        | [b, n], _ => ⟨b, n, rfl⟩
      rw [hw] at szw
      have hrp := rowP_two (st := st) hw
      have hb : boxOk st.1 st.2 b n = true := by
        cases hb : boxOk st.1 st.2 b n with
        | true => rfl
        | false =>
          rw [hb] at hrp
          obtain ⟨s', hs'⟩ := stAt_le (i := i + 1) (by omega) hst
          rw [stAt_succ hrow, h1] at hs'
          rw [show (some st).bind (fun s => rowP s row) = rowP st row from rfl, hrp] at hs'
          cases hs'
      rw [hb] at hrp
      refine rs_cons (as_expr (as_callM (S := S5) fx (ok_take_box Z hP) Z.m_take_box Z.F_take_box.kp (bi_take_box Z) pv7 (margs2 fx pv7 t1 t2 (pad_cons (pd_var fx 5) (pad_cons (pd_var fx 3) pad_nil))) h2 h3 ne D1 D2 ⟨st.1, st.2, b, n, (i : Nat), szw, hb, rfl, rfl, by rw [hw], rfl, rfl, rfl⟩ fun v S' H' zs1 zs2 pv' dv' E1 E2 ex => ?_))
      exact rs_nil (rs_nil (cont _ hrp S' H' zs1 zs2 pv' E1 E2 ex))
    · have l2' := of_decide_eq_false tt
      have hrp := rowP_say (st := st) l2'
      cases hx : sayTake st.1 st.2 (Txt.split row " ") with
      | none =>
        rw [hx] at hrp
        obtain ⟨s', hs'⟩ := stAt_le (i := i + 1) (by omega) hst
        rw [stAt_succ hrow, h1] at hs'
        rw [show (some st).bind (fun s => rowP s row) = rowP st row from rfl, hrp] at hs'
        cases hs'
      | some x =>
        rw [hx] at hrp
        refine rs_cons (as_expr (as_callM (S := S5) fx (ok_take_saying Z hP) Z.m_take_saying Z.F_take_saying.kp (bi_take_saying Z) pv7 (margs2 fx pv7 t1 t2 (pad_cons (pd_var fx 5) (pad_cons (pd_var fx 3) pad_nil))) h2 h3 ne D1 D2 ⟨st.1, st.2, _, (i : Nat), x, szw, hx, rfl, rfl, rfl, rfl, rfl, rfl⟩ fun v S' H' zs1 zs2 pv' dv' E1 E2 ex => ?_))
        exact rs_nil (rs_nil (cont _ hrp S' H' zs1 zs2 pv' E1 E2 ex))
  · rw [List.length_mapIdx, hst] at h1
    cases h1
    have so := stAt_ok hrl (Nat.le_refl _) hst
    have sne : sf.1 ≠ [] := by
      have hp1 := rowsOf_pos t
      have e : (rowsOf t)[(rowsOf t).length - 1]? = some (rowsOf t)[(rowsOf t).length - 1] := List.getElem?_eq_getElem (by omega)
      have z := stAt_succ e
      rw [show (rowsOf t).length - 1 + 1 = (rowsOf t).length from by omega, hst] at z
      obtain ⟨s0, _, h0⟩ := Option.bind_eq_some_iff.mp z.symm
      exact rowP_ne h0
    have fro := pv.frozG (γ' := [.sh (.str t), .sh (.lst (sf.1.map .str)), .sh (.lst (sf.2.map Say.d)), .un, .un, .un]) rfl (fun j t ht => match j, ht with
      | 0, ht => by cases ht; exact .inl rfl
      | 1, ht => by cases ht; exact .inr (.inr ⟨.ref l1, _, rfl, h6, .lst (uni_F h2) (h4.ex (uni_ex pv.fs))⟩)
      | 2, ht => by cases ht; exact .inr (.inr ⟨.ref l2, _, rfl, h7, .lst (uni_F h3) (h5.ex (uni_ex pv.fs))⟩)
      | 3, ht => by cases ht; exact .inr (.inl rfl)
      | 4, ht => by cases ht; exact .inr (.inl rfl)
      | 5, ht => by cases ht; exact .inr (.inl rfl)
      | j + 6, ht => by simp at ht)
    obtain ⟨sh1, sh2⟩ := so.sheet sne
    exact rs_cons (psd_ret (pd_make fx Z.M_Sheet_init (ok_Sheet_init Z) Z.m_Sheet (bi_Sheet_init Z) .nil (fun _ => .nil) (pad_cons (pd_var fx 1) (pad_cons (pd_var fx 2) pad_nil)) ⟨sf.1, sf.2, sh1, sh2, rfl, rfl⟩) H0 S0 _ H σ _ fro q)
theorem okx_read : FnOk P w K mg base (L2.CX P w) 8 (He.ga K "read") Z.d_read ["text"] (spXF K PrReadX) := by
  refine fnxf_data Z.F_read sc_read (fun ds c fds ⟨t, i, s, row, _, _, _, _, e, _⟩ => (by rw [e]; rfl)) fun cdv A outer s H0 E fx tk S0 σ ds c fds D k0 hp q => ?_
  obtain ⟨t, bad, sb, brow, ht, hbr, hsb, hbad, rfl, rfl, rfl⟩ := hp
  have hbn : stAt (rowsOf t) (bad + 1) = none := by rw [stAt_succ hbr, hsb]; exact hbad
  have hbl : bad < (rowsOf t).length := (List.getElem?_eq_some_iff.mp hbr).1
  refine rs_cons (as_ifF (R := fun H1 => ∃ S1, Ok K H0 S0 S1 H1 σ (γ0 N_read [.str t])) (fun Q q1 => (ptd_not (tv := true) (ptd_val (pd_isi fx (pad_cons (pd_var fx 0) (pad_cons (pd_ty fx (n := "str") Z.b_str) pad_nil)) Z.b_isinstance (.one (.bt rfl) rfl rfl)))) H0 S0 S0 H0 σ k0 Q fun S' H' g s => q1 H' ⟨S', k0.grow g s⟩) fun H ⟨S, k⟩ => rs_nil ?_)
  have kl : σ.length = 6 := k.len
  have pv : Pv K ([.sh (.str t), .un, .un, .un, .un, .un] : Gm) (fun _ => none) H0 S0 S H σ := Pv.nil k (fun j d hj => by
      match j, hj with
      | 0, hj => cases hj
      | 1, hj => cases hj
      | 2, hj => cases hj
      | 3, hj => cases hj
      | 4, hj => cases hj
      | 5, hj => cases hj
      | j + 6, hj => simp at hj)
  refine rs_cons (as_newL fx 1 pv (Nat.le_of_ble_eq_true rfl) fun l1 H1 n1 pv1 => rs_cons (as_newL fx 2 pv1 (Nat.le_of_ble_eq_true rfl) fun l2 H2 n2 pv2 => ?_))
  have ne : l1 ≠ l2 := fun z => by rw [z, upd_same] at n2; cases n2
  have hrl : ∀ r ∈ rowsOf t, r.length ≤ 1000 := fun r hr => Nat.le_trans (split_short hr) ht
  have hrn : (rowsOf t).length ≤ 1002 := Nat.le_trans (split_le t _) (by omega)
  have pv2 : Pv K ([.sh (.str t), .un, .un, .un, .un, .un] : Gm) (upd (upd (fun _ => none) l1 (.lst [])) l2 (.lst [])) H0 S0 S H2 ((σ.set 1 (some (.ref l1))).set 2 (some (.ref l2))) := pv2
  have hT : ∀ {p1 p2 p3 : Pos} {z : Nat} {i : Nat} {row : Str}, TgD K (bodyC P w K mg base N_read "read" (defScope s_read) (He.ga K "read") cdv A outer s H0 E) (.Tuple [.Name "at" p1, .Name "row" p2] z p3) ([.sh (.str t), .un, .un, .un, .un, .un] : Gm) (rowD (i, row)) ([.sh (.str t), .un, .un, .sh (.int (i : Nat)), .sh (.str row), .un] : Gm) ([3] ++ ([4] ++ [])) := fun {p1 p2 p3 z i row} => tgd_tup fx (ds := [.int (i : Nat), .str row]) .tup (tgsd_cons (tgd_name fx 3) (tgsd_cons (tgd_name fx 4) tgsd_nil))
  refine rs_cons (as_forP (γ := ([.sh (.str t), .un, .un, .un, .un, .un] : Gm)) fx ((rowsOf t).mapIdx fun i r => (i, r)) rowD
    (pid_cast (rowsD (rowsOf t)) (pid_enum fx Z.b_enumerate (PED.share (pd_split (pd_var fx 0) pd_str (by decide +kernel) (by rw [sizeLine_eq]; omega))) .lst))
    (fun i F S σ => ∃ (s : St2) (ys1 ys2 : List V), stAt (rowsOf t) i = some s ∧ F l1 = some (.lst ys1) ∧ F l2 = some (.lst ys2) ∧ Dats K S ys1 (s.1.map .str) ∧ Dats K S ys2 (s.2.map Say.d) ∧ σ[1]? = some (some (.ref l1)) ∧ σ[2]? = some (some (.ref l2)))
    (fun i F S S' σ ⟨s, ys1, ys2, h1, h2, h3, h4, h5, h6, h7⟩ e => ⟨s, ys1, ys2, h1, h2, h3, h4.ex e, h5.ex e, h6, h7⟩) pv2
    ⟨([], []), [], [], rfl, by rw [upd_ne ne]; exact upd_same, upd_same, .nil, .nil, by rw [List.getElem?_set_ne (by decide)]; exact List.getElem?_set_self (by omega), List.getElem?_set_self (by rw [List.length_set]; omega)⟩
    (fun i y hy F S H σ v Dt pv ⟨st, ys1, ys2, h1, h2, h3, h4, h5, h6, h7⟩ dv next hrt => ?_) fun F S H σ pv ⟨st, ys1, ys2, h1, h2, h3, h4, h5, h6, h7⟩ => ?_)
  · rw [List.getElem?_mapIdx] at hy
    obtain ⟨row, hrow, e⟩ := Option.map_eq_some_iff.mp hy
    subst e
    have hi : i < (rowsOf t).length := (List.getElem?_eq_some_iff.mp hrow).1
    have so := stAt_ok hrl (Nat.le_of_lt hi) h1
    have rl : row.length ≤ 1000 := hrl row (List.mem_of_getElem? hrow)
    have wl : ∀ y ∈ Txt.split row " ", y.length ≤ 1000 := fun y hy => Nat.le_trans (split_short hy) rl
    have wn : (Txt.split row " ").length ≤ 2000 := Nat.le_trans (split_le row _) (by omega)
    have kl : σ.length = 6 := pv.ok.len
    refine hT H0 S0 S H σ v pv.ok dv _ fun σ2 ok2 hl2 hs2 => ?_
    have pv3 : Pv K ([.sh (.str t), .un, .un, .sh (.int (i : Nat)), .sh (.str row), .un] : Gm) F H0 S0 S H σ2 := ⟨ok2, (fun j d hj => by
      match j, hj with
      | 0, hj => cases hj
      | 1, hj => cases hj
      | 2, hj => cases hj
      | 3, hj => cases hj
      | 4, hj => cases hj
      | 5, hj => cases hj
      | j + 6, hj => simp at hj), pv.fh, pv.fs, pv.f0⟩
    have s1 : σ2[1]? = some (some (.ref l1)) := (hs2 1 (by decide)).trans h6
    have s2 : σ2[2]? = some (some (.ref l2)) := (hs2 2 (by decide)).trans h7
    refine rs_cons (as_set fx 5 (pv3.eval (PED.share (pd_split (pd_var fx 4) pd_str (by decide +kernel) (by rw [sizeLine_eq]; omega))) fun v5 S5 H5 pv5 g5 sb5 r5 => ?_))
    have pv6 : Pv K ([.sh (.str t), .un, .un, .sh (.int (i : Nat)), .sh (.str row), .sh (.lst ((Txt.split row " ").map .str))] : Gm) F H0 S0 S5 H5 (σ2.set 5 (some v5)) := pv5.sets (j := 5) (Nat.le_of_ble_eq_true rfl) r5
    have t1 : (σ2.set 5 (some v5))[1]? = some (some (.ref l1)) := by rw [List.getElem?_set_ne (by decide)]; exact s1
    have t2 : (σ2.set 5 (some v5))[2]? = some (some (.ref l2)) := by rw [List.getElem?_set_ne (by decide)]; exact s2
    have D1 := h4.ex g5.ss
    have D2 := h5.ex g5.ss
    have cont : ∀ (s' : St2), rowP st row = some s' → ∀ S' H' zs1 zs2, Pv K ([.sh (.str t), .un, .un, .sh (.int (i : Nat)), .sh (.str row), .sh (.lst ((Txt.split row " ").map .str))] : Gm) (upd (upd F l1 (.lst zs1)) l2 (.lst zs2)) H0 S0 S' H' (σ2.set 5 (some v5)) → Dats K S' zs1 (s'.1.map .str) → Dats K S' zs2 (s'.2.map Say.d) → Ex S5 S' → Dt.nx (σ2.set 5 (some v5)) H' := fun s' hrow' S' H' zs1 zs2 pv' E1 E2 ex =>
      next _ S' H' _ (pv'.wk (Wk.s (Wk.s (Wk.s (Wk.u (Wk.u (Wk.u Wk.n)))))) (fun j d hj => by
      match j, hj with
      | 0, hj => cases hj
      | 1, hj => cases hj
      | 2, hj => cases hj
      | 3, hj => cases hj
      | 4, hj => cases hj
      | 5, hj => cases hj
      | j + 6, hj => simp at hj)) ⟨s', zs1, zs2, by rw [stAt_succ hrow, h1]; exact hrow', by rw [upd_ne ne]; exact upd_same, upd_same, E1, E2, t1, t2⟩ (Same.trans g5.ss ex)
    have szw : SzOk st.1 st.2 (Txt.split row " ") := ⟨Nat.le_trans so.n6 (by decide), Nat.le_trans so.x16 (by decide), wn, wl⟩
    have fro := pv6.frozG (γ' := ([.sh (.str t), .un, .un, .sh (.int (i : Nat)), .sh (.str row), .sh (.lst ((Txt.split row " ").map .str))] : Gm)) rfl (fun _ _ h => .inl h)
    refine rs_cons (as_if (tv := decide ((Txt.split row " ").length = 2)) pv6 fro (ptd_cast ?_ (ptd_eq fx (pd_blt fx (fun _ => call_lenU) Z.b_len (pad_cons (pd_var fx 5) pad_nil) (rc_len (.lst .lst))) pd_int (.flat rfl rfl rfl))) (fun tt H6 pv7 e7 => ?_) fun tt H6 pv7 e7 => ?_)
    · rw [decV, List.length_map]; exact decide_eq_decide.mpr ⟨fun z => by omega, fun z => by omega⟩
    · have l2' := of_decide_eq_true tt
      obtain ⟨b, n, hw⟩ : ∃ b n, Txt.split row " " = [b, n] := match hw : Txt.split row " ", l2' with
        | [b, n], _ => ⟨b, n, rfl⟩
      rw [hw] at szw
      have hrp := rowP_two (st := st) hw
      cases hb : boxOk st.1 st.2 b n with
      | true =>
        rw [hb] at hrp
        refine rs_cons (as_expr (as_callM (S := S5) fx (ok_take_box Z hP) Z.m_take_box Z.F_take_box.kp (bi_take_box Z) pv7 (margs2 fx pv7 t1 t2 (pad_cons (pd_var fx 5) (pad_cons (pd_var fx 3) pad_nil))) h2 h3 ne D1 D2 ⟨st.1, st.2, b, n, (i : Nat), szw, hb, rfl, rfl, by rw [hw], rfl, rfl, rfl⟩ fun v S' H' zs1 zs2 pv' dv' E1 E2 ex => ?_))
        exact rs_nil (rs_nil (cont _ hrp S' H' zs1 zs2 pv' E1 E2 ex))
      | false =>
      rw [hb] at hrp
      have hin : stAt (rowsOf t) (i + 1) = none := by rw [stAt_succ hrow, h1]; exact hrp
      have e : i = bad := by
        rcases Nat.lt_trichotomy i bad with z | z | z
        · obtain ⟨s', hs'⟩ := stAt_le (i := i + 1) z hsb
          rw [hin] at hs'; cases hs'
        · exact z
        · obtain ⟨s', hs'⟩ := stAt_le (i := bad + 1) z h1
          rw [hbn] at hs'; cases hs'
      subst e
      exact rs_cons (as_expr (as_callMX (S := S5) fx tk (okx_take_box Z hP) Z.m_take_box Z.F_take_box.kp (bi_take_box Z) pv7 (margs2 fx pv7 t1 t2 (pad_cons (pd_var fx 5) (pad_cons (pd_var fx 3) pad_nil))) h2 h3 ne D1 D2 ⟨st.1, st.2, b, n, (i : Nat), szw, hb, rfl, rfl, by rw [hw], rfl, rfl⟩ q))
    · have l2' := of_decide_eq_false tt
      have hrp := rowP_say (st := st) l2'
      cases hx : sayTake st.1 st.2 (Txt.split row " ") with
      | some x =>
        rw [hx] at hrp
        refine rs_cons (as_expr (as_callM (S := S5) fx (ok_take_saying Z hP) Z.m_take_saying Z.F_take_saying.kp (bi_take_saying Z) pv7 (margs2 fx pv7 t1 t2 (pad_cons (pd_var fx 5) (pad_cons (pd_var fx 3) pad_nil))) h2 h3 ne D1 D2 ⟨st.1, st.2, _, (i : Nat), x, szw, hx, rfl, rfl, rfl, rfl, rfl, rfl⟩ fun v S' H' zs1 zs2 pv' dv' E1 E2 ex => ?_))
        exact rs_nil (rs_nil (cont _ hrp S' H' zs1 zs2 pv' E1 E2 ex))
      | none =>
      rw [hx] at hrp
      have hin : stAt (rowsOf t) (i + 1) = none := by rw [stAt_succ hrow, h1]; exact hrp
      have e : i = bad := by
        rcases Nat.lt_trichotomy i bad with z | z | z
        · obtain ⟨s', hs'⟩ := stAt_le (i := i + 1) z hsb
          rw [hin] at hs'; cases hs'
        · exact z
        · obtain ⟨s', hs'⟩ := stAt_le (i := bad + 1) z h1
          rw [hbn] at hs'; cases hs'
      subst e
      exact rs_cons (as_expr (as_callMX (S := S5) fx tk (okx_take_saying Z hP) Z.m_take_saying Z.F_take_saying.kp (bi_take_saying Z) pv7 (margs2 fx pv7 t1 t2 (pad_cons (pd_var fx 5) (pad_cons (pd_var fx 3) pad_nil))) h2 h3 ne D1 D2 ⟨st.1, st.2, _, (i : Nat), szw, hx, rfl, rfl, rfl, rfl, rfl⟩ q))
  · exfalso
    rw [List.length_mapIdx] at h1
    obtain ⟨s', hs'⟩ := stAt_le (i := bad + 1) hbl h1
    rw [hbn] at hs'; cases hs'
end
end K9
set_option Elab.async false
set_option linter.all false
set_option maxRecDepth 100000
set_option maxHeartbeats 4000000
namespace K9
open PySem PySem.Spec L2 Wd
open PyProof.Rows hiding St
open TL
/-! ### the law's reading of sayings -/
def readL : List Str → Option Say
  | [a, p, v] => if p ∈ partL then (numQ v (-1000) 1000).bind fun i => some (.at_ a p i) else none
  | [a, m, b, c, y] => if m = "amid" ∧ y ∈ wayL then some (.amd a y b c) else none
  | [a, s, o, b, y, v] => if o = "of" ∧ y = "by" ∧ s ∈ sideL then (numQ v (-1000) 1000).bind fun i => some (.bes a s b i)
      else if o = "as" ∧ y = "times" ∧ s ∈ partL then (numQ v 1 9).bind fun i => some (.alk a s b i) else none
  | _ => none
theorem sayP_readL (ws : List Str) : sayP ws = (readL ws).bind fun x => if unlikeOk x.names = true then some x else none := by
  match ws with
  | [a, p, v] =>
    show ((numP v).bind fun i => if nameOk a = true ∧ p ∈ partL ∧ -1000 ≤ i ∧ i ≤ 1000 then some (Say.at_ a p i) else none) = (if p ∈ partL then (numQ v (-1000) 1000).bind fun i => some (Say.at_ a p i) else none).bind fun x => if unlikeOk x.names = true then some x else none
    rw [num_agree (by decide) (by decide)]
    by_cases hp : p ∈ partL
    · rw [if_pos hp]
      cases numP v with
      | none => rfl
      | some i =>
        show (if nameOk a = true ∧ p ∈ partL ∧ -1000 ≤ i ∧ i ≤ 1000 then some (Say.at_ a p i) else none) = (((if -1000 ≤ i ∧ i ≤ 1000 then some i else none : Option Int).bind fun i => some (Say.at_ a p i)).bind fun x => if unlikeOk x.names = true then some x else none)
        by_cases hr : -1000 ≤ i ∧ i ≤ 1000
        · rw [if_pos hr]
          show _ = if unlikeOk [a] = true then _ else _
          rw [unlike1b]
          by_cases hn : nameOk a = true
          · rw [if_pos ⟨hn, hp, hr⟩, if_pos hn]
          · rw [if_neg (fun z => hn z.1), if_neg hn]
        · rw [if_neg hr, if_neg (fun z => hr z.2.2)]; rfl
    · rw [if_neg hp]
      cases numP v with
      | none => rfl
      | some i => exact if_neg fun z => hp z.2.1
  | [a, m, b, c, y] =>
    show (if m = "amid" then (if unlikeOk [a, b, c] = true ∧ y ∈ wayL then some (Say.amd a y b c) else none) else none) = (if m = "amid" ∧ y ∈ wayL then some (Say.amd a y b c) else none).bind fun x => if unlikeOk x.names = true then some x else none
    by_cases hm : m = "amid"
    · by_cases hy : y ∈ wayL
      · rw [if_pos hm, if_pos (c := m = "amid" ∧ y ∈ wayL) ⟨hm, hy⟩]
        show _ = if unlikeOk [a, b, c] = true then _ else _
        by_cases hn : unlikeOk [a, b, c] = true
        · rw [if_pos ⟨hn, hy⟩, if_pos hn]
        · rw [if_neg (fun z => hn z.1), if_neg hn]
      · rw [if_pos hm, if_neg (c := m = "amid" ∧ y ∈ wayL) (fun z => hy z.2), if_neg (fun z => hy z.2)]; rfl
    · rw [if_neg hm, if_neg (c := m = "amid" ∧ y ∈ wayL) (fun z => hm z.1)]; rfl
  | [a, s, o, b, y, v] =>
    show (if o = "of" ∧ y = "by" then (numP v).bind fun i => if unlikeOk [a, b] = true ∧ s ∈ sideL ∧ -1000 ≤ i ∧ i ≤ 1000 then some (Say.bes a s b i) else none
      else if o = "as" ∧ y = "times" then (numP v).bind fun i => if unlikeOk [a, b] = true ∧ s ∈ partL ∧ 1 ≤ i ∧ i ≤ 9 then some (Say.alk a s b i) else none else none) = (if o = "of" ∧ y = "by" ∧ s ∈ sideL then (numQ v (-1000) 1000).bind fun i => some (Say.bes a s b i)
      else if o = "as" ∧ y = "times" ∧ s ∈ partL then (numQ v 1 9).bind fun i => some (Say.alk a s b i) else none).bind fun x => if unlikeOk x.names = true then some x else none
    rw [num_agree (by decide) (by decide), num_agree (by decide) (by decide)]
    by_cases q1 : o = "of" ∧ y = "by"
    · rw [if_pos q1]
      have q2 : ¬(o = "as" ∧ y = "times" ∧ s ∈ partL) := fun z => by rw [q1.1] at z; exact absurd z.1 (by decide +kernel)
      rw [if_neg q2]
      by_cases hs : s ∈ sideL
      · rw [if_pos ⟨q1.1, q1.2, hs⟩]
        cases numP v with
        | none => rfl
        | some i =>
          show (if unlikeOk [a, b] = true ∧ s ∈ sideL ∧ -1000 ≤ i ∧ i ≤ 1000 then some (Say.bes a s b i) else none) = (((if -1000 ≤ i ∧ i ≤ 1000 then some i else none : Option Int).bind fun i => some (Say.bes a s b i)).bind fun x => if unlikeOk x.names = true then some x else none)
          by_cases hr : -1000 ≤ i ∧ i ≤ 1000
          · rw [if_pos hr]
            show _ = if unlikeOk [a, b] = true then _ else _
            by_cases hn : unlikeOk [a, b] = true
            · rw [if_pos ⟨hn, hs, hr⟩, if_pos hn]
            · rw [if_neg (fun z => hn z.1), if_neg hn]
          · rw [if_neg hr, if_neg (fun z => hr z.2.2)]; rfl
      · rw [if_neg (fun z => hs z.2.2)]
        cases numP v with
        | none => rfl
        | some i => exact if_neg fun z => hs z.2.1
    · rw [if_neg q1, if_neg (c := o = "of" ∧ y = "by" ∧ s ∈ sideL) (fun z => q1 ⟨z.1, z.2.1⟩)]
      by_cases q2 : o = "as" ∧ y = "times"
      · rw [if_pos q2]
        by_cases hs : s ∈ partL
        · rw [if_pos ⟨q2.1, q2.2, hs⟩]
          cases numP v with
          | none => rfl
          | some i =>
            show (if unlikeOk [a, b] = true ∧ s ∈ partL ∧ 1 ≤ i ∧ i ≤ 9 then some (Say.alk a s b i) else none) = (((if 1 ≤ i ∧ i ≤ 9 then some i else none : Option Int).bind fun i => some (Say.alk a s b i)).bind fun x => if unlikeOk x.names = true then some x else none)
            by_cases hr : 1 ≤ i ∧ i ≤ 9
            · rw [if_pos hr]
              show _ = if unlikeOk [a, b] = true then _ else _
              by_cases hn : unlikeOk [a, b] = true
              · rw [if_pos ⟨hn, hs, hr⟩, if_pos hn]
              · rw [if_neg (fun z => hn z.1), if_neg hn]
            · rw [if_neg hr, if_neg (fun z => hr z.2.2)]; rfl
        · rw [if_neg (fun z => hs z.2.2)]
          cases numP v with
          | none => rfl
          | some i => exact if_neg fun z => hs z.2.1
      · rw [if_neg q2, if_neg (fun z => q2 ⟨z.1, z.2.1⟩)]; rfl
  | [] => rfl
  | [_] => rfl
  | [_, _] => rfl
  | [_, _, _, _] => rfl
  | _ :: _ :: _ :: _ :: _ :: _ :: _ :: _ => rfl
theorem say_agree {ns : List Str} (hn : ∀ n ∈ ns, nameOk n = true) {xs : List Say} {ws : List Str} : sayTake ns xs ws = (readL ws).bind fun x => if (x.names.Nodup ∧ ofNames x ns = true) ∧ xs.length ≠ 16 then some x else none := by
  have e : sayTake ns xs ws = (sayP ws).bind fun x => if ofNames x ns = true ∧ xs.length ≠ 16 then some x else none := by
    unfold sayTake
    cases sayP ws <;> rfl
  rw [e, sayP_readL]
  cases readL ws with
  | none => rfl
  | some x =>
    show (if unlikeOk x.names = true then some x else none).bind (fun x => if ofNames x ns = true ∧ xs.length ≠ 16 then some x else none) = if (x.names.Nodup ∧ ofNames x ns = true) ∧ xs.length ≠ 16 then some x else none
    by_cases ho : ofNames x ns = true
    · have hall : x.names.all nameOk = true := by
        refine List.all_eq_true.mpr fun n hm => hn n ?_
        have z := List.all_eq_true.mp ho n hm
        unfold inV at z
        rw [List.any_map] at z
        obtain ⟨m, hm1, hm2⟩ := List.any_eq_true.mp z
        have e : (m == n) = true := hm2
        rw [← eq_of_beq e]
        exact hm1
      have hu : (unlikeOk x.names = true) ↔ x.names.Nodup := by
        unfold unlikeOk
        rw [hall, Bool.true_and]
        exact ⟨fun z => (unlikes_iff _).mp (of_decide_eq_true z), fun z => decide_eq_true ((unlikes_iff _).mpr z)⟩
      by_cases hd : x.names.Nodup
      · rw [if_pos (hu.mpr hd)]
        show (if ofNames x ns = true ∧ xs.length ≠ 16 then some x else none) = _
        by_cases hl : xs.length ≠ 16
        · rw [if_pos ⟨ho, hl⟩, if_pos ⟨⟨hd, ho⟩, hl⟩]
        · rw [if_neg (fun z => hl z.2), if_neg (fun z => hl z.2)]
      · rw [if_neg (fun z => hd (hu.mp z)), if_neg (fun z => hd z.1.1)]; rfl
    · rw [if_neg (c := (x.names.Nodup ∧ ofNames x ns = true) ∧ xs.length ≠ 16) (fun z => ho z.1.2)]
      by_cases hu : unlikeOk x.names = true
      · rw [if_pos hu]
        exact if_neg fun z => ho z.1
      · rw [if_neg hu]
        rfl
theorem in_strs {x : Str} {l : List Str} {tv : Bool} (h : decide (x ∈ l) = tv) : inV (.str x) (l.map V.str) = tv := by
  rw [← h]
  by_cases q : x ∈ l
  · rw [inV_mem q, decide_eq_true q]
  · rw [decide_eq_false q]
    cases e : inV (.str x) (l.map V.str) with
    | false => rfl
    | true =>
      unfold inV at e
      rw [List.any_map] at e
      obtain ⟨m, hm1, hm2⟩ := List.any_eq_true.mp e
      have e : (m == x) = true := hm2
      rw [eq_of_beq e] at hm1
      exact absurd hm1 q
def isNon : D → Bool
  | .non => true
  | _ => false
def rIsN : R2 := fun x y H Q => y = .non ∧ Q (.bl (decide (x = .non))) H
def rNotN : R2 := fun x y H Q => y = .non ∧ Q (.bl (!decide (x = .non))) H
theorem nlen {ds : List D} {n : Int} {b : Bool} (h : decide ((ds.length : Int) = n) = b) : (!decide (V.int (ds.length : Nat) = V.int n)) = !b := by rw [decV, h]
theorem rd_isN {K : PySem.W.Frag} {d : D} : RD K rIsN d .non (.sh (.bl (isNon d))) := fun S H x y s h1 h2 Q q => by
  cases h2
  refine ⟨rfl, ?_⟩
  have e : decide (x = V.non) = isNon d := by cases h1 <;> rfl
  rw [e]
  exact here s .bl q
theorem rd_notN {K : PySem.W.Frag} {d : D} : RD K rNotN d .non (.sh (.bl (!isNon d))) := fun S H x y s h1 h2 Q q => by
  cases h2
  refine ⟨rfl, ?_⟩
  have e : decide (x = V.non) = isNon d := by cases h1 <;> rfl
  rw [e]
  exact here s .bl q
def optS : Option Say → D
  | none => .non
  | some x => x.t
def PrReadL (ds : List D) (r : Wd.Slot) : Prop := ∃ ws : List Str, (ws.length ≤ 2000 ∧ ∀ y ∈ ws, y.length ≤ 1000) ∧ ds = [.lst (ws.map .str)] ∧ r = .sh (optS (readL ws))
section
variable {P : Program} {w : World} {K : PySem.W.Frag} {mg : Str → Option Value} {base : Heap} (Z : Env K mg w)
include Z
theorem bi_l_is_name : Binds K Z.d_l_is_name ["_law_word"] [] := Z.F_l_is_name.bindsN fun _ _ _ _ _ _ us hl => match us, hl with | [_], _ => rfl
theorem bi_l_read_saying : Binds K Z.d_l_read_saying ["_law_words_here"] [] := Z.F_l_read_saying.bindsN fun _ _ _ _ _ _ us hl => match us, hl with | [_], _ => rfl
theorem ok_l_is_name : FnOk P w K mg base (L2.CX P w) 1 (He.ga K "_law_is_name") Z.d_l_is_name ["_law_word"] (spD K PrName) := by
  refine fn_data Z.F_l_is_name sc_l_is_name (fun ds r ⟨x, _, e, _⟩ => (by rw [e]; rfl)) fun cdv A outer s H E fx ds r hp => ?_
  obtain ⟨x, hx, rfl, rfl⟩ := hp
  refine ⟨.rt _, ?_, .rt⟩
  exact pssd_rt (psd_ret (pd_and (pd_within pd_int (pd_blt fx (fun _ => call_lenU) Z.b_len (pad_cons (pd_var fx 0) pad_nil) (rc_len (.str (by rw [sizeLine_eq]; omega)))) pd_int) fun _ => pd_one (pd_allC fx [("_law_sign", 1)] x.cps.toList (fun c => D.str ⟨#[c]⟩) _ Z.b_all (pid_str (pd_var fx 0)) (by rw [← len_tl, sizeLine_eq]; omega) fun c hc => ⟨_, _, tgd_name fx.bk 1, fun _ h => h, pd_in fx.bk (pd_var fx.bk 1) pd_str .sign⟩)))
theorem ok_l_read_saying : FnOk P w K mg base (L2.CX P w) 2 (He.ga K "_law_read_saying") Z.d_l_read_saying ["_law_words_here"] (spD K PrReadL) := by
  refine fn_data Z.F_l_read_saying sc_l_read_saying (fun ds r ⟨x, _, e, _⟩ => (by rw [e]; rfl)) fun cdv A outer s H E fx ds r hp => ?_
  obtain ⟨ws, ⟨hl, hy⟩, rfl, rfl⟩ := hp
  refine ⟨.rt _, ?_, .rt⟩
  match ws, hl, hy with
  | [a, p, v], hl, hy =>
    have lv : v.length ≤ 1000 := hy v (by simp)
    by_cases hp : p ∈ partL
    · refine pssd_ifT (PWD.t (pwd_and (tv := true) (tw := true) (ptd_cast (decV.trans rfl) (ptd_eq fx (pd_blt fx (fun _ => call_lenU) Z.b_len (pad_cons (pd_var fx 0) pad_nil) (rc_len (.lst .lst))) pd_int (.flat rfl rfl rfl))) fun _ => pwd_and1 (ptd_cast (in_strs (decide_eq_true hp)) (ptd_in fx (pd_sub fx (pd_var fx 0) pd_int (.lst .lst rfl)) (PED.share (pd_call0 fx (ok_l_parts Z) Z.m_l_parts Z.F_l_parts.kp (bi_l_parts Z) .nil (fun _ => .nil) ⟨rfl, rfl⟩)) (.lst .lst (by rw [List.map_map, List.map_map]; rfl) rfl))))) (pssd_cons (psd_set (rs := .sh (optI (numQ v (-1000) 1000))) fx 1 (pd_call fx (ok_l_number Z) Z.m_l_number Z.F_l_number.kp (bi_l_number Z) .nil (fun _ => .nil) (pad_cons (pd_sub fx (pd_var fx 0) pd_int (.lst .lst rfl)) (pad_cons (pd_neg pd_int) (pad_cons pd_int pad_nil))) ⟨v, (-1000), 1000, by rw [sizeLine_eq]; omega, rfl, rfl⟩)) ?_) (fun _ z => nomatch z)
      have e : readL [a, p, v] = (numQ v (-1000) 1000).bind fun i => some (.at_ a p i) := if_pos hp
      rw [e]
      cases numQ v (-1000) 1000 with
      | none => exact pssd_rt (psd_ret (pd_if (tv := true) (ptd_cmp (fun _ => op_isN) (nomark _) (pd_var fx 1) pd_non rd_isN) (fun _ => pd_non) (fun z => nomatch z)))
      | some i => exact pssd_rt (psd_ret (pd_if (tv := false) (ptd_cmp (fun _ => op_isN) (nomark _) (pd_var fx 1) pd_non rd_isN) ((fun z => nomatch z)) fun _ => pd_tup (pad_cons pd_str (pad_cons (pd_sub fx (pd_var fx 0) pd_int (.lst .lst rfl)) (pad_cons (pd_sub fx (pd_var fx 0) pd_int (.lst .lst rfl)) (pad_cons (pd_var fx 1) pad_nil))))))
    · have e : readL [a, p, v] = none := if_neg hp
      rw [e]
      exact pssd_ifF (PWD.t (pwd_and (tv := true) (tw := false) (ptd_cast (decV.trans rfl) (ptd_eq fx (pd_blt fx (fun _ => call_lenU) Z.b_len (pad_cons (pd_var fx 0) pad_nil) (rc_len (.lst .lst))) pd_int (.flat rfl rfl rfl))) fun _ => pwd_and1 (ptd_cast (in_strs (decide_eq_false hp)) (ptd_in fx (pd_sub fx (pd_var fx 0) pd_int (.lst .lst rfl)) (PED.share (pd_call0 fx (ok_l_parts Z) Z.m_l_parts Z.F_l_parts.kp (bi_l_parts Z) .nil (fun _ => .nil) ⟨rfl, rfl⟩)) (.lst .lst (by rw [List.map_map, List.map_map]; rfl) rfl))))) (pssd_ifF (PWD.t (pwd_and (tv := false) (tw := false) (ptd_cast (decV.trans rfl) (ptd_eq fx (pd_blt fx (fun _ => call_lenU) Z.b_len (pad_cons (pd_var fx 0) pad_nil) (rc_len (.lst .lst))) pd_int (.flat rfl rfl rfl))) (fun z => nomatch z))) (pssd_ifT (ptd_cast (nlen (b := false) rfl) (ptd_ne fx (pd_blt fx (fun _ => call_lenU) Z.b_len (pad_cons (pd_var fx 0) pad_nil) (rc_len (.lst .lst))) pd_int (.flat rfl rfl rfl))) (pssd_rt (psd_ret pd_non)) (fun _ z => nomatch z)))
  | [a, m, b, c, y], hl, hy =>
    refine pssd_ifF (PWD.t (pwd_and (tv := false) (tw := false) (ptd_cast (decV.trans rfl) (ptd_eq fx (pd_blt fx (fun _ => call_lenU) Z.b_len (pad_cons (pd_var fx 0) pad_nil) (rc_len (.lst .lst))) pd_int (.flat rfl rfl rfl))) (fun z => nomatch z))) ?_
    by_cases hm : m = "amid"
    · by_cases hw : y ∈ wayL
      · have e : readL [a, m, b, c, y] = some (.amd a y b c) := if_pos ⟨hm, hw⟩
        rw [e]
        exact pssd_ifT (PWD.t (pwd_and (tv := true) (tw := true) (ptd_cast (decV.trans rfl) (ptd_eq fx (pd_blt fx (fun _ => call_lenU) Z.b_len (pad_cons (pd_var fx 0) pad_nil) (rc_len (.lst .lst))) pd_int (.flat rfl rfl rfl))) fun _ => pwd_and (tv := true) (tw := true) (ptd_cast (strEq.trans (decide_eq_true hm)) (ptd_eq fx (pd_sub fx (pd_var fx 0) pd_int (.lst .lst rfl)) pd_str (.flat rfl rfl rfl))) fun _ => pwd_and1 (ptd_cast (in_strs (l := wayL) (decide_eq_true hw)) (ptd_in fx (pd_sub fx (pd_var fx 0) pd_int (.lst .lst rfl)) (pd_tup (pad_cons pd_str (pad_cons pd_str pad_nil))) (.tup (vs := _) .tup rfl rfl))))) (pssd_rt (psd_ret (pd_tup (pad_cons pd_str (pad_cons (pd_sub fx (pd_var fx 0) pd_int (.lst .lst rfl)) (pad_cons (pd_sub fx (pd_var fx 0) pd_int (.lst .lst rfl)) (pad_cons (pd_sub fx (pd_var fx 0) pd_int (.lst .lst rfl)) (pad_cons (pd_sub fx (pd_var fx 0) pd_int (.lst .lst rfl)) pad_nil)))))))) (fun _ z => nomatch z)
      · have e : readL [a, m, b, c, y] = none := if_neg fun z => hw z.2
        rw [e]
        exact pssd_ifF (PWD.t (pwd_and (tv := true) (tw := false) (ptd_cast (decV.trans rfl) (ptd_eq fx (pd_blt fx (fun _ => call_lenU) Z.b_len (pad_cons (pd_var fx 0) pad_nil) (rc_len (.lst .lst))) pd_int (.flat rfl rfl rfl))) fun _ => pwd_and (tv := true) (tw := false) (ptd_cast (strEq.trans (decide_eq_true hm)) (ptd_eq fx (pd_sub fx (pd_var fx 0) pd_int (.lst .lst rfl)) pd_str (.flat rfl rfl rfl))) fun _ => pwd_and1 (ptd_cast (in_strs (l := wayL) (decide_eq_false hw)) (ptd_in fx (pd_sub fx (pd_var fx 0) pd_int (.lst .lst rfl)) (pd_tup (pad_cons pd_str (pad_cons pd_str pad_nil))) (.tup (vs := _) .tup rfl rfl))))) (pssd_ifT (ptd_cast (nlen (b := false) rfl) (ptd_ne fx (pd_blt fx (fun _ => call_lenU) Z.b_len (pad_cons (pd_var fx 0) pad_nil) (rc_len (.lst .lst))) pd_int (.flat rfl rfl rfl))) (pssd_rt (psd_ret pd_non)) (fun _ z => nomatch z))
    · have e : readL [a, m, b, c, y] = none := if_neg fun z => hm z.1
      rw [e]
      exact pssd_ifF (PWD.t (pwd_and (tv := true) (tw := false) (ptd_cast (decV.trans rfl) (ptd_eq fx (pd_blt fx (fun _ => call_lenU) Z.b_len (pad_cons (pd_var fx 0) pad_nil) (rc_len (.lst .lst))) pd_int (.flat rfl rfl rfl))) fun _ => pwd_and (tv := false) (tw := false) (ptd_cast (strEq.trans (decide_eq_false hm)) (ptd_eq fx (pd_sub fx (pd_var fx 0) pd_int (.lst .lst rfl)) pd_str (.flat rfl rfl rfl))) (fun z => nomatch z))) (pssd_ifT (ptd_cast (nlen (b := false) rfl) (ptd_ne fx (pd_blt fx (fun _ => call_lenU) Z.b_len (pad_cons (pd_var fx 0) pad_nil) (rc_len (.lst .lst))) pd_int (.flat rfl rfl rfl))) (pssd_rt (psd_ret pd_non)) (fun _ z => nomatch z))
  | [a, sd, o, b, y, v], hl, hy =>
    have lv : v.length ≤ 1000 := hy v (by simp)
    refine pssd_ifF (PWD.t (pwd_and (tv := false) (tw := false) (ptd_cast (decV.trans rfl) (ptd_eq fx (pd_blt fx (fun _ => call_lenU) Z.b_len (pad_cons (pd_var fx 0) pad_nil) (rc_len (.lst .lst))) pd_int (.flat rfl rfl rfl))) (fun z => nomatch z))) (pssd_ifF (PWD.t (pwd_and (tv := false) (tw := false) (ptd_cast (decV.trans rfl) (ptd_eq fx (pd_blt fx (fun _ => call_lenU) Z.b_len (pad_cons (pd_var fx 0) pad_nil) (rc_len (.lst .lst))) pd_int (.flat rfl rfl rfl))) (fun z => nomatch z))) (pssd_ifF (ptd_cast (nlen (b := true) rfl) (ptd_ne fx (pd_blt fx (fun _ => call_lenU) Z.b_len (pad_cons (pd_var fx 0) pad_nil) (rc_len (.lst .lst))) pd_int (.flat rfl rfl rfl))) ?_))
    have c1 : ∀ {e1 e2 e3 : Expr} {pos : Pos} {γ : Gm}, PTD K (bodyX P w K mg base N_l_read_saying "_law_read_saying" (defScope s_l_read_saying) (He.ga K "_law_read_saying") cdv A outer s H E) e1 γ (decide (o = "of")) → PTD K (bodyX P w K mg base N_l_read_saying "_law_read_saying" (defScope s_l_read_saying) (He.ga K "_law_read_saying") cdv A outer s H E) e2 γ (decide (y = "by")) → PTD K (bodyX P w K mg base N_l_read_saying "_law_read_saying" (defScope s_l_read_saying) (He.ga K "_law_read_saying") cdv A outer s H E) e3 γ (decide (sd ∈ sideL)) → PTD K (bodyX P w K mg base N_l_read_saying "_law_read_saying" (defScope s_l_read_saying) (He.ga K "_law_read_saying") cdv A outer s H E) (.BoolOp .And [e1, e2, e3] pos) γ (decide (o = "of" ∧ y = "by" ∧ sd ∈ sideL)) := fun h1 h2 h3 => PWD.t (ptd_cast2 (by rw [Bool.decide_and, Bool.decide_and]) (pwd_and h1 fun _ => pwd_and h2 fun _ => pwd_and1 h3))
    have c2 : ∀ {e1 e2 e3 : Expr} {pos : Pos} {γ : Gm}, PTD K (bodyX P w K mg base N_l_read_saying "_law_read_saying" (defScope s_l_read_saying) (He.ga K "_law_read_saying") cdv A outer s H E) e1 γ (decide (o = "as")) → PTD K (bodyX P w K mg base N_l_read_saying "_law_read_saying" (defScope s_l_read_saying) (He.ga K "_law_read_saying") cdv A outer s H E) e2 γ (decide (y = "times")) → PTD K (bodyX P w K mg base N_l_read_saying "_law_read_saying" (defScope s_l_read_saying) (He.ga K "_law_read_saying") cdv A outer s H E) e3 γ (decide (sd ∈ partL)) → PTD K (bodyX P w K mg base N_l_read_saying "_law_read_saying" (defScope s_l_read_saying) (He.ga K "_law_read_saying") cdv A outer s H E) (.BoolOp .And [e1, e2, e3] pos) γ (decide (o = "as" ∧ y = "times" ∧ sd ∈ partL)) := fun h1 h2 h3 => PWD.t (ptd_cast2 (by rw [Bool.decide_and, Bool.decide_and]) (pwd_and h1 fun _ => pwd_and h2 fun _ => pwd_and1 h3))
    refine pssd_ifret (c1 (ptd_cast strEq (ptd_eq fx (pd_sub fx (pd_var fx 0) pd_int (.lst .lst rfl)) pd_str (.flat rfl rfl rfl))) (ptd_cast strEq (ptd_eq fx (pd_sub fx (pd_var fx 0) pd_int (.lst .lst rfl)) pd_str (.flat rfl rfl rfl))) (ptd_cast (in_strs (l := sideL) (rfl)) (ptd_in fx (pd_sub fx (pd_var fx 0) pd_int (.lst .lst rfl)) (pd_tup (pad_cons pd_str (pad_cons pd_str (pad_cons pd_str (pad_cons pd_str pad_nil))))) (.tup (vs := _) .tup rfl rfl)))) (fun h1 => ?_) fun h1 => ?_
    · have e : readL [a, sd, o, b, y, v] = (numQ v (-1000) 1000).bind fun i => some (.bes a sd b i) := if_pos (of_decide_eq_true h1)
      rw [e]
      refine pssd_cons (psd_set (rs := .sh (.tup [.str "beside", .str a, .str sd, .str b, optI (numQ v (-1000) 1000)])) fx 2 (pd_tup (pad_cons pd_str (pad_cons (pd_sub fx (pd_var fx 0) pd_int (.lst .lst rfl)) (pad_cons (pd_sub fx (pd_var fx 0) pd_int (.lst .lst rfl)) (pad_cons (pd_sub fx (pd_var fx 0) pd_int (.lst .lst rfl)) (pad_cons (pd_call fx (ok_l_number Z) Z.m_l_number Z.F_l_number.kp (bi_l_number Z) .nil (fun _ => .nil) (pad_cons (pd_sub fx (pd_var fx 0) pd_int (.lst .lst rfl)) (pad_cons (pd_neg pd_int) (pad_cons pd_int pad_nil))) ⟨v, (-1000), 1000, by rw [sizeLine_eq]; omega, rfl, rfl⟩) pad_nil))))))) ?_
      cases numQ v (-1000) 1000 with
      | none => exact pssd_rt (psd_ret (pd_if (tv := true) (ptd_cmp (fun _ => op_isN) (nomark _) (pd_sub fx (pd_var fx 2) pd_int (.tup .tup rfl)) pd_non rd_isN) (fun _ => pd_non) (fun z => nomatch z)))
      | some i => exact pssd_rt (psd_ret (pd_if (tv := false) (ptd_cmp (fun _ => op_isN) (nomark _) (pd_sub fx (pd_var fx 2) pd_int (.tup .tup rfl)) pd_non rd_isN) ((fun z => nomatch z)) fun _ => pd_var fx 2))
    · have r1 : ¬(o = "of" ∧ y = "by" ∧ sd ∈ sideL) := of_decide_eq_false h1
      refine pssd_ifret (c2 (ptd_cast strEq (ptd_eq fx (pd_sub fx (pd_var fx 0) pd_int (.lst .lst rfl)) pd_str (.flat rfl rfl rfl))) (ptd_cast strEq (ptd_eq fx (pd_sub fx (pd_var fx 0) pd_int (.lst .lst rfl)) pd_str (.flat rfl rfl rfl))) (ptd_cast (in_strs (rfl)) (ptd_in fx (pd_sub fx (pd_var fx 0) pd_int (.lst .lst rfl)) (PED.share (pd_call0 fx (ok_l_parts Z) Z.m_l_parts Z.F_l_parts.kp (bi_l_parts Z) .nil (fun _ => .nil) ⟨rfl, rfl⟩)) (.lst .lst (by rw [List.map_map, List.map_map]; rfl) rfl)))) (fun h2 => ?_) fun h2 => ?_
      · have e : readL [a, sd, o, b, y, v] = (numQ v 1 9).bind fun i => some (.alk a sd b i) := (if_neg r1).trans (if_pos (of_decide_eq_true h2))
        rw [e]
        refine pssd_cons (psd_set (rs := .sh (.tup [.str "alike", .str a, .str sd, .str b, optI (numQ v 1 9)])) fx 2 (pd_tup (pad_cons pd_str (pad_cons (pd_sub fx (pd_var fx 0) pd_int (.lst .lst rfl)) (pad_cons (pd_sub fx (pd_var fx 0) pd_int (.lst .lst rfl)) (pad_cons (pd_sub fx (pd_var fx 0) pd_int (.lst .lst rfl)) (pad_cons (pd_call fx (ok_l_number Z) Z.m_l_number Z.F_l_number.kp (bi_l_number Z) .nil (fun _ => .nil) (pad_cons (pd_sub fx (pd_var fx 0) pd_int (.lst .lst rfl)) (pad_cons pd_int (pad_cons pd_int pad_nil))) ⟨v, 1, 9, by rw [sizeLine_eq]; omega, rfl, rfl⟩) pad_nil))))))) ?_
        cases numQ v 1 9 with
        | none => exact pssd_rt (psd_ret (pd_if (tv := true) (ptd_cmp (fun _ => op_isN) (nomark _) (pd_sub fx (pd_var fx 2) pd_int (.tup .tup rfl)) pd_non rd_isN) (fun _ => pd_non) (fun z => nomatch z)))
        | some i => exact pssd_rt (psd_ret (pd_if (tv := false) (ptd_cmp (fun _ => op_isN) (nomark _) (pd_sub fx (pd_var fx 2) pd_int (.tup .tup rfl)) pd_non rd_isN) ((fun z => nomatch z)) fun _ => pd_var fx 2))
      · have e : readL [a, sd, o, b, y, v] = none := (if_neg r1).trans (if_neg (of_decide_eq_false h2))
        rw [e]
        exact pssd_rt (psd_ret pd_non)
  | [], hl, hy => exact pssd_ifF (PWD.t (pwd_and (tv := false) (tw := false) (ptd_cast (decV.trans rfl) (ptd_eq fx (pd_blt fx (fun _ => call_lenU) Z.b_len (pad_cons (pd_var fx 0) pad_nil) (rc_len (.lst .lst))) pd_int (.flat rfl rfl rfl))) (fun z => nomatch z))) (pssd_ifF (PWD.t (pwd_and (tv := false) (tw := false) (ptd_cast (decV.trans rfl) (ptd_eq fx (pd_blt fx (fun _ => call_lenU) Z.b_len (pad_cons (pd_var fx 0) pad_nil) (rc_len (.lst .lst))) pd_int (.flat rfl rfl rfl))) (fun z => nomatch z))) (pssd_ifT (ptd_cast (nlen (b := false) rfl) (ptd_ne fx (pd_blt fx (fun _ => call_lenU) Z.b_len (pad_cons (pd_var fx 0) pad_nil) (rc_len (.lst .lst))) pd_int (.flat rfl rfl rfl))) (pssd_rt (psd_ret pd_non)) (fun _ z => nomatch z)))
  | [x1], hl, hy => exact pssd_ifF (PWD.t (pwd_and (tv := false) (tw := false) (ptd_cast (decV.trans rfl) (ptd_eq fx (pd_blt fx (fun _ => call_lenU) Z.b_len (pad_cons (pd_var fx 0) pad_nil) (rc_len (.lst .lst))) pd_int (.flat rfl rfl rfl))) (fun z => nomatch z))) (pssd_ifF (PWD.t (pwd_and (tv := false) (tw := false) (ptd_cast (decV.trans rfl) (ptd_eq fx (pd_blt fx (fun _ => call_lenU) Z.b_len (pad_cons (pd_var fx 0) pad_nil) (rc_len (.lst .lst))) pd_int (.flat rfl rfl rfl))) (fun z => nomatch z))) (pssd_ifT (ptd_cast (nlen (b := false) rfl) (ptd_ne fx (pd_blt fx (fun _ => call_lenU) Z.b_len (pad_cons (pd_var fx 0) pad_nil) (rc_len (.lst .lst))) pd_int (.flat rfl rfl rfl))) (pssd_rt (psd_ret pd_non)) (fun _ z => nomatch z)))
  | [x1, x2], hl, hy => exact pssd_ifF (PWD.t (pwd_and (tv := false) (tw := false) (ptd_cast (decV.trans rfl) (ptd_eq fx (pd_blt fx (fun _ => call_lenU) Z.b_len (pad_cons (pd_var fx 0) pad_nil) (rc_len (.lst .lst))) pd_int (.flat rfl rfl rfl))) (fun z => nomatch z))) (pssd_ifF (PWD.t (pwd_and (tv := false) (tw := false) (ptd_cast (decV.trans rfl) (ptd_eq fx (pd_blt fx (fun _ => call_lenU) Z.b_len (pad_cons (pd_var fx 0) pad_nil) (rc_len (.lst .lst))) pd_int (.flat rfl rfl rfl))) (fun z => nomatch z))) (pssd_ifT (ptd_cast (nlen (b := false) rfl) (ptd_ne fx (pd_blt fx (fun _ => call_lenU) Z.b_len (pad_cons (pd_var fx 0) pad_nil) (rc_len (.lst .lst))) pd_int (.flat rfl rfl rfl))) (pssd_rt (psd_ret pd_non)) (fun _ z => nomatch z)))
  | [x1, x2, x3, x4], hl, hy => exact pssd_ifF (PWD.t (pwd_and (tv := false) (tw := false) (ptd_cast (decV.trans rfl) (ptd_eq fx (pd_blt fx (fun _ => call_lenU) Z.b_len (pad_cons (pd_var fx 0) pad_nil) (rc_len (.lst .lst))) pd_int (.flat rfl rfl rfl))) (fun z => nomatch z))) (pssd_ifF (PWD.t (pwd_and (tv := false) (tw := false) (ptd_cast (decV.trans rfl) (ptd_eq fx (pd_blt fx (fun _ => call_lenU) Z.b_len (pad_cons (pd_var fx 0) pad_nil) (rc_len (.lst .lst))) pd_int (.flat rfl rfl rfl))) (fun z => nomatch z))) (pssd_ifT (ptd_cast (nlen (b := false) rfl) (ptd_ne fx (pd_blt fx (fun _ => call_lenU) Z.b_len (pad_cons (pd_var fx 0) pad_nil) (rc_len (.lst .lst))) pd_int (.flat rfl rfl rfl))) (pssd_rt (psd_ret pd_non)) (fun _ z => nomatch z)))
  | x1 :: x2 :: x3 :: x4 :: x5 :: x6 :: x7 :: xs, hl, hy =>
    have ln : ∀ i : Nat, i < 7 → decide (V.int (((x1 :: x2 :: x3 :: x4 :: x5 :: x6 :: x7 :: xs).map D.str).length : Nat) = V.int (i : Nat)) = false := fun i hi => by
      rw [decV, List.length_map]
      exact decide_eq_false fun z => by
        have z2 : xs.length + 7 = i := by simpa using Int.ofNat.inj z
        omega
    exact pssd_ifF (PWD.t (pwd_and (tv := false) (tw := false) (ptd_cast (ln 3 (by decide)) (ptd_eq fx (pd_blt fx (fun _ => call_lenU) Z.b_len (pad_cons (pd_var fx 0) pad_nil) (rc_len (.lst .lst))) pd_int (.flat rfl rfl rfl))) (fun z => nomatch z))) (pssd_ifF (PWD.t (pwd_and (tv := false) (tw := false) (ptd_cast (ln 5 (by decide)) (ptd_eq fx (pd_blt fx (fun _ => call_lenU) Z.b_len (pad_cons (pd_var fx 0) pad_nil) (rc_len (.lst .lst))) pd_int (.flat rfl rfl rfl))) (fun z => nomatch z))) (pssd_ifT (ptd_cast (by rw [show decide (V.int (((x1 :: x2 :: x3 :: x4 :: x5 :: x6 :: x7 :: xs).map D.str).length : Nat) = V.int 6) = false from ln 6 (by decide)]; rfl) (ptd_ne fx (pd_blt fx (fun _ => call_lenU) Z.b_len (pad_cons (pd_var fx 0) pad_nil) (rc_len (.lst .lst))) pd_int (.flat rfl rfl rfl))) (pssd_rt (psd_ret pd_non)) (fun _ z => nomatch z)))
end
end K9
set_option Elab.async false
set_option linter.all false
set_option maxRecDepth 100000
set_option maxHeartbeats 4000000
namespace K9
open PySem PySem.Spec L2 Wd
open PyProof.Rows hiding St
open TL
/-! ### a row taken in by the law -/
def rowW (st : St2) (ws : List Str) : Option St2 := match ws with
  | [b, n] => if boxOk st.1 st.2 b n = true then some (st.1 ++ [n], st.2) else none
  | ws => (sayTake st.1 st.2 ws).map fun x => (st.1, st.2 ++ [x])
theorem rowP_rowW (st : St2) (row : Str) : rowP st row = rowW st (Txt.split row " ") := by
  unfold rowP rowW
  generalize Txt.split row " " = ws
  match ws with
  | [] => rfl
  | [_] => rfl
  | [_, _] => rfl
  | _ :: _ :: _ :: _ => rfl
theorem rowW_say {st : St2} {ws : List Str} (h : ws.length ≠ 2) : rowW st ws = (sayTake st.1 st.2 ws).map fun x => (st.1, st.2 ++ [x]) := by
  unfold rowW
  split
  · exact absurd rfl h
  · rfl
def pyT : Say → PyData
  | .at_ n p i => .tuple [.str "at", .str n, .str p, .int i]
  | .bes n s o b => .tuple [.str "beside", .str n, .str s, .str o, .int b]
  | .alk n p o m => .tuple [.str "alike", .str n, .str p, .str o, .int m]
  | .amd n v o u => .tuple [.str "amid", .str n, .str v, .str o, .str u]
theorem pyT_of (x : Say) : PyOf x.t (pyT x) := by
  cases x with
  | at_ n p i => exact .tup .tup (.cons .str (.cons .str (.cons .str (.cons .int .nil))))
  | bes n s o b => exact .tup .tup (.cons .str (.cons .str (.cons .str (.cons .str (.cons .int .nil)))))
  | alk n p o m => exact .tup .tup (.cons .str (.cons .str (.cons .str (.cons .str (.cons .int .nil)))))
  | amd n v o u => exact .tup .tup (.cons .str (.cons .str (.cons .str (.cons .str (.cons .str .nil)))))
theorem eqv_isEmpty {α : Type} (g : α → PyData) (xs : List α) : PyData.eqv (.list (xs.map g)) (.list []) = xs.isEmpty := by
  cases xs with
  | nil => rfl
  | cons x r => rfl
theorem unlikes_lt (xs : List Str) : decide ((unlikes xs : Int) < (xs.length : Int)) = !decide xs.Nodup := by
  have h1 : unlikes xs ≤ xs.length := WdSet.cnt_le xs xs.length
  have h2 := unlikes_iff xs
  by_cases q : xs.Nodup
  · rw [decide_eq_true q, decide_eq_false (by have := h2.mpr q; omega)]; rfl
  · rw [decide_eq_false q, decide_eq_true]; rfl
    have : unlikes xs ≠ xs.length := fun z => q (h2.mp z)
    omega
def embL (l1 l2 : Addr) (us : List V) : List V := us ++ [.ref l1, .ref l2]
theorem embL_len (l1 l2 : Addr) (us : List V) : (embL l1 l2 us).length = us.length + 2 := by unfold embL; rw [List.length_append]; rfl
def PrRowT (ds1 ds2 ds : List D) (r : D) (es1 es2 : List D) : Prop := ∃ (st : St2) (ws : List Str), StOk st ∧ (ws.length ≤ 2000 ∧ ∀ y ∈ ws, y.length ≤ 1000) ∧ ds1 = st.1.map .str ∧ ds2 = st.2.map Say.t ∧ ds = [.lst (ws.map .str)] ∧
  ((∃ s' : St2, rowW st ws = some s' ∧ r = .bl true ∧ es1 = s'.1.map .str ∧ es2 = s'.2.map Say.t) ∨ (rowW st ws = none ∧ r = .bl false ∧ es1 = ds1 ∧ es2 = ds2))
theorem boxL_test {K : PySem.W.Frag} {ι : Type} {Xs : ι → Cx} {γ : Gm} {e0 e1 e2 e3 e4 : Expr} {pos : Pos} {ns : List Str} {xs : List Say} {b n : Str} (h0 : PTD K Xs e0 γ (!decide (b = "box"))) (h4 : PTD K Xs e4 γ (!xs.isEmpty)) (h1 : PTD K Xs e1 γ (!nameOk n)) (h2 : PTD K Xs e2 γ (inV (.str n) (ns.map V.str))) (h3 : PTD K Xs e3 γ (decide ((ns.length : Int) = 6))) : PTD K Xs (.BoolOp .Or [e0, e4, e1, e2, e3] pos) γ (!boxOk ns xs b n) :=
  PWD.t (ptd_cast2 (by unfold boxOk; cases decide (b = "box") <;> cases nameOk n <;> cases inV (.str n) (ns.map V.str) <;> cases decide ((ns.length : Int) = 6) <;> cases xs.isEmpty <;> rfl) (pwd_or h0 fun _ => pwd_or h4 fun _ => pwd_or h1 fun _ => pwd_or h2 fun _ => pwd_or1 h3))
section
variable {P : Program} {w : World} {K : PySem.W.Frag} {mg : Str → Option Value} {base : Heap} (Z : Env K mg w)
include Z
theorem bi_l_row_taken : Binds K Z.d_l_row_taken ["_law_words_here", "_law_names_here", "_law_said"] [] := Z.F_l_row_taken.bindsN fun _ _ _ _ _ _ us hl => match us, hl with | [_, _, _], _ => rfl
theorem ok_l_row_taken : FnOk P w K mg base (L2.CX P w) 3 (He.ga K "_law_row_taken") Z.d_l_row_taken ["_law_words_here", "_law_names_here", "_law_said"] (spM K embL PrRowT) := by
  refine fnm_data Z.F_l_row_taken sc_l_row_taken embL_len (fun ds1 ds2 ds r es1 es2 ⟨st, ws, _, _, _, _, e, _⟩ => (by rw [e]; rfl)) fun cdv A outer s H E fx S vs l1 l2 us xs1 xs2 ds ds1 ds2 r es1 es2 D m hp hN q => ?_
  obtain ⟨⟨ns, xs⟩, ws, so, ⟨hl, hy⟩, rfl, rfl, rfl, hr⟩ := hp
  have ev := m.ev
  subst ev
  cases m.du with
  | @cons w1 _ us' _ dw1 du' =>
  cases du'
  have pv0 : Pv K ([.sh (.lst (ws.map .str)), .un, .un, .un, .un, .un] : Gm) (two l1 l2 xs1 xs2) (del2 H l1 l2) S S H (L2.start N_l_row_taken (embL l1 l2 [w1])) := m.pv (N := N_l_row_taken) (gs := [.sh (.lst (ws.map .str)), .un, .un]) rfl hN (fun j t ht => match j, ht with
    | 0, ht => by cases ht; exact .inr ⟨_, w1, rfl, rfl, dw1⟩
    | 1, ht => by cases ht; exact .inl rfl
    | 2, ht => by cases ht; exact .inl rfl
    | j + 3, ht => by simp at ht)
  have f1 : two l1 l2 xs1 xs2 l1 = some (.lst xs1) := two1
  have f2 : two l1 l2 xs1 xs2 l2 = some (.lst xs2) := two2 m.ne
  have D1 : Dats K S xs1 (ns.map .str) := m.d1
  have D2 : Dats K S xs2 (xs.map Say.t) := m.d2
  have n6 : ns.length ≤ 6 := so.n6
  have x16 : xs.length ≤ 16 := so.x16
  have lx1 : xs1.length ≤ 6 := by rw [D1.length, List.length_map]; exact n6
  have lx2 : xs2.length ≤ 16 := by rw [D2.length, List.length_map]; exact x16
  -- what is left unchanged
  have no : rowW (ns, xs) ws = none → ∀ {γ : Gm} {S2 H2 : Hp} {σ2 : L2.St} {pos : Pos} {e : Expr}, Ex S S2 → PED K (bodyC P w K mg base N_l_row_taken "_law_row_taken" (defScope s_l_row_taken) (He.ga K "_law_row_taken") cdv A outer s H E) e γ (.sh (.bl false)) → Pv K γ (two l1 l2 xs1 xs2) (del2 H l1 l2) S S2 H2 σ2 → ∀ D' : Ends, D'.rt = D.rt → anySs (bodyC P w K mg base N_l_row_taken "_law_row_taken" (defScope s_l_row_taken) (He.ga K "_law_row_taken") cdv A outer s H E) [.Return (some e) pos] D' σ2 H2 := fun h γ S2 H2 σ2 pos e ex he pv D' hD => by
    rcases hr with ⟨s', hs, _⟩ | ⟨_, rfl, rfl, rfl⟩
    · rw [h] at hs; cases hs
    · exact rs_cons (as_ret (pv.eval he fun v S' H' pv' g s r => by
        show D'.rt v H'
        rw [hD]
        exact (q v S' H' xs1 xs2 (pv_out pv' f1 f2 (D1.ex (Same.trans ex g.ss)) (D2.ex (Same.trans ex g.ss))) r).1))
  by_cases l2' : ws.length = 2
  · match ws, l2', hy, hr, no, pv0, dw1 with
    | [b, n], _, hy, hr, no, pv0, dw1 =>
    have hn : n.length ≤ 1000 := hy n (by simp)
    have fro := pv0.frozG (γ' := [.sh (.lst ([b, n].map .str)), .sh (.lst (ns.map .str)), .sh (.lst (xs.map Say.t)), .un, .un, .un]) rfl (fun j t ht => match j, ht with
    | 0, ht => by cases ht; exact .inl rfl
    | 1, ht => by cases ht; exact .inr (.inr ⟨.ref l1, _, rfl, rfl, .lst (uni_F f1) (D1.ex (uni_ex pv0.fs))⟩)
    | 2, ht => by cases ht; exact .inr (.inr ⟨.ref l2, _, rfl, rfl, .lst (uni_F f2) (D2.ex (uni_ex pv0.fs))⟩)
    | 3, ht => by cases ht; exact .inl rfl
    | 4, ht => by cases ht; exact .inl rfl
    | 5, ht => by cases ht; exact .inl rfl
    | j + 6, ht => by simp at ht)
    have id0 := pv0.frozG (γ' := [.sh (.lst ([b, n].map .str)), .un, .un, .un, .un, .un]) rfl (fun _ _ h => .inl h)
    refine rs_cons (as_if (tv := true) pv0 id0 (ptd_cast (decV.trans rfl) (ptd_eq fx (pd_blt fx (fun _ => call_lenU) Z.b_len (pad_cons (pd_var fx 0) pad_nil) (rc_len (.lst .lst))) pd_int (.flat rfl rfl rfl))) (fun _ H1 pv1 e1 => ?_) fun z => by cases z)
    have fro1 := pv1.frozG (γ' := [.sh (.lst ([b, n].map .str)), .sh (.lst (ns.map .str)), .sh (.lst (xs.map Say.t)), .un, .un, .un]) rfl (fun j t ht => match j, ht with
    | 0, ht => by cases ht; exact .inl rfl
    | 1, ht => by cases ht; exact .inr (.inr ⟨.ref l1, _, rfl, rfl, .lst (uni_F f1) (D1.ex (uni_ex pv1.fs))⟩)
    | 2, ht => by cases ht; exact .inr (.inr ⟨.ref l2, _, rfl, rfl, .lst (uni_F f2) (D2.ex (uni_ex pv1.fs))⟩)
    | 3, ht => by cases ht; exact .inl rfl
    | 4, ht => by cases ht; exact .inl rfl
    | 5, ht => by cases ht; exact .inl rfl
    | j + 6, ht => by simp at ht)
    refine rs_cons (as_if (tv := !boxOk ns xs b n) pv1 fro1 (boxL_test (xs := xs) (ns := ns) (b := b) (n := n) ?_ ?_ ?_ ?_ ?_) (fun hb H2 pv2 e2 => ?_) fun hb H2 pv2 e2 => ?_)
    · exact ptd_cast (by rw [strEq]) (ptd_ne fx (pd_sub fx (pd_var fx 0) pd_int (.lst .lst rfl)) pd_str (.flat rfl rfl rfl))
    · exact ptd_cast (by rw [eqv_isEmpty]) (ptd_ne fx (pd_var fx 2) (PED.share (pd_lst pad_nil)) (.py (.lst .lst (PysOf.map pyT_of xs)) (.lst .lst .nil) (Nat.le_trans (Nat.min_le_right _ _) (by decide))))
    · exact ptd_not (ptd_val (pd_call fx (ok_l_is_name Z) Z.m_l_is_name Z.F_l_is_name.kp (bi_l_is_name Z) .nil (fun _ => .nil) (pad_cons (pd_sub fx (pd_var fx 0) pd_int (.lst .lst rfl)) pad_nil) ⟨n, hn, rfl, rfl⟩))
    · exact ptd_in fx (pd_sub fx (pd_var fx 0) pd_int (.lst .lst rfl)) (pd_var fx 1) (.lst (vs := ns.map V.str) (v := .str n) .lst (by rw [List.map_map, List.map_map]; rfl) rfl)
    · exact ptd_cast (tv := decide (V.int ((ns.map Wd.D.str).length : Nat) = V.int 6)) (by rw [decV, List.length_map]) (ptd_eq fx (pd_blt fx (fun _ => call_lenU) Z.b_len (pad_cons (pd_var fx 1) pad_nil) (rc_len (.lst .lst))) pd_int (.flat rfl rfl rfl))
    · have hb : boxOk ns xs b n = false := by simpa using hb
      exact no (by show (if boxOk ns xs b n = true then some (ns ++ [n], xs) else none) = none; rw [hb]; rfl) (Same.refl _) pd_bl pv2 _ rfl
    · have hb : boxOk ns xs b n = true := by simpa using hb
      have hw : rowW (ns, xs) [b, n] = some (ns ++ [n], xs) := if_pos hb
      rcases hr with ⟨s', hs, rfl, rfl, rfl⟩ | ⟨hs, _⟩
      · rw [hw] at hs
        cases hs
        refine rs_nil (rs_cons (as_append fx 1 pv2 rfl f1 (pd_sub fx (pd_var fx 0) pd_int (.lst .lst rfl)) (by rw [sizeLine_eq]; omega) (fun v2 S4 H4 pv4 dv2 e4 => ?_)))
        exact rs_cons (as_ret (pv4.eval pd_bl fun v S' H' pv' g s r => (q v S' H' (xs1 ++ [v2]) xs2 (pv_out pv' upd_same (by rw [upd_ne (fun z => m.ne z.symm)]; exact f2) (by rw [List.map_append]; exact (D1.ex (Same.trans e4 g.ss)).append (.one (dv2.ex g.ss))) (D2.ex (Same.trans e4 g.ss))) r).1))
      · rw [hw] at hs; cases hs
  have id0 := pv0.frozG (γ' := [.sh (.lst (ws.map .str)), .un, .un, .un, .un, .un]) rfl (fun _ _ h => .inl h)
  refine rs_cons (as_if (tv := false) pv0 id0 (ptd_cast (tv := decide (V.int ((ws.map Wd.D.str).length : Nat) = V.int 2)) (by rw [decV, List.length_map]; exact decide_eq_false (by omega)) (ptd_eq fx (pd_blt fx (fun _ => call_lenU) Z.b_len (pad_cons (pd_var fx 0) pad_nil) (rc_len (.lst .lst))) pd_int (.flat rfl rfl rfl))) (fun z => by cases z) fun _ H1 pv1 e1 => rs_nil ?_)
  have hrw : rowW (ns, xs) ws = ((readL ws).bind fun x => if (x.names.Nodup ∧ ofNames x ns = true) ∧ xs.length ≠ 16 then some x else none).map fun x => (ns, xs ++ [x]) := by
    rw [rowW_say l2', say_agree so.nm]
  refine rs_cons (as_set fx 3 (pv1.eval (pd_call fx (ok_l_read_saying Z) Z.m_l_read_saying Z.F_l_read_saying.kp (bi_l_read_saying Z) .nil (fun _ => .nil) (pad_cons (pd_var fx 0) pad_nil) ⟨ws, ⟨hl, hy⟩, rfl, rfl⟩) fun v S3 H3 pv3 g3 s3 r3 => ?_))
  have D1 := D1.ex g3.ss
  have D2 := D2.ex g3.ss
  have pv4 : Pv K ([.sh (.lst (ws.map .str)), .un, .un, .sh (optS (readL ws)), .un, .un] : Gm) (two l1 l2 xs1 xs2) (del2 H l1 l2) S S3 H3 ((L2.start N_l_row_taken (embL l1 l2 [w1])).set 3 (some v)) := pv3.sets (j := 3) (Nat.le_of_ble_eq_true rfl) r3
  have fro4 := pv4.frozG (γ' := [.sh (.lst (ws.map .str)), .sh (.lst (ns.map .str)), .sh (.lst (xs.map Say.t)), .sh (optS (readL ws)), .un, .un]) rfl (fun j t ht => match j, ht with
    | 0, ht => by cases ht; exact .inl rfl
    | 1, ht => by cases ht; exact .inr (.inr ⟨.ref l1, _, rfl, rfl, .lst (uni_F f1) (D1.ex (uni_ex pv4.fs))⟩)
    | 2, ht => by cases ht; exact .inr (.inr ⟨.ref l2, _, rfl, rfl, .lst (uni_F f2) (D2.ex (uni_ex pv4.fs))⟩)
    | 3, ht => by cases ht; exact .inl rfl
    | 4, ht => by cases ht; exact .inl rfl
    | 5, ht => by cases ht; exact .inl rfl
    | j + 6, ht => by simp at ht)
  refine rs_cons (as_if (tv := isNon (optS (readL ws)) || decide ((xs.length : Int) = 16)) pv4 fro4 (PWD.t (pwd_or (ptd_cmp (fun _ => op_isN) (nomark _) (pd_var fx 3) pd_non rd_isN) fun _ => pwd_or1 (ptd_cast (tv := decide (V.int ((xs.map Say.t).length : Nat) = V.int 16)) (by rw [decV, List.length_map]) (ptd_eq fx (pd_blt fx (fun _ => call_lenU) Z.b_len (pad_cons (pd_var fx 2) pad_nil) (rc_len (.lst .lst))) pd_int (.flat rfl rfl rfl))))) (fun tt H5 pv5 e5 => ?_) fun tt H5 pv5 e5 => rs_nil ?_)
  · refine no (by
      rw [hrw]
      cases hR : readL ws with
      | none => rfl
      | some x =>
        rw [hR] at tt
        have tt : (isNon x.t || decide ((xs.length : Int) = 16)) = true := tt
        have t0 : isNon x.t = false := by cases x <;> rfl
        rw [t0, Bool.false_or] at tt
        have := of_decide_eq_true tt
        show Option.map _ (if _ then _ else _) = none
        rw [if_neg fun z => z.2 (by omega)]
        rfl) g3.ss pd_bl pv5 _ rfl
  obtain ⟨x, hR, h16⟩ : ∃ x, readL ws = some x ∧ xs.length ≠ 16 := by
    obtain ⟨t1, t2⟩ := Bool.or_eq_false_iff.mp tt
    cases hR : readL ws with
    | none => rw [hR] at t1; cases t1
    | some x => exact ⟨x, rfl, fun z => by have := of_decide_eq_false t2; omega⟩
  rw [hR] at pv5
  have hrx : rowW (ns, xs) ws = if (x.names.Nodup ∧ ofNames x ns = true) ∧ xs.length ≠ 16 then some (ns, xs ++ [x]) else none := by
    rw [hrw, hR]
    show Option.map _ (if _ then _ else _) = _
    by_cases z : (x.names.Nodup ∧ ofNames x ns = true) ∧ xs.length ≠ 16
    · rw [if_pos z, if_pos z]; rfl
    · rw [if_neg z, if_neg z]; rfl
  have nl3 : x.names.length ≤ 3 := by cases x <;> exact Nat.le_of_ble_eq_true rfl
  have tail : ∀ (S6 H6 : Hp) (σ6 : L2.St), Pv K ([.sh (.lst (ws.map .str)), .un, .un, .sh x.t, .sh (.lst (x.names.map .str)), .un] : Gm) (two l1 l2 xs1 xs2) (del2 H l1 l2) S S6 H6 σ6 → σ6[1]? = some (some (.ref l1)) → σ6[2]? = some (some (.ref l2)) → Ex S3 S6 → anySs (bodyC P w K mg base N_l_row_taken "_law_row_taken" (defScope s_l_row_taken) (He.ga K "_law_row_taken") cdv A outer s H E) ((defBody s_l_row_taken).drop 5) D σ6 H6 := fun S6 H6 σ6 pv6 z1 z2 e6 => by
    have D1 := D1.ex e6
    have D2 := D2.ex e6
    have fro6 := pv6.frozG (γ' := [.sh (.lst (ws.map .str)), .sh (.lst (ns.map .str)), .sh (.lst (xs.map Say.t)), .sh x.t, .sh (.lst (x.names.map .str)), .un]) rfl (fun j t ht => match j, ht with
    | 0, ht => by cases ht; exact .inl rfl
    | 1, ht => by cases ht; exact .inr (.inr ⟨.ref l1, _, rfl, z1, .lst (uni_F f1) (D1.ex (uni_ex pv6.fs))⟩)
    | 2, ht => by cases ht; exact .inr (.inr ⟨.ref l2, _, rfl, z2, .lst (uni_F f2) (D2.ex (uni_ex pv6.fs))⟩)
    | 3, ht => by cases ht; exact .inl rfl
    | 4, ht => by cases ht; exact .inl rfl
    | 5, ht => by cases ht; exact .inl rfl
    | j + 6, ht => by simp at ht)
    refine rs_cons (as_if (tv := !decide x.names.Nodup || !ofNames x ns) pv6 fro6 (PWD.t (pwd_or (ptd_cast (tv := decide (((unlikes x.names : Nat) : Int) < (((x.names.map Wd.D.str).length : Nat) : Int))) (by rw [List.length_map]; exact unlikes_lt x.names) (ptd_cmp (fun _ => op_lt) (nomark _) (pd_lenSet fx (pd_var fx 4) .lst Z.b_len Z.b_set (by omega)) (pd_blt fx (fun _ => call_lenU) Z.b_len (pad_cons (pd_var fx 4) pad_nil) (rc_len (.lst .lst))) rd_lt)) fun _ => pwd_or1 (ptd_not (ptd_val (pd_allC fx [("_law_name", 5)] x.names (fun n => Wd.D.str n) (fun n => inV (.str n) (ns.map V.str)) Z.b_all (pid_list fx .lst (pd_var fx 4)) (by rw [sizeLine_eq]; omega) fun n hm => ⟨_, _, tgd_name fx.bk 5, fun _ h => h, pd_in fx.bk (pd_var fx.bk 5) (pd_var fx.bk 1) (.lst (vs := ns.map V.str) (v := .str n) .lst (by rw [List.map_map, List.map_map]; rfl) rfl)⟩))))) (fun tt H7 pv7 e7 => ?_) fun tt H7 pv7 e7 => ?_)
    · refine no (by
        rw [hrx]
        refine if_neg fun z => ?_
        rw [decide_eq_true z.1.1, z.1.2] at tt
        cases tt) (Same.trans g3.ss e6) pd_bl pv7 _ rfl
    · obtain ⟨t1, t2⟩ := Bool.or_eq_false_iff.mp tt
      have hw : rowW (ns, xs) ws = some (ns, xs ++ [x]) := by
        rw [hrx]
        exact if_pos ⟨⟨of_decide_eq_true (by simpa using t1), by simpa using t2⟩, h16⟩
      rcases hr with ⟨s', hs, rfl, rfl, rfl⟩ | ⟨hs, _⟩
      · rw [hw] at hs
        cases hs
        refine rs_nil (rs_cons (as_append fx 2 pv7 z2 f2 (pd_var fx 3) (by rw [sizeLine_eq]; omega) (fun v2 S8 H8 pv8 dv2 e8 => ?_)))
        exact rs_cons (as_ret (pv8.eval pd_bl fun v S' H' pv' g s r => (q v S' H' xs1 (xs2 ++ [v2]) (pv_out pv' (by rw [upd_ne m.ne]; exact f1) upd_same (D1.ex (Same.trans e8 g.ss)) (by rw [List.map_append]; exact (D2.ex (Same.trans e8 g.ss)).append (.one (dv2.ex g.ss)))) r).1))
      · rw [hw] at hs; cases hs
  cases x with
  | at_ a p i =>
    have pv5 : Pv K ([.sh (.lst (ws.map .str)), .un, .un, .sh (Say.at_ a p i).t, .un, .un] : Gm) (two l1 l2 xs1 xs2) (del2 H l1 l2) S S3 H5 ((L2.start N_l_row_taken (embL l1 l2 [w1])).set 3 (some v)) := pv5
    refine rs_cons (as_set fx 4 (pv5.eval (PED.share (pd_if (tv := true) ((ptd_is Z fx (pd_sub fx (pd_var fx 3) pd_int (.tup .tup rfl)) pd_str (by decide +kernel))) (fun _ => pd_lst (pad_cons (pd_sub fx (pd_var fx 3) pd_int (.tup .tup rfl)) pad_nil)) fun z => nomatch z)) fun v4 S6 H6 pv6 g6 s6 r6 => ?_))
    have pv7 := pv6.sets (j := 4) (Nat.le_of_ble_eq_true rfl) r6
    refine rs_cons (as_if (tv := false) pv7 (pv7.frozG (γ' := [.sh (.lst (ws.map .str)), .un, .un, .sh (Say.at_ a p i).t, .sh (.lst ([a].map .str)), .un]) rfl (fun _ _ h => .inl h)) (ptd_is Z fx (pd_sub fx (pd_var fx 3) pd_int (.tup .tup rfl)) pd_str (by decide +kernel)) (fun z => by cases z) fun _ H8 pv8 e8 => rs_nil ?_)
    exact tail _ _ _ pv8 rfl rfl g6.ss
  | bes a sd o b =>
    have pv5 : Pv K ([.sh (.lst (ws.map .str)), .un, .un, .sh (Say.bes a sd o b).t, .un, .un] : Gm) (two l1 l2 xs1 xs2) (del2 H l1 l2) S S3 H5 ((L2.start N_l_row_taken (embL l1 l2 [w1])).set 3 (some v)) := pv5
    refine rs_cons (as_set fx 4 (pv5.eval (PED.share (pd_if (tv := false) ((ptd_is Z fx (pd_sub fx (pd_var fx 3) pd_int (.tup .tup rfl)) pd_str (by decide +kernel))) (fun z => nomatch z) fun _ => pd_lst (pad_cons (pd_sub fx (pd_var fx 3) pd_int (.tup .tup rfl)) (pad_cons (pd_sub fx (pd_var fx 3) pd_int (.tup .tup rfl)) pad_nil)))) fun v4 S6 H6 pv6 g6 s6 r6 => ?_))
    have pv7 := pv6.sets (j := 4) (Nat.le_of_ble_eq_true rfl) r6
    refine rs_cons (as_if (tv := false) pv7 (pv7.frozG (γ' := [.sh (.lst (ws.map .str)), .un, .un, .sh (Say.bes a sd o b).t, .sh (.lst ([a, o].map .str)), .un]) rfl (fun _ _ h => .inl h)) (ptd_is Z fx (pd_sub fx (pd_var fx 3) pd_int (.tup .tup rfl)) pd_str (by decide +kernel)) (fun z => by cases z) fun _ H8 pv8 e8 => rs_nil ?_)
    exact tail _ _ _ pv8 rfl rfl g6.ss
  | alk a sd o b =>
    have pv5 : Pv K ([.sh (.lst (ws.map .str)), .un, .un, .sh (Say.alk a sd o b).t, .un, .un] : Gm) (two l1 l2 xs1 xs2) (del2 H l1 l2) S S3 H5 ((L2.start N_l_row_taken (embL l1 l2 [w1])).set 3 (some v)) := pv5
    refine rs_cons (as_set fx 4 (pv5.eval (PED.share (pd_if (tv := false) ((ptd_is Z fx (pd_sub fx (pd_var fx 3) pd_int (.tup .tup rfl)) pd_str (by decide +kernel))) (fun z => nomatch z) fun _ => pd_lst (pad_cons (pd_sub fx (pd_var fx 3) pd_int (.tup .tup rfl)) (pad_cons (pd_sub fx (pd_var fx 3) pd_int (.tup .tup rfl)) pad_nil)))) fun v4 S6 H6 pv6 g6 s6 r6 => ?_))
    have pv7 := pv6.sets (j := 4) (Nat.le_of_ble_eq_true rfl) r6
    refine rs_cons (as_if (tv := false) pv7 (pv7.frozG (γ' := [.sh (.lst (ws.map .str)), .un, .un, .sh (Say.alk a sd o b).t, .sh (.lst ([a, o].map .str)), .un]) rfl (fun _ _ h => .inl h)) (ptd_is Z fx (pd_sub fx (pd_var fx 3) pd_int (.tup .tup rfl)) pd_str (by decide +kernel)) (fun z => by cases z) fun _ H8 pv8 e8 => rs_nil ?_)
    exact tail _ _ _ pv8 rfl rfl g6.ss
  | amd a y o u =>
    have pv5 : Pv K ([.sh (.lst (ws.map .str)), .un, .un, .sh (Say.amd a y o u).t, .un, .un] : Gm) (two l1 l2 xs1 xs2) (del2 H l1 l2) S S3 H5 ((L2.start N_l_row_taken (embL l1 l2 [w1])).set 3 (some v)) := pv5
    refine rs_cons (as_set fx 4 (pv5.eval (PED.share (pd_if (tv := false) ((ptd_is Z fx (pd_sub fx (pd_var fx 3) pd_int (.tup .tup rfl)) pd_str (by decide +kernel))) (fun z => nomatch z) fun _ => pd_lst (pad_cons (pd_sub fx (pd_var fx 3) pd_int (.tup .tup rfl)) (pad_cons (pd_sub fx (pd_var fx 3) pd_int (.tup .tup rfl)) pad_nil)))) fun v4 S6 H6 pv6 g6 s6 r6 => ?_))
    have pv7 := pv6.sets (j := 4) (Nat.le_of_ble_eq_true rfl) r6
    refine rs_cons (as_if (tv := true) pv7 (pv7.frozG (γ' := [.sh (.lst (ws.map .str)), .un, .un, .sh (Say.amd a y o u).t, .sh (.lst ([a, o].map .str)), .un]) rfl (fun _ _ h => .inl h)) (ptd_is Z fx (pd_sub fx (pd_var fx 3) pd_int (.tup .tup rfl)) pd_str (by decide +kernel)) (fun _ H8 pv8 e8 => ?_) fun z => by cases z)
    refine rs_cons (as_set fx 4 (pv8.eval (PED.share (pd_lst (pad_cons (pd_sub fx (pd_var fx 3) pd_int (.tup .tup rfl)) (pad_cons (pd_sub fx (pd_var fx 3) pd_int (.tup .tup rfl)) (pad_cons (pd_sub fx (pd_var fx 3) pd_int (.tup .tup rfl)) pad_nil))))) fun v9 S9 H9 pv9 g9 s9 r9 => ?_))
    have pv10 := pv9.sets (j := 4) (Nat.le_of_ble_eq_true rfl) r9
    exact rs_nil (tail _ _ _ pv10 rfl rfl (Same.trans g6.ss g9.ss))
end
end K9
set_option Elab.async false
set_option linter.all false
set_option maxRecDepth 100000
set_option maxHeartbeats 1000000
/-! Two new private lists; a call as a test; such a call's arguments in another order. -/
namespace Wd
open PySem PySem.Spec L2
open PyProof.Rows hiding St
section
variable {ι : Type} {Xs : ι → Cx} {W : WX} {P : Program} {w : World} {K : PySem.W.Frag} {mg : Str → Option Value} {base : Heap} {N : List Str} {k : Nat} {γ γ' : Gm} {d : D} {ds : List D} {e a tg : Expr} {es elts : List Expr} {sts sts' : List Stmt} {pos p pos' np pa pb px py pt pt2 : Pos} {x y : Str} {H0 S0 S H F : Hp} {σ : L2.St} {D : Ends}
theorem Pv.newL (pv : Pv K γ F H0 S0 S H σ) {l : Addr} (hl : H l = none) : F l = none ∧ Pv K γ (upd F l (.lst [])) H0 S0 S (upd H l (.lst [])) σ := by
  have hS : S l = none := pv.ok.sh.out hl
  have hF : F l = none := by
    cases z : F l with
    | none => rfl
    | some u => have y := pv.fh l u z; rw [hl] at y; cases y
  exact ⟨hF, (pv.back (H' := upd H l (.lst [])) (Ex.new hl)).add (a := l) (o := .lst []) upd_same hS (Ex.back pv.ok.h0 hl)⟩
/-- x, y = [], [] -/
theorem as_newL2 (fx : Fx Xs P w K mg base N k) (i j : Nat) {kt k2 : Nat} (pv : Pv K γ F H0 S0 S H σ) (hi : i < γ.length) (hj : j < γ.length) (q : ∀ l1 l2 H', F l1 = none → F l2 = none → l1 ≠ l2 → Pv K ((γ.set i .un).set j .un) (upd (upd F l1 (.lst [])) l2 (.lst [])) H0 S0 S H' ((σ.set i (some (.ref l1))).set j (some (.ref l2))) → D.nx ((σ.set i (some (.ref l1))).set j (some (.ref l2))) H') (hij : i ≠ j := by decide) (hN : N[i]? = some x := by rfl) (hM : N[j]? = some y := by rfl)
    (hx : ∀ q, (Xs q).env.scope.names.lookup x = some .local := by exact fun _ => rfl) (hy : ∀ q, (Xs q).env.scope.names.lookup y = some .local := by exact fun _ => rfl)
    (hw : ∀ q, swappedStores [.Tuple [.Name x px, .Name y py] kt pt] (.Tuple [.List [] pa, .List [] pb] k2 pt2) (Xs q).env = pure (some [x, y]) := by exact fun _ => rfl)
    (hs : ∀ q, swapsWithSole [.Tuple [.Name x px, .Name y py] kt pt] (.Tuple [.List [] pa, .List [] pb] k2 pt2) pos.line (Xs q).env = pure false := by exact fun _ => rfl)
    (h1 : ∀ q, starEach [.List [] pa, .List [] pb] (Xs q).env = (false, eval (.List [] pa) (Xs q).env) :: starEach [.List [] pb] (Xs q).env := by exact fun _ => rfl) (h2 : ∀ q, starEach [.List [] pb] (Xs q).env = (false, eval (.List [] pb) (Xs q).env) :: starEach [] (Xs q).env := by exact fun _ => rfl) :
    anyS Xs (.Assign [.Tuple [.Name x px, .Name y py] kt pt] (.Tuple [.List [] pa, .List [] pb] k2 pt2) pos) D σ H := by
  refine ⟨tPar i j (tCons (tLst tNil) (tCons (tLst tNil) tNil)), fun q => ps_par (fx.calm q) (by rw [fx.hN q]; exact fx.nd) (by rw [fx.hN q]; exact hN) (by rw [fx.hN q]; exact hM) hij (hx q) (hy q) (pa_cons (pe_lst pa_nil) (pa_cons (pe_lst pa_nil) pa_nil (h2 q)) (h1 q)) (hw q) (hs q), ?_⟩
  refine ⟨Nat.zero_le _, fun l1 hl1 => ?_⟩
  obtain ⟨n1, p1⟩ := pv.newL hl1
  refine ⟨Nat.zero_le _, fun l2 hl2 => ?_⟩
  obtain ⟨n2, p2⟩ := p1.newL hl2
  have ne : l1 ≠ l2 := fun z => by rw [z, upd_same] at n2; cases n2
  refine ⟨_, _, rfl, q l1 l2 _ n1 (by rw [upd_ne (fun z => ne z.symm)] at n2; exact n2) ne ((p2.setu hi).setu (by rw [List.length_set]; exact hj))⟩
/-- if not e, e's value a truth value -/
theorem as_ifN {R : Bool → Hp → Prop} (h : ∀ Q : VK, (∀ b H1, R b H1 → Q (.bl b) H1) → anyE Xs e σ H Q) (hF : ∀ H1, R false H1 → anySs Xs sts D σ H1) (hT : ∀ H1, R true H1 → anySs Xs sts' D σ H1)
    (he : ∀ i, ∀ whole, isTrue e (Xs i).env whole = (do let v ← whole; standAt e.pos; holding [v] (truthy v)) := by exact fun _ _ => rfl) : anyS Xs (.If (.UnaryOp .Not e p) sts sts' pos) D σ H :=
  ⟨tIfS (tNot (tB (anyE Xs e))) (anySs Xs sts) (anySs Xs sts'), fun i => ps_if (pt_not (pt_val (pe_any e i) (he i))) (pss_any sts i) (pss_any sts' i), h _ fun b H1 r => ⟨b, rfl, by
    cases b with
    | true => exact hT H1 r
    | false => exact hF H1 r⟩⟩
/-- the arguments: one value, then the two lists -/
theorem margsV (fx : Fx Xs P w K mg base N k) {l1 l2 : Addr} {i j : Nat} (pv : Pv K γ F H0 S0 S H σ) (he : PED K Xs e γ (.sh d)) (h1 : σ[i]? = some (some (.ref l1))) (h2 : σ[j]? = some (some (.ref l2))) (hN1 : N[i]? = some x := by rfl) (hN2 : N[j]? = some y := by rfl)
    (hv1 : ∀ q, Vis (Xs q).env.scope x := by first | exact fun _ => Or.inl rfl | exact fun _ => Or.inr (Or.inl rfl) | exact fun _ => Or.inr (Or.inr rfl)) (hv2 : ∀ q, Vis (Xs q).env.scope y := by first | exact fun _ => Or.inl rfl | exact fun _ => Or.inr (Or.inl rfl) | exact fun _ => Or.inr (Or.inr rfl))
    (d1 : (x == ("__debug__" : Str)) = false := by decide) (c1 : (x == ("__classdict__" : Str)) = false := by decide) (d2 : (y == ("__debug__" : Str)) = false := by decide) (c2 : (y == ("__classdict__" : Str)) = false := by decide)
    (s0 : ∀ q, starEach [e, .Name x pa, .Name y pb] (Xs q).env = (false, eval e (Xs q).env) :: starEach [.Name x pa, .Name y pb] (Xs q).env := by exact fun _ => rfl) (s1 : ∀ q, starEach [.Name x pa, .Name y pb] (Xs q).env = (false, eval (.Name x pa) (Xs q).env) :: starEach [.Name y pb] (Xs q).env := by exact fun _ => rfl) (s2 : ∀ q, starEach [.Name y pb] (Xs q).env = (false, eval (.Name y pb) (Xs q).env) :: starEach [] (Xs q).env := by exact fun _ => rfl) :
    MArgs K (fun l1 l2 us => us ++ [.ref l1, .ref l2]) l1 l2 [d] (anyA Xs [e, .Name x pa, .Name y pb]) γ F H0 S0 S H σ := fun Q q =>
  ⟨tCons (anyE Xs e) (tCons (tVar i) (tCons (tVar j) tNil)), fun i => pa_cons (pe_any e i) (pa_cons (pe_self _ fx hN1 hv1 d1 c1 i) (pa_cons (pe_self _ fx hN2 hv2 d2 c2 i) pa_nil (s2 i)) (s1 i)) (s0 i), he H0 S0 S H σ pv.ok _ fun v S' H' g s r => ⟨_, h1, _, h2, q [v] S' H' (pv.grow g s) g (.one r)⟩⟩
end
end Wd
set_option Elab.async false
set_option linter.all false
set_option maxRecDepth 100000
set_option maxHeartbeats 4000000
namespace K9
open PySem PySem.Spec L2 Wd
open PyProof.Rows hiding St
open TL
/-! ### the law's reading of a text -/
def lrD (row : D) (s : St2) : D := .tup [row, .lst (s.1.map .str), .lst (s.2.map Say.t)]
def readO (t : Str) (d : D) : Prop := (∃ s : St2, stAt (rowsOf t) (rowsOf t).length = some s ∧ d = lrD .non s) ∨ (∃ (i : Nat) (s : St2) (row : Str), (rowsOf t)[i]? = some row ∧ stAt (rowsOf t) i = some s ∧ rowP s row = none ∧ d = lrD (.int (i : Nat)) s)
theorem readO_ex (rows : List Str) : (∃ s : St2, stAt rows rows.length = some s) ∨ (∃ (i : Nat) (s : St2) (row : Str), rows[i]? = some row ∧ stAt rows i = some s ∧ rowP s row = none) := by
  cases h : stAt rows rows.length with
  | some s => exact .inl ⟨s, rfl⟩
  | none =>
    right
    have go : ∀ n, n ≤ rows.length → stAt rows n = none → ∃ (i : Nat) (s : St2) (row : Str), rows[i]? = some row ∧ stAt rows i = some s ∧ rowP s row = none := fun n => by
      induction n with
      | zero => intro _ z; cases z
      | succ n ih =>
        intro hn z
        cases e : stAt rows n with
        | none => exact ih (by omega) e
        | some s =>
          have er : rows[n]? = some rows[n] := List.getElem?_eq_getElem (by omega)
          rw [stAt_succ er, e] at z
          exact ⟨n, s, rows[n], er, e, z⟩
    exact go _ (Nat.le_refl _) h
def PrLRead (ds : List D) (r : Wd.Slot) : Prop := ∃ (t : Str) (d : D), t.length ≤ 1000 ∧ readO t d ∧ ds = [.str t] ∧ r = .sh d
theorem readO_stop {t : Str} {d : D} (h : readO t d) {i : Nat} {s : St2} {row : Str} (h1 : (rowsOf t)[i]? = some row) (h2 : stAt (rowsOf t) i = some s) (h3 : rowP s row = none) : d = lrD (.int (i : Nat)) s := by
  have hn : stAt (rowsOf t) (i + 1) = none := by rw [stAt_succ h1, h2]; exact h3
  have hl : i < (rowsOf t).length := (List.getElem?_eq_some_iff.mp h1).1
  rcases h with ⟨s', hs, _⟩ | ⟨j, s', row', g1, g2, g3, rfl⟩
  · obtain ⟨z, hz⟩ := stAt_le (i := i + 1) hl hs
    rw [hn] at hz; cases hz
  · have gn : stAt (rowsOf t) (j + 1) = none := by rw [stAt_succ g1, g2]; exact g3
    have e : i = j := by
      rcases Nat.lt_trichotomy i j with z | z | z
      · obtain ⟨y, hy⟩ := stAt_le (i := i + 1) z g2
        rw [hn] at hy; cases hy
      · exact z
      · obtain ⟨y, hy⟩ := stAt_le (i := j + 1) z h2
        rw [gn] at hy; cases hy
    subst e
    rw [h2] at g2
    cases g2
    rfl
theorem readO_all {t : Str} {d : D} (h : readO t d) {s : St2} (h1 : stAt (rowsOf t) (rowsOf t).length = some s) : d = lrD .non s := by
  rcases h with ⟨s', hs, rfl⟩ | ⟨j, s', row', g1, g2, g3, rfl⟩
  · rw [h1] at hs; cases hs; rfl
  · have gn : stAt (rowsOf t) (j + 1) = none := by rw [stAt_succ g1, g2]; exact g3
    obtain ⟨y, hy⟩ := stAt_le (i := j + 1) (List.getElem?_eq_some_iff.mp g1).1 h1
    rw [gn] at hy; cases hy
section
variable {P : Program} {w : World} {K : PySem.W.Frag} {mg : Str → Option Value} {base : Heap} (Z : Env K mg w)
include Z
theorem bi_l_read : Binds K Z.d_l_read ["_law_text_here"] [] := Z.F_l_read.bindsN fun _ _ _ _ _ _ us hl => match us, hl with | [_], _ => rfl
theorem ok_l_read : FnOk P w K mg base (L2.CX P w) 4 (He.ga K "_law_read") Z.d_l_read ["_law_text_here"] (spD K PrLRead) := by
  refine fn_data Z.F_l_read sc_l_read (fun ds r ⟨t, s, _, _, e, _⟩ => (by rw [e]; rfl)) fun cdv A outer s HH E fx ds r hp => ?_
  obtain ⟨t, dd, ht, hO, rfl, rfl⟩ := hp
  refine ⟨.rt _, fun H0 S0 S H σ D k q => ?_, .rt⟩
  have kl : σ.length = 5 := k.len
  have pv : Pv K ([.sh (.str t), .un, .un, .un, .un] : Gm) (fun _ => none) H0 S0 S H σ := Pv.nil k (fun j d hj => by
      match j, hj with
      | 0, hj => cases hj
      | 1, hj => cases hj
      | 2, hj => cases hj
      | 3, hj => cases hj
      | 4, hj => cases hj
      | j + 5, hj => simp at hj)
  have hrl : ∀ r ∈ rowsOf t, r.length ≤ 1000 := fun r hr => Nat.le_trans (split_short hr) ht
  have hrn : (rowsOf t).length ≤ 1002 := Nat.le_trans (split_le t _) (by omega)
  refine rs_cons (as_newL2 fx 1 2 pv (Nat.le_of_ble_eq_true rfl) (Nat.le_of_ble_eq_true rfl) fun l1 l2 H2 _ _ ne pv2 => ?_)
  have pv2 : Pv K ([.sh (.str t), .un, .un, .un, .un] : Gm) (upd (upd (fun _ => none) l1 (.lst [])) l2 (.lst [])) H0 S0 S H2 ((σ.set 1 (some (.ref l1))).set 2 (some (.ref l2))) := pv2
  refine rs_cons (as_set fx 3 (pv2.eval (PED.share (pd_split (pd_var fx 0) pd_str (by decide +kernel) (by rw [sizeLine_eq]; omega))) fun v3 S3 H3 pv3 g3 s3 r3 => ?_))
  have pv4 : Pv K ([.sh (.str t), .un, .un, .sh (.lst ((rowsOf t).map .str)), .un] : Gm) (upd (upd (fun _ => none) l1 (.lst [])) l2 (.lst [])) H0 S0 S3 H3 (((σ.set 1 (some (.ref l1))).set 2 (some (.ref l2))).set 3 (some v3)) := pv3.sets (j := 3) (Nat.le_of_ble_eq_true rfl) r3
  have hlen : ((((rowsOf t).map Wd.D.str).length : Nat) : Int).toNat = (rowsOf t).length := by rw [List.length_map]; rfl
  have ll : ((rowsOf t).map Wd.D.str).length ≤ 1002 := by rw [List.length_map]; exact hrn
  -- the end, from a frozen state
  have fin : ∀ (row : Expr) (rd : Wd.D) (sf : St2) (ys1 ys2 : List V) (F S H : Hp) (σ : L2.St) (γ : Gm) (Dt : Ends) (z : Nat) (p1 p2 p3 p4 : Pos), dd = lrD rd sf → Dt.rt = D.rt → Pv K γ F H0 S0 S H σ → γ.length = 5 → F l1 = some (.lst ys1) → F l2 = some (.lst ys2) → Dats K S ys1 (sf.1.map .str) → Dats K S ys2 (sf.2.map Say.t) → σ[1]? = some (some (.ref l1)) → σ[2]? = some (some (.ref l2)) →
      (PED K (bodyX P w K mg base N_l_read "_law_read" (defScope s_l_read) (He.ga K "_law_read") cdv A outer s HH E) row (γ.set 1 (.sh (.lst (sf.1.map .str))) |>.set 2 (.sh (.lst (sf.2.map Say.t)))) (.sh rd)) → (∀ i, starEach [row, .Name "_law_names_here" p1, .Name "_law_said" p2] ((bodyX P w K mg base N_l_read "_law_read" (defScope s_l_read) (He.ga K "_law_read") cdv A outer s HH E) i).env = (false, eval row ((bodyX P w K mg base N_l_read "_law_read" (defScope s_l_read) (He.ga K "_law_read") cdv A outer s HH E) i).env) :: starEach [.Name "_law_names_here" p1, .Name "_law_said" p2] ((bodyX P w K mg base N_l_read "_law_read" (defScope s_l_read) (He.ga K "_law_read") cdv A outer s HH E) i).env) → anySs (bodyX P w K mg base N_l_read "_law_read" (defScope s_l_read) (He.ga K "_law_read") cdv A outer s HH E) [.Return (some (.Tuple [row, .Name "_law_names_here" p1, .Name "_law_said" p2] z p3)) p4] Dt σ H := fun row rd sf ys1 ys2 F S H σ γ Dt z p1 p2 p3 p4 e hrt pv hl h2 h3 h4 h5 h6 h7 hrow hst => by
    have fro := pv.frozG (γ' := (γ.set 1 (.sh (.lst (sf.1.map .str)))).set 2 (.sh (.lst (sf.2.map Say.t)))) (by rw [List.length_set, List.length_set]) (fun j t ht => by
      by_cases j2 : 2 = j
      · subst j2
        rw [List.getElem?_set_self (by rw [List.length_set]; omega)] at ht
        cases ht
        exact .inr (.inr ⟨.ref l2, _, rfl, h7, .lst (uni_F h3) (h5.ex (uni_ex pv.fs))⟩)
      · rw [List.getElem?_set_ne j2] at ht
        by_cases j1 : 1 = j
        · subst j1
          rw [List.getElem?_set_self (by omega)] at ht
          cases ht
          exact .inr (.inr ⟨.ref l1, _, rfl, h6, .lst (uni_F h2) (h4.ex (uni_ex pv.fs))⟩)
        · rw [List.getElem?_set_ne j1] at ht
          exact .inl ht)
    have g1 : ((γ.set 1 (.sh (.lst (sf.1.map .str)))).set 2 (.sh (.lst (sf.2.map Say.t))))[1]? = some (.sh (.lst (sf.1.map .str))) := by rw [List.getElem?_set_ne (by decide), List.getElem?_set_self (by omega)]
    have g2 : ((γ.set 1 (.sh (.lst (sf.1.map .str)))).set 2 (.sh (.lst (sf.2.map Say.t))))[2]? = some (.sh (.lst (sf.2.map Say.t))) := List.getElem?_set_self (by rw [List.length_set]; omega)
    refine rs_cons (psd_ret (rs := .sh dd) (by rw [e]; exact pd_tup (pad_cons hrow (pad_cons (pd_var fx 1 (hg := g1)) (pad_cons (pd_var fx 2 (hg := g2)) pad_nil)) hst)) H0 S0 _ H σ _ fro fun v S' H' a b c d f => ?_)
    show Dt.rt v H'
    rw [hrt]
    exact q v S' H' a b c d f
  refine rs_cons (as_forP (γ := ([.sh (.str t), .un, .un, .sh (.lst ((rowsOf t).map .str)), .un] : Gm)) fx (List.range (((rowsOf t).map Wd.D.str).length : Int).toNat) (fun i : Nat => Wd.D.int (0 + (i : Int)))
    (pid_range1 fx (pad_cons (pd_blt fx (fun _ => call_lenU) Z.b_len (pad_cons (pd_var fx 3) pad_nil) (rc_len (.lst .lst))) pad_nil) Z.b_range ⟨by omega, by omega⟩)
    (fun i F S σ => ∃ (s : St2) (ys1 ys2 : List V), stAt (rowsOf t) i = some s ∧ F l1 = some (.lst ys1) ∧ F l2 = some (.lst ys2) ∧ Dats K S ys1 (s.1.map .str) ∧ Dats K S ys2 (s.2.map Say.t) ∧ σ[1]? = some (some (.ref l1)) ∧ σ[2]? = some (some (.ref l2)))
    (fun i F S S' σ ⟨s, ys1, ys2, h1, h2, h3, h4, h5, h6, h7⟩ e => ⟨s, ys1, ys2, h1, h2, h3, h4.ex e, h5.ex e, h6, h7⟩) pv4
    ⟨([], []), [], [], rfl, by rw [upd_ne ne]; exact upd_same, upd_same, .nil, .nil, by rw [List.getElem?_set_ne (by decide), List.getElem?_set_ne (by decide)]; exact List.getElem?_set_self (by omega), by rw [List.getElem?_set_ne (by decide)]; exact List.getElem?_set_self (by rw [List.length_set]; omega)⟩
    (fun i y hy F S H σ v Dt pv ⟨st, ys1, ys2, h1, h2, h3, h4, h5, h6, h7⟩ dv next hrt => ?_) fun F S H σ pv ⟨st, ys1, ys2, h1, h2, h3, h4, h5, h6, h7⟩ => ?_)
  · rw [hlen] at hy
    have hi : i < (rowsOf t).length := by
      have z := (List.getElem?_eq_some_iff.mp hy).1
      simpa using z
    have hyi : i = y := by
      rw [List.getElem?_range hi] at hy
      exact Option.some.inj hy
    subst hyi
    have hrow : (rowsOf t)[i]? = some (rowsOf t)[i] := List.getElem?_eq_getElem hi
    generalize hrw : (rowsOf t)[i] = row at hrow
    have so := stAt_ok hrl (Nat.le_of_lt hi) h1
    have rl : row.length ≤ 1000 := hrl row (List.mem_of_getElem? hrow)
    have wl : ∀ y ∈ Txt.split row " ", y.length ≤ 1000 := fun y hy => Nat.le_trans (split_short hy) rl
    have wn : (Txt.split row " ").length ≤ 2000 := Nat.le_trans (split_le row _) (by omega)
    have kl : σ.length = 5 := pv.ok.len
    have hT : ∀ {p1 : Pos}, TgD K (bodyX P w K mg base N_l_read "_law_read" (defScope s_l_read) (He.ga K "_law_read") cdv A outer s HH E) (.Name "_law_at" p1) ([.sh (.str t), .un, .un, .sh (.lst ((rowsOf t).map .str)), .un] : Gm) (.int (0 + (i : Int))) ([.sh (.str t), .un, .un, .sh (.lst ((rowsOf t).map .str)), .sh (.int (0 + (i : Int)))] : Gm) [4] := fun {p1} => tgd_name fx 4
    refine hT H0 S0 S H σ v pv.ok dv _ fun σ2 ok2 hl2 hs2 => ?_
    have pv3 : Pv K ([.sh (.str t), .un, .un, .sh (.lst ((rowsOf t).map .str)), .sh (.int (0 + (i : Int)))] : Gm) F H0 S0 S H σ2 := ⟨ok2, (fun j d hj => by
      match j, hj with
      | 0, hj => cases hj
      | 1, hj => cases hj
      | 2, hj => cases hj
      | 3, hj => cases hj
      | 4, hj => cases hj
      | j + 5, hj => simp at hj), pv.fh, pv.fs, pv.f0⟩
    have s1 : σ2[1]? = some (some (.ref l1)) := (hs2 1 (by decide)).trans h6
    have s2 : σ2[2]? = some (some (.ref l2)) := (hs2 2 (by decide)).trans h7
    have hat : atI ((rowsOf t).map Wd.D.str) (0 + (i : Int)) = some (.str row) := by
      rw [Int.zero_add]
      exact atI_nat (by rw [List.getElem?_map, hrow]; rfl)
    have hPW := rowP_rowW st row
    cases hR : rowP st row with
    | some s' =>
      rw [hR] at hPW
      refine rs_cons (as_ifN (R := fun b H1 => b = true ∧ ∃ S' zs1 zs2, Pv K ([.sh (.str t), .un, .un, .sh (.lst ((rowsOf t).map .str)), .sh (.int (0 + (i : Int)))] : Gm) (upd (upd F l1 (.lst zs1)) l2 (.lst zs2)) H0 S0 S' H1 σ2 ∧ Dats K S' zs1 (s'.1.map .str) ∧ Dats K S' zs2 (s'.2.map Say.t) ∧ Ex S S') (fun Q qq => as_callM fx (ok_l_row_taken Z) Z.m_l_row_taken Z.F_l_row_taken.kp (bi_l_row_taken Z) pv3 (margsV fx pv3 (PED.share (pd_split (pd_sub fx (pd_var fx 3) (pd_var fx 4) (.lst .lst hat)) pd_str (by decide +kernel) (by rw [sizeLine_eq]; omega))) s1 s2) h2 h3 ne h4 h5 ⟨st, _, so, ⟨wn, wl⟩, rfl, rfl, rfl, .inl ⟨s', hPW.symm, rfl, rfl, rfl⟩⟩ fun v S' H' zs1 zs2 pv' dv' E1 E2 ex => ?_) (fun H1 z => nomatch z.1) fun H1 ⟨_, S', zs1, zs2, pv', E1, E2, ex⟩ => ?_)
      · cases dv'
        exact qq true H' ⟨rfl, S', zs1, zs2, pv', E1, E2, ex⟩
      · exact rs_nil (rs_nil (next _ S' H1 _ (pv'.wk (Wk.s (Wk.u (Wk.u (Wk.s (Wk.u Wk.n))))) (fun j d hj => by
      match j, hj with
      | 0, hj => cases hj
      | 1, hj => cases hj
      | 2, hj => cases hj
      | 3, hj => cases hj
      | 4, hj => cases hj
      | j + 5, hj => simp at hj)) ⟨s', zs1, zs2, by rw [stAt_succ hrow, h1]; exact hR, by rw [upd_ne ne]; exact upd_same, upd_same, E1, E2, s1, s2⟩ ex))
    | none =>
      rw [hR] at hPW
      refine rs_cons (as_ifN (R := fun b H1 => b = false ∧ ∃ S' zs1 zs2, Pv K ([.sh (.str t), .un, .un, .sh (.lst ((rowsOf t).map .str)), .sh (.int (0 + (i : Int)))] : Gm) (upd (upd F l1 (.lst zs1)) l2 (.lst zs2)) H0 S0 S' H1 σ2 ∧ Dats K S' zs1 (st.1.map .str) ∧ Dats K S' zs2 (st.2.map Say.t)) (fun Q qq => as_callM fx (ok_l_row_taken Z) Z.m_l_row_taken Z.F_l_row_taken.kp (bi_l_row_taken Z) pv3 (margsV fx pv3 (PED.share (pd_split (pd_sub fx (pd_var fx 3) (pd_var fx 4) (.lst .lst hat)) pd_str (by decide +kernel) (by rw [sizeLine_eq]; omega))) s1 s2) h2 h3 ne h4 h5 ⟨st, _, so, ⟨wn, wl⟩, rfl, rfl, rfl, .inr ⟨hPW.symm, rfl, rfl, rfl⟩⟩ fun v S' H' zs1 zs2 pv' dv' E1 E2 ex => ?_) (fun H1 ⟨_, S', zs1, zs2, pv', E1, E2⟩ => ?_) fun H1 z => nomatch z.1)
      · cases dv'
        exact qq false H' ⟨rfl, S', zs1, zs2, pv', E1, E2⟩
      · exact fin _ (.int (0 + (i : Int))) st zs1 zs2 _ S' H1 σ2 ([.sh (.str t), .un, .un, .sh (.lst ((rowsOf t).map .str)), .sh (.int (0 + (i : Int)))] : Gm) _ _ _ _ _ _ (by rw [Int.zero_add]; exact readO_stop hO hrow h1 hR) hrt pv' rfl (by rw [upd_ne ne]; exact upd_same) upd_same E1 E2 s1 s2 (pd_var fx 4) fun _ => rfl
  · rw [List.length_range, hlen] at h1
    exact fin _ .non st ys1 ys2 F S H σ ([.sh (.str t), .un, .un, .sh (.lst ((rowsOf t).map .str)), .un] : Gm) _ _ _ _ _ _ (readO_all hO h1) rfl pv rfl h2 h3 h4 h5 h6 h7 pd_non fun _ => rfl
end
end K9
set_option Elab.async false
set_option linter.all false
set_option maxRecDepth 100000
set_option maxHeartbeats 1000000
/-! try .. except C as n, n's field read: the statement. -/
namespace Wd
open PySem PySem.Spec L2
open PyProof.Rows hiding St
section
variable {ι : Type} {Xs : ι → Cx} {W : WX} {P : Program} {w : World} {K : PySem.W.Frag} {mg : Str → Option Value} {base : Heap} {N : List Str} {k : Nat} {γ γ' : Gm} {d : D} {ds : List D} {e : Expr} {pos p pos' np : Pos} {x n c fld : Str} {body suite : List Stmt} {b₀ : Stmt} {hds : List ExceptHandler} {H0 S0 S H F : Hp} {σ : L2.St} {D : Ends} {fds : List (Str × Wd.D)} {C : Addr}
/-- x = e, e raising with a field -/
theorem as_setXF (fx : Fx Xs P w K mg base N k) (i : Nat) (ok : Ok K H0 S0 S H σ γ) (h : PXDF K Xs W e γ c fds) (q : ∀ dx S' H', Gr S H S' H' → Sub S' H' → H dx = none → XfAt K S' H' dx fds → W (.ref (He.ga K c)) (some dx) σ H') (hN : N[i]? = some x := by rfl) (hx : ∀ j, Loc (Xs j).env.scope x := by first | exact fun _ => Or.inl rfl | exact fun _ => Or.inr rfl)
    (hs : ∀ j, swapsWith e (some (.Name x np)) pos.line (Xs j).env = pure false := by exact fun _ => rfl) (hf : ∀ j, (Xs j).fn x = true ∨ (Xs j).env.scope.names.lookup x = some .local := by first | exact fun _ => Or.inl rfl | exact fun _ => Or.inr rfl) : anyS Xs (.Assign [.Name x np] e pos) D σ H :=
  ⟨tAsg (anyE Xs e) (gName i), fun j => ps_set (i := i) (by rw [fx.hN j]; exact fx.nd) (by rw [fx.hN j]; exact hN) (hx j) (pe_any e j) (hs j) (hf j), h H0 S0 S H σ ok q _⟩
theorem as_tryF (fx : Fx Xs P w K mg base N k) (i : Nat) (ts : Addr → Value → Option Addr → TS) (hs : ∀ i, (Xs i).stack = (Xs i).env :: (Xs i).outer) (hf : ∀ i, (Xs i).env.frame = some (Xs i).env.locals) (hi : N[i]? = some n) (hln : ∀ j, (Xs j).env.kindOf n = some .local) (hc : ∀ j, Names (Xs j) x (.ref C))
    (hsu : ∀ (j : ι) (a : Addr) (oe : Obj) (cls : Value) (d : Option Addr) (pn : List (Addr × Obj)), Zc cls d oe → (∃ vs, oe.data = .fields vs) → PSs ((Xs j).suite a ((a, oe) :: pn)) (b₀ :: suite) (ts a cls d))
    (h : anySs (trJ Xs (wFst K (.ref C) i ts D)) body D σ H) : anyS Xs (.Try body (.ExceptHandler (some (.Name x np)) (some n) (b₀ :: suite) pos' :: hds) [] [] pos) D σ H :=
  ⟨fun D σ H => anySs (trJ Xs (wFst K (.ref C) i ts D)) body D σ H, fun j => by
    have z := ps_try_fst (X := Xs j) (np := np) (pos := pos) (pos' := pos') (hds := hds) (tb := fun W => anySs (trJ Xs W) body) (ts := ts) (hs j) (hf j) (by rw [fx.hN j]; exact fx.nd) (by rw [fx.hN j]; exact hi) (hln j) (hc j) (fun W pn xe t => pss_any (Xs := trJ Xs W) body ⟨j, pn, xe, t⟩) (fun a oe cls d pn z1 z2 => hsu j a oe cls d pn z1 z2)
    rw [fx.hK j] at z
    exact z, h⟩
theorem as_psd {st : Stmt} {γ1 : Gm} (k : Ok K H0 S0 S H σ γ) (h : PSD K Xs st γ (.nx γ1)) (q : ∀ S H σ, Ok K H0 S0 S H σ γ1 → D.nx σ H) : anyS Xs st D σ H := h H0 S0 S H σ D k q
/-- return e.f == y and not isinstance(e.f, bool) -/
def teRow (C : Addr) (fld : Str) (i : Nat) (a : Addr) (cls : Value) (d : Option Addr) : TE := tXf a cls d C fld (tVar i)
def tsRow (K : PySem.W.Frag) (C : Addr) (fld : Str) (i j : Nat) : Addr → Value → Option Addr → TS := fun a cls d => tRet (tAndV (tOp rEq (teRow C fld i a cls d) (tVar j)) (tNotV (tCB (rIsiU K) (tCons (teRow C fld i a cls d) (tCons (tC (.ty "bool")) tNil)))))
theorem suite_row {X : Cx} {fd : FuncData} {qual : Str} {params : Arguments} {scope : Scope} {file : Str} {fbody : List Stmt} {y : Str} {i j : Nat} {p1 p2 p3 p4 p5 p6 p7 p8 p9 pa pb : Pos} {a : Addr} {oe : Obj} {cls : Value} {d : Option Addr} {pn : List (Addr × Obj)} (hz : Zc cls d oe) (hf : ∃ vs, oe.data = .fields vs) (hK : X.K = K) (hmg : X.mg = mg) (hN : X.N = N)
    (EF : ExcF K c fld fd qual params fbody scope file) (h1 : mg "isinstance" = none) (h2 : mg "bool" = none) (hi : N[i]? = some n) (hj : N[j]? = some y) (hv : Vis X.env.scope n) (hv2 : Vis X.env.scope y) (hg1 : Gl X "isinstance") (hg2 : Gl X "bool")
    (hb : ∀ p, attributeBase (.Name n p) fld X.env (eval (.Name n p) X.env) = eval (.Name n p) X.env) (d1 : (n == ("__debug__" : Str)) = false := by decide) (c1 : (n == ("__classdict__" : Str)) = false := by decide) (d2 : (y == ("__debug__" : Str)) = false := by decide) (c2 : (y == ("__classdict__" : Str)) = false := by decide)
    (he : starEach [.Attribute (.Name n p1) fld p2, .Name "bool" p3] X.env = (false, eval (.Attribute (.Name n p1) fld p2) X.env) :: starEach [.Name "bool" p3] X.env) (he2 : starEach [.Name "bool" p3] X.env = (false, eval (.Name "bool" p3) X.env) :: starEach [] X.env) (hpl : (backTo p4 (starEach [.Name "bool" p3] X.env)).any (·.1) = false) :
    PSs (X.suite a ((a, oe) :: pn)) [.Return (some (.BoolOp .And [.Compare (.Attribute (.Name n p5) fld p6) [.Eq] [.Name y p7] p8, .UnaryOp .Not (.Call (.Name "isinstance" p9) [.Attribute (.Name n p1) fld p2, .Name "bool" p3] [] p4) pa] pb)) pos] (tsRow K (He.ga K c) fld i j a cls d) := by
  subst hK hmg hN
  have row : ∀ q q2, PE (X.suite a ((a, oe) :: pn)) (.Attribute (.Name n q) fld q2) (teRow (He.ga X.K c) fld i a cls d) := fun q q2 => pe_xf EF.xf EF.nf hz hf (pe_var (i := i) hi hv d1 c1) (hb q)
  refine pss_one (ps_ret (pe_and (pe_cmpR op_eq (row _ _) (pe_var (i := j) hj hv2 d2 c2) (nomark _)) (pe_one (pe_not (pe_callB (call_isiU (X := X.suite a ((a, oe) :: pn))) hg1 h1 (by decide +kernel) (pa_cons (row _ _) (pa_cons (pe_bltn (v := .ty "bool") hg2 h2 (by decide +kernel) rfl (by decide) (by decide)) pa_nil he2) he) (by decide) (by decide) he hpl)))))
/-- what it comes to -/
theorem ts_row {fd : FuncData} {qual : Str} {params : Arguments} {scope : Scope} {file : Str} {fbody : List Stmt} (EF : ExcF K c fld fd qual params fbody scope file) {i j : Nat} {z : Int} {a dx : Addr} {S' H' : Hp} (hij : i ≠ j) (hl : i < σ.length) (hσ : σ[j]? = some (some (.int z))) (hx : XfAt K S' H' dx [(fld, .int z)]) (hs : Sub S' H') (q : ∀ S2 H2, Gr S' H' S2 H2 → Sub S2 H2 → D.rt (.bl true) H2) :
    tsRow K (He.ga K c) fld i j a (.ref (He.ga K c)) (some dx) D (σ.set i (some (.ref a))) H' := by
  obtain ⟨fs, h1, h2, h3⟩ := hx
  have e : fs = [(fld, .int z)] := by
    match fs, h2, h3 with
    | [(f, v)], h2, h3 =>
      injection h2 with h2 _
      have h2 : f = fld := h2
      subst h2
      cases h3 with
      | cons r _ => cases r; rfl
  subst e
  have hl2 : (List.lookup fld [(fld, V.int z)]) = some (.int z) := by simp
  have h5 : (σ.set i (some (.ref a)))[i]? = some (some (.ref a)) := List.getElem?_set_self hl
  have h6 : (σ.set i (some (.ref a)))[j]? = some (some (.int z)) := by rw [List.getElem?_set_ne hij]; exact hσ
  refine ⟨_, h5, rfl, rfl, dx, _, _, rfl, h1, hl2, _, h6, rfl, _, rfl, ?_⟩
  rw [decide_eq_true rfl]
  refine iteT ?_
  refine ⟨_, h5, rfl, rfl, dx, _, _, rfl, h1, hl2, ?_⟩
  refine rc_isi (K := K) (d := .int z) (c := .ty "bool") (b := false) (.one (.bt rfl) rfl rfl) S' H' _ hs (.cons .int (.cons .ty .nil)) _ fun v S2 H2 g s r => ?_
  cases r
  exact ⟨false, rfl, q S2 H2 g s⟩
end
end Wd
set_option Elab.async false
set_option linter.all false
set_option maxRecDepth 100000
set_option maxHeartbeats 4000000
namespace K9
open PySem PySem.Spec L2 Wd
open PyProof.Rows hiding St
open TL
/-! ### what is read, written again -/
theorem numP_back {v : Str} {i : Int} (h : numP v = some i) : Str.ofString (toString i) = v := by
  unfold numP at h
  split at h
  · split at h
    · rename_i q; cases h; exact q
    · cases h
  · cases h
theorem sayP_words {ws : List Str} {x : Say} (h : sayP ws = some x) : wordsS x = ws := by
  match ws, h with
  | [a, p, v], h =>
    have h : ((numP v).bind fun i => if nameOk a = true ∧ p ∈ partL ∧ -1000 ≤ i ∧ i ≤ 1000 then some (Say.at_ a p i) else none) = some x := h
    obtain ⟨i, hi, h⟩ := Option.bind_eq_some_iff.mp h
    split at h
    · cases h
      show [a, p, Str.ofString (toString i)] = _
      rw [numP_back hi]
    · cases h
  | [a, m, b, c, y], h =>
    have h : (if m = "amid" then (if unlikeOk [a, b, c] = true ∧ y ∈ wayL then some (Say.amd a y b c) else none) else none) = some x := h
    split at h
    · rename_i q
      split at h
      · cases h; rw [q]; rfl
      · cases h
    · cases h
  | [a, s, o, b, y, v], h =>
    have h : (if o = "of" ∧ y = "by" then (numP v).bind fun i => if unlikeOk [a, b] = true ∧ s ∈ sideL ∧ -1000 ≤ i ∧ i ≤ 1000 then some (Say.bes a s b i) else none
      else if o = "as" ∧ y = "times" then (numP v).bind fun i => if unlikeOk [a, b] = true ∧ s ∈ partL ∧ 1 ≤ i ∧ i ≤ 9 then some (Say.alk a s b i) else none else none) = some x := h
    split at h
    · rename_i q
      obtain ⟨i, hi, h⟩ := Option.bind_eq_some_iff.mp h
      split at h
      · cases h
        show [a, s, "of", b, "by", Str.ofString (toString i)] = _
        rw [numP_back hi, q.1, q.2]
      · cases h
    · split at h
      · rename_i q
        obtain ⟨i, hi, h⟩ := Option.bind_eq_some_iff.mp h
        split at h
        · cases h
          show [a, s, "as", b, "times", Str.ofString (toString i)] = _
          rw [numP_back hi, q.1, q.2]
        · cases h
      · cases h
  | [], h => cases h
  | [_], h => cases h
  | [_, _], h => cases h
  | [_, _, _, _], h => cases h
  | _ :: _ :: _ :: _ :: _ :: _ :: _ :: _, h => cases h
theorem join_box (n : Str) : Txt.join " " ["box", n] = boxS n := by
  apply ext_tl
  unfold boxS
  rw [tl_joinT, tl_cat]
  have e0 : tl Str.empty = [] := rfl
  have e1 : tl " " = [32] := by decide +kernel
  have e2 : tl "box " = tl "box" ++ [32] := by decide +kernel
  rw [e0, e1]
  simp [joinL, e2]
theorem rowP_back {s s' : St2} {row : Str} (h : rowP s row = some s') : rowsS s'.1 s'.2 = rowsS s.1 s.2 ++ [row] := by
  by_cases l2 : (Txt.split row " ").length = 2
  · match hw : Txt.split row " ", l2 with
    | [b, n], _ =>
      rw [rowP_two hw] at h
      split at h
      · rename_i q
        cases h
        unfold boxOk at q
        obtain ⟨q0, q⟩ := Bool.and_eq_true_iff.mp q
        obtain ⟨_, q⟩ := Bool.and_eq_true_iff.mp q
        obtain ⟨_, q⟩ := Bool.and_eq_true_iff.mp q
        obtain ⟨_, q4⟩ := Bool.and_eq_true_iff.mp q
        have hx : s.2 = [] := List.isEmpty_iff.mp q4
        have hb : b = "box" := of_decide_eq_true q0
        have e := join_split row " "
        rw [hw, hb, join_box] at e
        unfold rowsS
        rw [hx, List.map_nil, List.append_nil, List.append_nil, List.map_append, List.map_cons, e]
        rfl
      · cases h
  · rw [rowP_say l2] at h
    obtain ⟨x, hx, rfl⟩ := Option.map_eq_some_iff.mp h
    unfold sayTake at hx
    split at hx
    · rename_i y hy
      split at hx
      · cases hx
        have e := join_split row " "
        rw [← sayP_words hy, join_words] at e
        unfold rowsS
        rw [List.map_append, List.map_cons, List.map_nil, e, List.append_assoc]
      · cases hx
    · cases hx
theorem stAt_back {rows : List Str} : ∀ {i : Nat} {s : St2}, i ≤ rows.length → stAt rows i = some s → rowsS s.1 s.2 = rows.take i
  | 0, s, _, h => by cases h; rfl
  | i + 1, s, hi, h => by
    have e : rows[i]? = some rows[i] := by simp
    rw [stAt_succ e] at h
    obtain ⟨s0, h0, h1⟩ := Option.bind_eq_some_iff.mp h
    rw [rowP_back h1, stAt_back (by omega) h0, List.take_add_one, e]
    rfl
theorem text_back {t : Str} {s : St2} (h : stAt (rowsOf t) (rowsOf t).length = some s) : textS s.1 s.2 = t := by
  unfold textS
  rw [stAt_back (Nat.le_refl _) h, List.take_length]
  exact join_split t _
theorem pl_names (ns : List Str) : Pl (0 + 2) (.lst (ns.map .str)) := .lst .lst fun x hx => by
  obtain ⟨y, _, rfl⟩ := List.mem_map.mp hx
  exact .flat rfl
def addD (x : Say) : D := .tup [.dt (tmK x.tms), .int x.num]
theorem pl_adds (xs : List Say) : Pl (2 + 2) (.lst (xs.map addD)) := .lst .lst fun d hd => by
  obtain ⟨x, _, rfl⟩ := List.mem_map.mp hd
  refine .tup .tup fun y hy => ?_
  simp only [List.mem_cons, List.not_mem_nil, or_false] at hy
  rcases hy with rfl | rfl
  · exact .dt fun p hp => by
      unfold tmK at hp
      obtain ⟨t, _, rfl⟩ := List.mem_map.mp hp
      exact .flat rfl
  · exact .flat rfl
def PrJudged (ds : List D) (r : Wd.Slot) : Prop := ∃ t : Str, t.length ≤ 1000 ∧ ds = [.str t] ∧ r = .sh (.bl true)
section
variable {P : Program} {w : World} {K : PySem.W.Frag} {mg : Str → Option Value} {base : Heap} (Z : Env K mg w) (hP : SupP P pwFile)
include Z
theorem bi_l_judged : Binds K Z.d_l_judged ["_law_text_here"] [] := Z.F_l_judged.bindsN fun _ _ _ _ _ _ us hl => match us, hl with | [_], _ => rfl
include hP
theorem ok_l_judged : FnOk P w K mg base (L2.CX P w) 9 (He.ga K "_law_judged") Z.d_l_judged ["_law_text_here"] (spD K PrJudged) := by
  refine fn_data Z.F_l_judged sc_l_judged (fun ds r ⟨t, _, e, _⟩ => (by rw [e]; rfl)) fun cdv A outer s HH E fx ds r hp => ?_
  obtain ⟨t, ht, rfl, rfl⟩ := hp
  refine ⟨.rt _, ?_, .rt⟩
  rcases readO_ex (rowsOf t) with ⟨sf, hs⟩ | ⟨i, s2, row, hr, hs, hn⟩
  · have so := stAt_ok (fun r hr => Nat.le_trans (split_short hr) ht) (Nat.le_refl _) hs
    refine pssd_cons (psd_asg fx (pd_call fx (ok_l_read Z) Z.m_l_read Z.F_l_read.kp (bi_l_read Z) .nil (fun _ => .nil) (pad_cons (pd_var fx 0) pad_nil) ⟨t, lrD .non sf, ht, .inl ⟨sf, hs, rfl⟩, rfl, rfl⟩) (tgd_tup fx .tup (tgsd_cons (tgd_name fx 1) (tgsd_cons (tgd_name fx 2) (tgsd_cons (tgd_name fx 3) tgsd_nil))))) ?_
    have rest : PSsD K (bodyX P w K mg base N_l_judged "_law_judged" (defScope s_l_judged) (He.ga K "_law_judged") cdv A outer s HH E) ((defBody s_l_judged).drop 2) ([.sh (.str t), .sh .non, .sh (.lst (sf.1.map .str)), .sh (.lst (sf.2.map Say.t)), .sh (.obj "Sheet" (shF sf.1 sf.2)), .un, .un, .un, .un] : Gm) (.rt (.sh (.bl true))) := by
      refine pssd_ifF (PWD.t (pwd_or (tv := false) (tw := false) (ptd_cmp (fun _ => op_notN) (nomark _) (pd_var fx 1) pd_non rd_notN) fun _ => pwd_or (tv := false) (tw := false) (ptd_not (tv := true) (ptd_val (pd_isi fx (pad_cons (pd_var fx 4) (pad_cons (pd_globR fx Z.m_Sheet (dat_cls Z "Sheet")) pad_nil)) Z.b_isinstance (.one (.own Z.o_Sheet) rfl Z.kt_Sheet_Sheet)))) fun _ => pwd_or1 (ptd_ne fx (tv := true) (PED.share (pd_meth0 fx (pd_var fx 4) Z.c_Sheet Z.M_Sheet_names (ok_Sheet_names Z) (bi_Sheet_names Z) .nil (fun _ => .nil) rfl ⟨sf.1, sf.2, rfl, rfl⟩)) (pd_var fx 2) (.same (pl_names _) (by decide) (.inl ⟨_, .lst⟩))))) ?_
      have x16 : sf.2.length ≤ 16 := so.x16
      refine pssd_cons (psd_setLc fx 6 [("_law_one", 7)] sf.2 Say.t (fun _ => true) Say.d (pid_list fx .lst (pd_var fx 3)) (by rw [sizeLine_eq]; omega) (fun x hm => ⟨_, _, tgd_name fx.bk 7, fun _ h => h, ptsd_nil, fun _ => PED.share (pd_call fx.bk (ok_l_made Z) Z.m_l_made Z.F_l_made.kp (bi_l_made Z) .nil (fun _ => .nil) (pad_cons (pd_var fx.bk 7) pad_nil) ⟨x, (so.xo x hm).2, rfl, rfl⟩)⟩) (fun _ => blkOk_by rfl)) ?_
      rw [List.filter_eq_self.mpr fun _ _ => rfl]
      refine pssd_freeze 6 rfl ?_
      refine pssd_ifF (ptd_ne fx (tv := true) (PED.share (pd_lcA fx [("_law_saying_here", 8)] sf.2 Say.d addD (pid_list fx .lst (PED.share (pd_meth0 fx (pd_var fx 4) Z.c_Sheet Z.M_Sheet_sayings (ok_Sheet_sayings Z) (bi_Sheet_sayings Z) .nil (fun _ => .nil) rfl ⟨sf.1, sf.2, rfl, rfl⟩))) (by rw [sizeLine_eq]; omega) fun x hm => ⟨_, _, tgd_name fx.bk 8, fun _ h => h, PED.shareT (pd_sayAdds Z fx.bk x (so.xo x hm).2.wf (pd_var fx.bk 8) (by decide))⟩)) (PED.share (pd_lcA fx [("_law_saying_here", 8)] sf.2 Say.d addD (pid_list fx .lst (pd_var fx 6)) (by rw [sizeLine_eq]; omega) fun x hm => ⟨_, _, tgd_name fx.bk 8, fun _ h => h, PED.shareT (pd_sayAdds Z fx.bk x (so.xo x hm).2.wf (pd_var fx.bk 8) (by decide))⟩)) (.same (pl_adds _) (by decide) (.inl ⟨_, .lst⟩))) ?_
      exact pssd_rt (psd_ret (pd_cast (by rw [text_back hs, strEq, decide_eq_true rfl]) (pd_eq fx (pd_call fx (ok_written Z) Z.m_written Z.F_written.kp (bi_written Z) .nil (fun _ => .nil) (pad_cons (pd_var fx 4) pad_nil) ⟨sf.1, sf.2, ⟨so.n6, so.nl⟩, ⟨so.x16, fun x hx => (so.xo x hx).2⟩, rfl, rfl⟩) (pd_var fx 0) (.flat rfl rfl rfl))))
    refine fun H0 S0 S H σ D k q => rs_cons (as_tryF (C := He.ga K "BadRows") fx 5 (tsRow K (He.ga K "BadRows") "row" 5 1) (fun _ => rfl) (fun _ => rfl) rfl (fun _ => rfl) (fun _ => ⟨rfl, by decide, .inl Z.m_BadRows⟩) (fun j a oe cls d pn z1 z2 => suite_row z1 z2 rfl rfl rfl Z.E_BadRows Z.b_isinstance Z.b_bool rfl rfl (.inl rfl) (.inl rfl) rfl rfl (fun _ => rfl) (he := rfl) (he2 := rfl) (hpl := rfl)) ?_)
    refine rs_cons (as_psd k (psd_set fx.trj 4 (PED.share (pd_call fx.trj (ok_read Z hP) Z.m_read Z.F_read.kp (bi_read Z) .nil (fun _ => .nil) (pad_cons (pd_var fx.trj 0) pad_nil) ⟨t, sf, ht, hs, rfl, rfl⟩))) fun S1 H1 σ1 k1 => rs_nil (rest H0 S0 S1 H1 σ1 D k1 q))
  · refine pssd_cons (psd_asg fx (pd_call fx (ok_l_read Z) Z.m_l_read Z.F_l_read.kp (bi_l_read Z) .nil (fun _ => .nil) (pad_cons (pd_var fx 0) pad_nil) ⟨t, lrD (.int (i : Nat)) s2, ht, .inr ⟨i, s2, row, hr, hs, hn, rfl⟩, rfl, rfl⟩) (tgd_tup fx .tup (tgsd_cons (tgd_name fx 1) (tgsd_cons (tgd_name fx 2) (tgsd_cons (tgd_name fx 3) tgsd_nil))))) ?_
    refine fun H0 S0 S H σ D k q => rs_cons (as_tryF (C := He.ga K "BadRows") fx 5 (tsRow K (He.ga K "BadRows") "row" 5 1) (fun _ => rfl) (fun _ => rfl) rfl (fun _ => rfl) (fun _ => ⟨rfl, by decide, .inl Z.m_BadRows⟩) (fun j a oe cls d pn z1 z2 => suite_row z1 z2 rfl rfl rfl Z.E_BadRows Z.b_isinstance Z.b_bool rfl rfl (.inl rfl) (.inl rfl) rfl rfl (fun _ => rfl) (he := rfl) (he2 := rfl) (hpl := rfl)) ?_)
    have kl : σ.length = 9 := k.len
    obtain ⟨v1, hv1, dv1⟩ := k.en 1 (.sh (.int (i : Nat))) rfl
    cases dv1
    refine rs_cons (as_setXF fx.trj 4 k (pxf_call fx.trj (fun q => q.tk) (okx_read Z hP) Z.m_read Z.F_read.kp (bi_read Z) (pad_cons (pd_var fx.trj 0) pad_nil) ⟨t, i, s2, row, ht, hr, hs, hn, rfl, rfl, rfl⟩) fun dx S' H' g sb hd xf => ⟨Z.E_BadRows.em, fun a ha => ?_⟩)
    have g0 := (⟨k.s0, k.h0, k.nw⟩ : Gr S0 H0 S H).trans g
    exact ts_row Z.E_BadRows (i := 5) (j := 1) (by decide) (by omega) hv1 xf sb fun S2 H2 g2 s2 => q _ S2 H2 (g0.trans g2).hh (g0.trans g2).ss s2 (g0.trans g2).nw .bl
end
end K9
set_option Elab.async false
set_option linter.all false
set_option maxRecDepth 100000
set_option maxHeartbeats 2000000
/-! text[::-1]. -/
namespace L2
open PySem PySem.Spec PyProof.Rows
def revS (z : Str) : Str := Txt.sliceBy z none none (-1, 0)
def tRevS (te : TE) : TE := fun σ H Q => te σ H fun x H1 => ∃ z, x = .str z ∧ z.length ≤ sizeLine ∧ Q (.str (revS z)) H1
theorem pe_revS {X : Cx} {e : Expr} {te : TE} {k : Nat} {p1 p2 p3 pos : Pos} (he : PE X e te) : PE X (.Subscript e (.Slice none none (some (.UnaryOp .USub (.Constant (.int 1) k p1) p2)) p3) pos) (tRevS te) := by
  refine ⟨fun pins s σ H Q I h => ?_⟩
  refine Subscript_ (thn (he.run pins s σ H _ I h) fun v s1 ⟨x, H1, I1, r1, q1⟩ => ?_)
  obtain ⟨z, ex, hz, q⟩ := q1
  subst ex
  obtain ⟨t, rfl⟩ := r1
  have hst : PO X (some (.UnaryOp .USub (.Constant (.int 1) k p1) p2)) (tPart (tUn (rU fun i => .int (-i)) (tC (.int 1)))) := po_some (pe_un un_neg pe_int)
  refine wpAny_Slice (thn (po_none.run pins s1 σ H1 (fun o H2 => o = none ∧ H2 = H1) I1 ⟨rfl, rfl⟩) fun vl s2 ⟨l, H2, I2, pl, el, e2⟩ => ?_)
  subst el e2
  refine thn (po_none.run pins s2 σ H2 (fun o H3 => o = none ∧ H3 = H2) I2 ⟨rfl, rfl⟩) fun vu s3 ⟨u, H3, I3, pu, eu, e3⟩ => ?_
  subst eu e3
  refine thn (hst.run pins s3 σ H3 (fun o H4 => o = some (-1) ∧ H4 = H3) I3 ⟨1, rfl, -1, rfl, rfl, rfl⟩) fun vs s4 ⟨o, H4, I4, ps, eo, e4⟩ => ?_
  subst eo e4
  have I5 : Inv X pins σ H4 { s4 with heap := s4.heap.push { cls := .type "slice", data := .fields #[vl, vu, vs] } } := I4.kept (t' := s4.toks) fun b ob q => Heap.get?_push_of_some _ q
  show wpAny (model X.prog X.w) X.A (subscriptTail e (.Slice none none (some (.UnaryOp .USub (.Constant (.int 1) k p1) p2)) p3) (.str z t) (.ref s4.heap.objs.size)) (EP X pins σ Q) X.xe { s4 with heap := s4.heap.push { cls := .type "slice", data := .fields #[vl, vu, vs] } }
  refine tail_any (ops := [.str z t, .ref s4.heap.objs.size]) (typeIs_str _ _ _) (F.slot_str_getitem.lookup) ?_ (by with_unfolding_all rfl)
  obtain ⟨l, rfl, el⟩ := IsPart.raw pl
  obtain ⟨u, rfl, eu⟩ := IsPart.raw pu
  obtain ⟨st, rfl, es⟩ := IsPart.raw ps
  have el : l = none := by cases l with | none => rfl | some y => cases el
  have eu : u = none := by cases u with | none => rfl | some y => cases eu
  obtain ⟨tk, est⟩ : ∃ tk, st = some (-1, tk) := by
    cases st with
    | none => cases es
    | some y => obtain ⟨a, b⟩ := y; injection es with es; exact ⟨b, by rw [show a = -1 from es]⟩
  subst el eu est
  refine wpAny_getItem_str_slice (l := none) (u := none) (st := some (-1, tk)) ⟨_, Heap.get?_push_size _ rfl, rfl, rfl⟩ rfl ?_
  have hl : (revS z).length ≤ sizeLine := Nat.le_trans (Txt.sliceBy_le z none none (-1, 0) (by decide)) hz
  have e : sliceMade z t none none (some (-1, tk)) = Made.str (revS z) := by
    unfold revS Txt.sliceBy sliceMade
    have h1 : ∀ y : Bool, ¬ (((((some ((-1 : Int), tk)).map (·.1)).getD 1 == 1) && y) = true) := fun y => by
      have : ((((some ((-1 : Int), tk)).map (·.1)).getD 1 == 1)) = false := rfl
      rw [this]; simp
    have h2 : ∀ y : Bool, ¬ (((((some ((-1 : Int), (0 : Tok))).map (·.1)).getD 1 == 1) && y) = true) := fun y => by
      have : ((((some ((-1 : Int), (0 : Tok))).map (·.1)).getD 1 == 1)) = false := rfl
      rw [this]; simp
    rw [if_neg (h1 _), if_neg (h2 _)]
    rfl
  rw [e]
  exact ⟨hl, .str _, H4, I5.tok _, ⟨_, rfl⟩, q⟩
end L2
namespace Wd
open PySem PySem.Spec L2
open PyProof.Rows hiding St
section
variable {ι : Type} {Xs : ι → Cx} {P : Program} {w : World} {K : PySem.W.Frag} {mg : Str → Option Value} {base : Heap} {N : List Str} {k : Nat} {γ : Gm} {a : Expr} {pos : Pos} {x : Str}
theorem pd_revS {kk : Nat} {p1 p2 p3 : Pos} (ha : PED K Xs a γ (.sh (.str x))) (hx : x.length ≤ sizeLine) : PED K Xs (.Subscript a (.Slice none none (some (.UnaryOp .USub (.Constant (.int 1) kk p1) p2)) p3) pos) γ (.sh (.str (revS x))) :=
  .of (t := tRevS (anyE Xs a)) (fun i => pe_revS (pe_any a i)) fun H0 S0 S H σ k Q q => ha H0 S0 S H σ k _ fun v S1 H1 g1 s1 r1 => by
    cases r1
    exact ⟨x, rfl, hx, q _ S1 H1 g1 s1 .str⟩
end
end Wd
set_option Elab.async false
set_option linter.all false
set_option maxRecDepth 100000
set_option maxHeartbeats 4000000
namespace K9
open PySem PySem.Spec L2 Wd
open PyProof.Rows hiding St
open TL PySem.NumText
/-! ### how long the law's texts are; their rows -/
def Good (m : Nat) (y : Str) : Prop := 10 ∉ tl y ∧ y.length ≤ m
instance (m : Nat) (y : Str) : Decidable (Good m y) := by unfold Good; infer_instance
theorem good_name {n : Str} (h : nameOk n = true) : Good 8 n := by
  unfold nameOk at h
  obtain ⟨h1, h2⟩ := Bool.and_eq_true_iff.mp h
  obtain ⟨_, h3⟩ := Bool.and_eq_true_iff.mp h1
  refine ⟨fun z => ?_, by have := of_decide_eq_true h3; omega⟩
  have z1 := of_decide_eq_true (List.all_eq_true.mp h2 10 z)
  exact absurd z1 (by decide +kernel)
theorem good_num {i : Int} (h : -1000 ≤ i ∧ i ≤ 1000) : Good 5 (Str.ofString (toString i)) := by
  refine ⟨fun z => ?_, int_len h⟩
  have big : ∀ m, 10 ∉ numL m := fun m y => by have := numL_digits m 10 y; omega
  cases i with
  | ofNat m =>
    have e : tl (Str.ofString (toString ((m : Nat) : Int))) = numL m := tl_num m
    exact big m (by rw [← e]; exact z)
  | negSucc m =>
    rw [tl_neg] at z
    rcases List.mem_cons.mp z with z | z
    · exact absurd z (by decide)
    · exact big _ z
theorem good_part : ∀ p ∈ partL, Good 5 p := by decide +kernel
theorem good_side : ∀ p ∈ sideL, Good 5 p := by decide +kernel
theorem good_way : ∀ p ∈ wayL, Good 6 p := by decide +kernel
theorem good_cat {xs : List Str} {ms : List Nat} (h : Paired (fun y m => Good m y) xs ms) : 10 ∉ tl (catS Str.empty xs) ∧ (catS Str.empty xs).length ≤ ms.sum := by
  rw [tl_cat, cat_len]
  have e0 : tl Str.empty = [] := rfl
  have e1 : Str.empty.length = 0 := rfl
  rw [e0, e1, List.nil_append, Nat.zero_add]
  induction h with
  | nil => exact ⟨by simp, Nat.le_refl _⟩
  | cons r t ih =>
    refine ⟨fun z => ?_, ?_⟩
    · rw [List.map_cons, List.flatten_cons, List.mem_append] at z
      exact z.elim r.1 ih.1
    · rw [List.map_cons, List.sum_cons, List.sum_cons]
      have := r.2
      have := ih.2
      omega
theorem names_un {l : List Str} (h : unlikeOk l = true) : ∀ n ∈ l, nameOk n = true := List.all_eq_true.mp (Bool.and_eq_true_iff.mp h).1
theorem good_row {x : Say} (h : x.ok) : Good 40 (rowS x) := by
  cases x with
  | at_ n p i =>
    obtain ⟨_, h2, h3, h4, h5⟩ := h
    have z := good_cat (.cons (good_name h2) (.cons (show Good 1 " " by decide +kernel) (.cons (good_part p h3) (.cons (show Good 1 " " by decide +kernel) (.cons (good_num ⟨h4, h5⟩) .nil)))))
    exact ⟨z.1, Nat.le_trans z.2 (by decide)⟩
  | bes n s o b =>
    obtain ⟨_, h2, h3, h4, h5⟩ := h
    have z := good_cat (.cons (good_name (names_un h2 n (by simp))) (.cons (show Good 1 " " by decide +kernel) (.cons (good_side s h3) (.cons (show Good 4 " of " by decide +kernel) (.cons (good_name (names_un h2 o (by simp))) (.cons (show Good 4 " by " by decide +kernel) (.cons (good_num ⟨h4, h5⟩) .nil)))))))
    exact ⟨z.1, Nat.le_trans z.2 (by decide)⟩
  | alk n p o m =>
    obtain ⟨_, h2, h3, h4, h5⟩ := h
    have z := good_cat (.cons (good_name (names_un h2 n (by simp))) (.cons (show Good 1 " " by decide +kernel) (.cons (good_part p h3) (.cons (show Good 4 " as " by decide +kernel) (.cons (good_name (names_un h2 o (by simp))) (.cons (show Good 7 " times " by decide +kernel) (.cons (good_num (i := m) ⟨by omega, by omega⟩) .nil)))))))
    exact ⟨z.1, Nat.le_trans z.2 (by decide)⟩
  | amd n v o u =>
    obtain ⟨_, h2, h3⟩ := h
    have z := good_cat (.cons (good_name (names_un h2 n (by simp))) (.cons (show Good 6 " amid " by decide +kernel) (.cons (good_name (names_un h2 o (by simp))) (.cons (show Good 1 " " by decide +kernel) (.cons (good_name (names_un h2 u (by simp))) (.cons (show Good 1 " " by decide +kernel) (.cons (good_way v h3) .nil)))))))
    exact ⟨z.1, Nat.le_trans z.2 (by decide)⟩
theorem good_box {n : Str} (h : nameOk n = true) : Good 40 (boxS n) := by
  have z := good_cat (.cons (show Good 4 "box " by decide +kernel) (.cons (good_name h) .nil))
  exact ⟨z.1, Nat.le_trans z.2 (by decide)⟩
theorem good_rows {ns : List Str} {xs : List Say} (h : ∀ n ∈ ns, nameOk n = true) (g : ∀ x ∈ xs, x.ok) : ∀ r ∈ rowsS ns xs, Good 40 r := fun r hr => by
  rcases List.mem_append.mp hr with hr | hr
  · obtain ⟨n, hn, rfl⟩ := List.mem_map.mp hr
    exact good_box (h n hn)
  · obtain ⟨x, hx, rfl⟩ := List.mem_map.mp hr
    exact good_row (g x hx)
/-- a list joined by one sign comes back -/
theorem app_inj {c : Nat} : ∀ {p q X Y : List Nat}, c ∉ p → c ∉ q → p ++ c :: X = q ++ c :: Y → p = q ∧ X = Y
  | [], [], X, Y, _, _, h => by injection h with _ h; exact ⟨rfl, h⟩
  | [], b :: q, X, Y, _, hq, h => by injection h with h _; exact absurd (List.mem_cons.mpr (.inl h)) hq
  | a :: p, [], X, Y, hp, _, h => by injection h with h _; exact absurd (List.mem_cons.mpr (.inl h.symm)) hp
  | a :: p, b :: q, X, Y, hp, hq, h => by
    injection h with h1 h2
    obtain ⟨e1, e2⟩ := app_inj (fun z => hp (List.mem_cons_of_mem _ z)) (fun z => hq (List.mem_cons_of_mem _ z)) h2
    exact ⟨by rw [h1, e1], e2⟩
theorem joinL_inj {c : Nat} : ∀ {ps qs : List (List Nat)}, ps ≠ [] → qs ≠ [] → (∀ p ∈ ps, c ∉ p) → (∀ q ∈ qs, c ∉ q) → joinL [c] ps = joinL [c] qs → ps = qs
  | [], _, h, _, _, _, _ => absurd rfl h
  | _, [], _, h, _, _, _ => absurd rfl h
  | [p], [q], _, _, _, _, h => by rw [show p = q from h]
  | [p], q :: q' :: r, _, _, hp, _, h => by
    have h : p = q ++ ([c] ++ joinL [c] (q' :: r)) := h
    exact absurd (by rw [h]; simp) (hp p List.mem_cons_self)
  | p :: p' :: r, [q], _, _, _, hq, h => by
    have h : p ++ ([c] ++ joinL [c] (p' :: r)) = q := h
    exact absurd (by rw [← h]; simp) (hq q List.mem_cons_self)
  | p :: p' :: r, q :: q' :: r', _, _, hp, hq, h => by
    have h : p ++ c :: joinL [c] (p' :: r) = q ++ c :: joinL [c] (q' :: r') := h
    obtain ⟨e1, e2⟩ := app_inj (hp p List.mem_cons_self) (hq q List.mem_cons_self) h
    rw [e1, joinL_inj (by simp) (by simp) (fun y hy => hp y (List.mem_cons_of_mem _ hy)) (fun y hy => hq y (List.mem_cons_of_mem _ hy)) e2]
theorem tl_inj : ∀ {l m : List Str}, l.map tl = m.map tl → l = m
  | [], [], _ => rfl
  | [], _ :: _, h => by cases h
  | _ :: _, [], h => by cases h
  | a :: l, b :: m, h => by
    rw [List.map_cons, List.map_cons] at h
    injection h with h1 h2
    rw [ext_tl h1, tl_inj h2]
theorem rows_back {ps : List Str} (hn : ps ≠ []) (h : ∀ p ∈ ps, 10 ∉ tl p) : rowsOf (Txt.join "\n" ps) = ps := by
  have e1 : tl "\n" = [10] := by decide +kernel
  have enl : ("\n" : Str) = ⟨#[10]⟩ := by decide +kernel
  have hj : Txt.join "\n" (rowsOf (Txt.join "\n" ps)) = Txt.join "\n" ps := join_split _ _
  have hj2 := congrArg tl hj
  rw [tl_joinT, tl_joinT, e1] at hj2
  have hpos := rowsOf_pos (Txt.join "\n" ps)
  have z := joinL_inj (c := 10) (fun z => by rw [List.map_eq_nil_iff.mp z] at hpos; simp at hpos) (fun z => hn (List.map_eq_nil_iff.mp z)) (fun p hp => by
    obtain ⟨y, hy, rfl⟩ := List.mem_map.mp hp
    unfold rowsOf at hy
    rw [enl] at hy
    exact StrLaws.split_free _ 10 y hy) (fun p hp => by
    obtain ⟨y, hy, rfl⟩ := List.mem_map.mp hp
    exact h y hy) hj2
  exact tl_inj z
/-- Σ (length + 1) -/
def tot (ps : List Str) : Nat := (ps.map (·.length)).sum + ps.length
theorem tot_app (ps qs : List Str) : tot (ps ++ qs) = tot ps + tot qs := by
  unfold tot
  rw [List.map_append, List.sum_append, List.length_append]
  omega
theorem tot_cons (p : Str) (ps : List Str) : tot (p :: ps) = p.length + 1 + tot ps := by
  unfold tot
  rw [List.map_cons, List.sum_cons, List.length_cons]
  omega
theorem joinL_tot {c : Nat} : ∀ {ps : List (List Nat)}, ps ≠ [] → (joinL [c] ps).length + 1 = (ps.map (·.length)).sum + ps.length
  | [], h => absurd rfl h
  | [p], _ => by simp [joinL]
  | p :: q :: r, _ => by
    have ih := joinL_tot (c := c) (ps := q :: r) (by simp)
    show (p ++ ([c] ++ joinL [c] (q :: r))).length + 1 = _
    have e : (p ++ ([c] ++ joinL [c] (q :: r))).length = p.length + (1 + (joinL [c] (q :: r)).length) := by rw [List.length_append, List.length_append]; rfl
    have e2 : (List.map (·.length) (p :: q :: r)).sum = p.length + (List.map (·.length) (q :: r)).sum := by rw [List.map_cons, List.sum_cons]
    have e3 : (p :: q :: r).length = (q :: r).length + 1 := rfl
    omega
theorem join_tot {y : Str} {c : Nat} (hy : tl y = [c]) {ps : List Str} (h : ps ≠ []) : (Txt.join y ps).length + 1 = tot ps := by
  rw [len_tl, tl_joinT, hy, joinL_tot (fun z => h (List.map_eq_nil_iff.mp z))]
  unfold tot
  rw [List.map_map, List.length_map]
  have e : (fun x : List Nat => x.length) ∘ tl = fun x : Str => x.length := funext fun x => (len_tl x).symm
  rw [e]
theorem join_le {y : Str} {c : Nat} (hy : tl y = [c]) (ps : List Str) : (Txt.join y ps).length ≤ tot ps := by
  cases ps with
  | nil =>
    rw [len_tl, tl_joinT]
    exact Nat.zero_le _
  | cons p r =>
    have := join_tot hy (ps := p :: r) (by simp)
    omega
theorem tl_nl : tl "\n" = [10] := by decide +kernel
theorem tl_sp : tl " " = [32] := by decide +kernel
theorem tot_le {ps : List Str} {m : Nat} (h : ∀ p ∈ ps, p.length ≤ m) : tot ps ≤ ps.length * (m + 1) := by
  unfold tot
  have := sum_le h
  rw [Nat.mul_add, Nat.mul_one]
  omega
/-- what is known of a text that the law alters -/
def TextOk (t : Str) : Prop := t.length ≤ 903 ∧ ∀ r ∈ rowsOf t, r.length ≤ 40
theorem text_fit {ns : List Str} {xs : List Say} (h1 : 1 ≤ ns.length) (h6 : ns.length ≤ 6) (hn : ∀ n ∈ ns, nameOk n = true) (h16 : xs.length ≤ 16) (hx : ∀ x ∈ xs, x.ok) : TextOk (textS ns xs) := by
  have gr := good_rows hn hx
  have hl : (rowsS ns xs).length ≤ 22 := by unfold rowsS; rw [List.length_append, List.length_map, List.length_map]; omega
  have hne : rowsS ns xs ≠ [] := fun z => by
    have z2 := congrArg List.length z
    unfold rowsS at z2
    rw [List.length_append, List.length_map, List.length_map] at z2
    have z3 : ns.length + xs.length = 0 := z2
    omega
  refine ⟨?_, fun r hr => ?_⟩
  · have h2 := tot_le (m := 40) fun r hr => (gr r hr).2
    have h3 := join_le tl_nl (rowsS ns xs)
    have h4 : (rowsS ns xs).length * 41 ≤ 22 * 41 := Nat.mul_le_mul_right 41 hl
    have h5 : tot (rowsS ns xs) ≤ 903 := Nat.le_trans h2 (Nat.le_trans h4 (by decide))
    exact Nat.le_trans h3 h5
  · unfold textS at hr
    rw [rows_back hne fun r hr => (gr r hr).1] at hr
    exact (gr r hr).2
end K9
set_option Elab.async false
set_option linter.all false
set_option maxRecDepth 100000
set_option maxHeartbeats 4000000
namespace K9
open PySem PySem.Spec L2 Wd
open PyProof.Rows hiding St
open TL PySem.NumText
/-! ### a text spoilt -/
theorem cut_to (x : Str) (k : Nat) : (cutS x none (some (k : Int))).length = min k x.length := by
  show (((x.cps.toList.drop (HT.sIx x.length 0 none)).take (HT.sIx x.length x.length (some (k : Int)) - HT.sIx x.length 0 none)).toArray).size = _
  rw [HT.sIx_none, HT.sIx_nat, List.size_toArray, List.length_take, List.length_drop, Array.length_toList]
  show min (min k x.cps.size - 0) (x.cps.size - 0) = min k x.cps.size
  omega
theorem cut_from (x : Str) (k : Nat) : (cutS x (some (k : Int)) none).length = x.length - k := by
  show (((x.cps.toList.drop (HT.sIx x.length 0 (some (k : Int)))).take (HT.sIx x.length x.length none - HT.sIx x.length 0 (some (k : Int)))).toArray).size = _
  rw [HT.sIx_none, HT.sIx_nat, List.size_toArray, List.length_take, List.length_drop, Array.length_toList]
  show min (x.cps.size - min k x.cps.size) (x.cps.size - min k x.cps.size) = x.cps.size - k
  omega
theorem cut_two (x : Str) (k : Nat) : (cutS x (some (k : Int)) (some ((k : Int) + 2))).length = min 2 (x.length - k) := by
  have e : ((k : Int) + 2) = ((k + 2 : Nat) : Int) := by omega
  rw [e]
  show (((x.cps.toList.drop (HT.sIx x.length 0 (some (k : Int)))).take (HT.sIx x.length x.length (some ((k + 2 : Nat) : Int)) - HT.sIx x.length 0 (some (k : Int)))).toArray).size = _
  rw [HT.sIx_nat, HT.sIx_nat, List.size_toArray, List.length_take, List.length_drop, Array.length_toList]
  show min (min (k + 2) x.cps.size - min k x.cps.size) (x.cps.size - min k x.cps.size) = min 2 (x.cps.size - k)
  omega
theorem app_len (x y : Str) : (x ++ y).length = x.length + y.length := Array.size_append
theorem rev_len (x : Str) : (revS x).length ≤ x.length := Txt.sliceBy_le x none none (-1, 0) (by decide)
def signL : Str := " -0123456789\nabceghilmnopstwx"
def spAt (t : Str) (c : Int) : Nat := (c / 3 % ((t.length : Int) + 1)).toNat
def spSign (c : Int) : Str := ⟨#[(tl signL).getD (c * 48271 % 1000003 % (signL.length : Int)).toNat 0]⟩
def spoilS (t : Str) (c : Int) : Str :=
  if c % 3 = 0 then cutS t none (some (spAt t c)) ++ spSign c ++ cutS t (some (spAt t c)) none
  else if c % 3 = 1 then cutS t none (some (spAt t c)) ++ cutS t (some ((spAt t c : Int) + 1)) none
  else cutS t none (some (spAt t c)) ++ revS (cutS t (some (spAt t c)) (some ((spAt t c : Int) + 2))) ++ cutS t (some ((spAt t c : Int) + 2)) none
theorem spAt_le (t : Str) (c : Int) : spAt t c ≤ t.length := by
  obtain ⟨a, b⟩ := md (c / 3) ((t.length : Int) + 1) (by omega)
  unfold spAt
  omega
theorem spoil_len (t : Str) (c : Int) : (spoilS t c).length ≤ t.length + 1 := by
  have h := spAt_le t c
  have h1 := cut_to t (spAt t c)
  have h2 := cut_from t (spAt t c)
  have h3 := cut_from t (spAt t c + 1)
  have h4 := cut_from t (spAt t c + 2)
  have h5 := cut_two t (spAt t c)
  have h6 := rev_len (cutS t (some (spAt t c)) (some ((spAt t c : Int) + 2)))
  have e3 : ((spAt t c + 1 : Nat) : Int) = (spAt t c : Int) + 1 := by omega
  have e4 : ((spAt t c + 2 : Nat) : Int) = (spAt t c : Int) + 2 := by omega
  have e1 : (spSign c).length = 1 := rfl
  rw [e3] at h3
  rw [e4] at h4
  unfold spoilS
  split
  · rw [app_len, app_len, e1]; omega
  · split
    · rw [app_len]; omega
    · rw [app_len, app_len]; omega
def PrSpoilt (ds : List D) (r : Wd.Slot) : Prop := ∃ (t : Str) (c : Int), t.length ≤ 1000 ∧ 0 ≤ c ∧ c < 10 ^ 12 ∧ ds = [.str t, .int c] ∧ r = .sh (.str (spoilS t c))
theorem cdiv {i j : Int} (h : 0 < j ∧ j < 1073741824) : CDiv i j := h
section
variable {P : Program} {w : World} {K : PySem.W.Frag} {mg : Str → Option Value} {base : Heap} (Z : Env K mg w)
include Z
theorem bi_l_spoilt : Binds K Z.d_l_spoilt ["_law_text_here", "_law_cell"] [] := Z.F_l_spoilt.bindsN fun _ _ _ _ _ _ us hl => match us, hl with | [_, _], _ => rfl
theorem ok_l_spoilt : FnOk P w K mg base (L2.CX P w) 1 (He.ga K "_law_spoilt") Z.d_l_spoilt ["_law_text_here", "_law_cell"] (spD K PrSpoilt) := by
  refine fn_data Z.F_l_spoilt sc_l_spoilt (fun ds r ⟨x, c, _, _, _, e, _⟩ => (by rw [e]; rfl)) fun cdv A outer s H E fx ds r hp => ?_
  obtain ⟨t, c, ht, c0, c1, rfl, rfl⟩ := hp
  refine ⟨.rt _, ?_, .rt⟩
  have hz : ∀ {n : Nat}, n ≤ 3000 → n ≤ sizeLine := fun h => Nat.le_trans h (by rw [sizeLine_eq]; decide)
  have hts : t.length ≤ sizeLine := hz (by omega)
  have hat := spAt_le t c
  have ha0 : ((spAt t c : Nat) : Int) = c / 3 % ((t.length : Int) + 1) := by
    obtain ⟨a, b⟩ := md (c / 3) ((t.length : Int) + 1) (by omega)
    unfold spAt
    omega
  have sl29 : signL.length = 29 := by decide +kernel
  obtain ⟨s0, s1⟩ := md (c * 48271 % 1000003) (signL.length : Int) (by omega)
  have hsg : signL.cps.toList[(c * 48271 % 1000003 % (signL.length : Int)).toNat]? = some ((tl signL).getD (c * 48271 % 1000003 % (signL.length : Int)).toNat 0) := by
    have hlt : (c * 48271 % 1000003 % (signL.length : Int)).toNat < (tl signL).length := by rw [← len_tl]; omega
    rw [List.getD_eq_getElem?_getD]
    show (tl signL)[_]? = _
    rw [List.getElem?_eq_getElem hlt]
    rfl
  have hsg2 : atI signL.cps.toList (c * 48271 % 1000003 % (signL.length : Int)) = some ((tl signL).getD (c * 48271 % 1000003 % (signL.length : Int)).toNat 0) := by
    have z := atI_nat hsg
    rw [Int.toNat_of_nonneg s0] at z
    exact z
  have h1 := cut_to t (spAt t c)
  have h2 := cutS_length t (some ((spAt t c : Nat) : Int)) none
  have h3 := cutS_length t (some ((spAt t c : Int) + 1)) none
  have h4 := cutS_length t (some ((spAt t c : Int) + 2)) none
  have h5 := cut_two t (spAt t c)
  have h6 := rev_len (cutS t (some (spAt t c)) (some ((spAt t c : Int) + 2)))
  have e1 : (spSign c).length = 1 := rfl
  refine pssd_cons (psd_set (rs := .sh (.int (spAt t c : Nat))) fx 2 (pd_cast (by rw [ha0]) (pd_op (fun _ => op_mod) (pd_op (fun _ => op_fdiv) (pd_var fx 1) pd_int (rd_fdiv (cdiv (by decide)))) (pd_plus (pd_blt fx (fun _ => call_lenU) Z.b_len (pad_cons (pd_var fx 0) pad_nil) (rc_len (.str hts))) pd_int) (rd_mod (by omega))))) ?_
  refine pssd_cons (psd_set (rs := .sh (.str signL)) fx 3 pd_str) ?_
  refine pssd_cons (psd_set (rs := .sh (.str (spSign c))) fx 4 (pd_sub fx (pd_var fx 3) (pd_op (fun _ => op_mod) (pd_op (fun _ => op_mod) (pd_mul (pd_var fx 1) pd_int (.inl ⟨by omega, by omega⟩)) pd_int (rd_mod (by decide))) (pd_blt fx (fun _ => call_lenU) Z.b_len (pad_cons (pd_var fx 3) pad_nil) (rc_len (.str (hz (by omega))))) (rd_mod (by omega))) (.str (hz (by omega)) hsg2))) ?_
  by_cases q0 : c % 3 = 0
  · have e : spoilS t c = cutS t none (some (spAt t c)) ++ spSign c ++ cutS t (some (spAt t c)) none := if_pos q0
    rw [e]
    exact pssd_ifT (ptd_cast (decV.trans (decide_eq_true q0)) (ptd_eq fx (pd_op (fun _ => op_mod) (pd_var fx 1) pd_int (rd_mod (by decide))) pd_int (.flat rfl rfl rfl))) (pssd_rt (psd_ret (pd_addD fx (pd_addD fx (pd_sliceS (pd_var fx 0) pod_none (pod_some (pd_var fx 2)) hts) (pd_var fx 4) (.str (hz (by omega)))) (pd_sliceS (pd_var fx 0) (pod_some (pd_var fx 2)) pod_none hts) (.str (hz (by rw [app_len]; omega)))))) fun _ z => nomatch z
  by_cases q1 : c % 3 = 1
  · have e : spoilS t c = cutS t none (some (spAt t c)) ++ cutS t (some ((spAt t c : Int) + 1)) none := (if_neg q0).trans (if_pos q1)
    rw [e]
    exact pssd_ifF (ptd_cast (decV.trans (decide_eq_false q0)) (ptd_eq fx (pd_op (fun _ => op_mod) (pd_var fx 1) pd_int (rd_mod (by decide))) pd_int (.flat rfl rfl rfl))) (pssd_ifT (ptd_cast (decV.trans (decide_eq_true q1)) (ptd_eq fx (pd_op (fun _ => op_mod) (pd_var fx 1) pd_int (rd_mod (by decide))) pd_int (.flat rfl rfl rfl))) (pssd_rt (psd_ret (pd_addD fx (pd_sliceS (pd_var fx 0) pod_none (pod_some (pd_var fx 2)) hts) (pd_sliceS (pd_var fx 0) (pod_some (pd_plus (pd_var fx 2) pd_int)) pod_none hts) (.str (hz (by omega)))))) fun _ z => nomatch z)
  have e : spoilS t c = cutS t none (some (spAt t c)) ++ revS (cutS t (some (spAt t c)) (some ((spAt t c : Int) + 2))) ++ cutS t (some ((spAt t c : Int) + 2)) none := (if_neg q0).trans (if_neg q1)
  rw [e]
  refine pssd_ifF (ptd_cast (decV.trans (decide_eq_false q0)) (ptd_eq fx (pd_op (fun _ => op_mod) (pd_var fx 1) pd_int (rd_mod (by decide))) pd_int (.flat rfl rfl rfl))) (pssd_ifF (ptd_cast (decV.trans (decide_eq_false q1)) (ptd_eq fx (pd_op (fun _ => op_mod) (pd_var fx 1) pd_int (rd_mod (by decide))) pd_int (.flat rfl rfl rfl))) ?_)
  refine pssd_cons (psd_set (rs := .sh (.str (cutS t (some (spAt t c)) (some ((spAt t c : Int) + 2))))) fx 5 (pd_sliceS (pd_var fx 0) (pod_some (pd_var fx 2)) (pod_some (pd_plus (pd_var fx 2) pd_int)) hts)) ?_
  exact pssd_rt (psd_ret (pd_addD fx (pd_addD fx (pd_sliceS (pd_var fx 0) pod_none (pod_some (pd_var fx 2)) hts) (pd_revS (pd_var fx 5) (hz (by omega))) (.str (hz (by omega)))) (pd_sliceS (pd_var fx 0) (pod_some (pd_plus (pd_var fx 2) pd_int)) pod_none hts) (.str (hz (by rw [app_len]; omega)))))
end
end K9
set_option Elab.async false
set_option linter.all false
set_option maxRecDepth 100000
set_option maxHeartbeats 4000000
namespace K9
open PySem PySem.Spec L2 Wd
open PyProof.Rows hiding St
open TL PySem.NumText
/-! ### a text's rows changed -/
theorem cutD_to {α : Type} (xs : List α) (k : Nat) : Wd.cutD xs none (some (k : Int)) = xs.take k := by
  unfold Wd.cutD
  rw [HT.sIx_none, HT.sIx_nat, List.drop_zero, Nat.sub_zero]
  by_cases h : k ≤ xs.length
  · rw [Nat.min_eq_left h]
  · rw [Nat.min_eq_right (by omega), List.take_length, List.take_of_length_le (by omega)]
theorem cutD_from {α : Type} (xs : List α) (k : Nat) : Wd.cutD xs (some (k : Int)) none = xs.drop k := by
  unfold Wd.cutD
  rw [HT.sIx_none, HT.sIx_nat]
  by_cases h : k ≤ xs.length
  · rw [Nat.min_eq_left h, ← List.length_drop, List.take_length]
  · rw [Nat.min_eq_right (by omega), List.drop_of_length_le (Nat.le_refl _), List.drop_of_length_le (by omega), List.take_nil]
theorem cutD_two {α : Type} (xs : List α) (k : Nat) (h : k ≤ xs.length) : Wd.cutD xs (some (k : Int)) (some ((k + 2 : Nat) : Int)) = (xs.drop k).take 2 := by
  unfold Wd.cutD
  rw [HT.sIx_nat, HT.sIx_nat, Nat.min_eq_left h]
  by_cases h2 : k + 2 ≤ xs.length
  · rw [Nat.min_eq_left h2, show k + 2 - k = 2 by omega]
  · rw [Nat.min_eq_right (by omega)]
    have hl : (xs.drop k).length = xs.length - k := List.length_drop
    rw [List.take_of_length_le (by omega), List.take_of_length_le (by omega)]
def moreL : List Str := ["box z", "box", "a left 3", "box of b", "a left of b by 3", "a wide as b times 10", "a amid b c down", "", "box A"]
def someL : List Str := ["left", "of", "by", "as", "times", "amid", "across", "box", "3", "-0", "1001", "high"]
theorem more_len : ∀ x ∈ moreL, x.length ≤ 20 := by decide +kernel
theorem some_len : ∀ x ∈ someL, x.length ≤ 6 := by decide +kernel
def rcAt (rs : List Str) (c : Int) : Nat := (c / 5 % (rs.length : Int)).toNat
def rcMore (c : Int) : Str := moreL.getD (c / 100 % 9).toNat Str.empty
def rcSome (c : Int) : Str := someL.getD (c / 1000 % 12).toNat Str.empty
def wdAt (ws : List Str) (c : Int) : Nat := (c / 100 % (ws.length : Int)).toNat
def rcRow (c : Int) (row : Str) : Str := Txt.join " " ((Txt.split row " ").take (wdAt (Txt.split row " ") c) ++ [rcSome c] ++ (Txt.split row " ").drop (wdAt (Txt.split row " ") c + (c / 12000 % 2).toNat))
def newRows (rs : List Str) (c : Int) : List Str :=
  if c % 5 = 0 then rs.take (rcAt rs c) ++ [rcMore c] ++ rs.drop (rcAt rs c)
  else if c % 5 = 1 then rs.take (rcAt rs c) ++ rs.drop (rcAt rs c + 1)
  else if c % 5 = 2 then rs.take (rcAt rs c) ++ [rs.getD (rcAt rs c) Str.empty, rs.getD (rcAt rs c) Str.empty] ++ rs.drop (rcAt rs c + 1)
  else if c % 5 = 3 then rs.take (rcAt rs c) ++ ((rs.drop (rcAt rs c)).take 2).reverse ++ rs.drop (rcAt rs c + 2)
  else rs.set (rcAt rs c) (rcRow c (rs.getD (rcAt rs c) Str.empty))
theorem rcMore_len (c : Int) : (rcMore c).length ≤ 20 := by
  unfold rcMore
  rw [List.getD_eq_getElem?_getD]
  cases h : moreL[(c / 100 % 9).toNat]? with
  | none => exact Nat.zero_le _
  | some x => exact more_len x (List.mem_of_getElem? h)
theorem rcSome_len (c : Int) : (rcSome c).length ≤ 6 := by
  unfold rcSome
  rw [List.getD_eq_getElem?_getD]
  cases h : someL[(c / 1000 % 12).toNat]? with
  | none => exact Nat.zero_le _
  | some x => exact some_len x (List.mem_of_getElem? h)
theorem tot_take_drop (ps : List Str) (k : Nat) : tot (ps.take k) + tot (ps.drop k) = tot ps := by rw [← tot_app, List.take_append_drop]
theorem tot_drop_le (ps : List Str) (k j : Nat) : tot (ps.drop (k + j)) ≤ tot (ps.drop k) := by
  have h := tot_take_drop (ps.drop k) j
  rw [List.drop_drop] at h
  omega
theorem tot_rev (ps : List Str) : tot ps.reverse = tot ps := by
  induction ps with
  | nil => rfl
  | cons p r ih => rw [List.reverse_cons, tot_app, ih, tot_cons, tot_cons]; show _ + (p.length + 1 + 0) = _; omega
theorem tot_words (row : Str) : tot (Txt.split row " ") = row.length + 1 := by
  have hne : Txt.split row " " ≠ [] := fun z => by
    have := split_pos row " "
    rw [z] at this
    exact absurd this (by decide)
  have h := join_tot tl_sp hne
  rw [join_split] at h
  omega
theorem tot_rows (t : Str) : tot (rowsOf t) = t.length + 1 := by
  have hne : rowsOf t ≠ [] := fun z => by
    have := rowsOf_pos t
    rw [z] at this
    exact absurd this (by decide)
  have h := join_tot tl_nl hne
  have e : Txt.join "\n" (rowsOf t) = t := join_split t _
  rw [e] at h
  omega
theorem rcRow_len (c : Int) (row : Str) : (rcRow c row).length ≤ row.length + 8 := by
  unfold rcRow
  refine Nat.le_trans (join_le tl_sp _) ?_
  rw [tot_app, tot_app, tot_cons]
  have h1 := tot_take_drop (Txt.split row " ") (wdAt (Txt.split row " ") c)
  have h2 := tot_drop_le (Txt.split row " ") (wdAt (Txt.split row " ") c) (c / 12000 % 2).toNat
  have h3 := tot_words row
  have h4 := rcSome_len c
  have h5 : tot [] = 0 := rfl
  omega
theorem tot_set (ps : List Str) (x : Str) : ∀ k, tot (ps.set k x) ≤ tot ps + x.length + 1 := by
  induction ps with
  | nil => intro k; show 0 ≤ _; omega
  | cons p r ih =>
    intro k
    cases k with
    | zero => rw [List.set_cons_zero, tot_cons, tot_cons]; omega
    | succ k => rw [List.set_cons_succ, tot_cons, tot_cons]; have := ih k; omega
theorem new_tot {t : Str} (h : TextOk t) (c : Int) : tot (newRows (rowsOf t) c) ≤ 996 := by
  obtain ⟨h1, h2⟩ := h
  have h3 := tot_rows t
  have hg : ((rowsOf t).getD (rcAt (rowsOf t) c) Str.empty).length ≤ 40 := by
    rw [List.getD_eq_getElem?_getD]
    cases h : (rowsOf t)[rcAt (rowsOf t) c]? with
    | none => exact Nat.zero_le _
    | some x => exact h2 x (List.mem_of_getElem? h)
  have h4 := tot_take_drop (rowsOf t) (rcAt (rowsOf t) c)
  have h5 := tot_drop_le (rowsOf t) (rcAt (rowsOf t) c) 1
  have h6 := tot_take_drop ((rowsOf t).drop (rcAt (rowsOf t) c)) 2
  rw [List.drop_drop] at h6
  have h7 := rcMore_len c
  have h8 : tot [] = 0 := rfl
  unfold newRows
  split
  · rw [tot_app, tot_app, tot_cons]; omega
  split
  · rw [tot_app]; omega
  split
  · rw [tot_app, tot_app, tot_cons, tot_cons]; omega
  split
  · rw [tot_app, tot_app, tot_rev]; omega
  · have z := tot_set (rowsOf t) (rcRow c ((rowsOf t).getD (rcAt (rowsOf t) c) Str.empty)) (rcAt (rowsOf t) c)
    have z2 := rcRow_len c ((rowsOf t).getD (rcAt (rowsOf t) c) Str.empty)
    omega
def changedS (t : Str) (c : Int) : Str := Txt.join "\n" (newRows (rowsOf t) c)
theorem changed_len {t : Str} (h : TextOk t) (c : Int) : (changedS t c).length ≤ 996 := Nat.le_trans (join_le tl_nl _) (new_tot h c)
def PrChanged (ds : List D) (r : Wd.Slot) : Prop := ∃ (t : Str) (c : Int), TextOk t ∧ ds = [.str t, .int c] ∧ r = .sh (.str (changedS t c))
theorem cutD_le {α : Type} (xs : List α) (a b : Option Int) : (Wd.cutD xs a b).length ≤ xs.length := by
  unfold Wd.cutD
  rw [List.length_take, List.length_drop]
  omega
section
variable {P : Program} {w : World} {K : PySem.W.Frag} {mg : Str → Option Value} {base : Heap} (Z : Env K mg w)
include Z
theorem bi_l_rows_changed : Binds K Z.d_l_rows_changed ["_law_text_here", "_law_cell"] [] := Z.F_l_rows_changed.bindsN fun _ _ _ _ _ _ us hl => match us, hl with | [_, _], _ => rfl
theorem ok_l_rows_changed : FnOk P w K mg base (L2.CX P w) 1 (He.ga K "_law_rows_changed") Z.d_l_rows_changed ["_law_text_here", "_law_cell"] (spD K PrChanged) := by
  refine fn_data Z.F_l_rows_changed sc_l_rows_changed (fun ds r ⟨x, c, _, e, _⟩ => (by rw [e]; rfl)) fun cdv A outer s H E fx ds r hp => ?_
  obtain ⟨t, c, ht, rfl, rfl⟩ := hp
  refine ⟨.rt _, ?_, .rt⟩
  have hz : ∀ {n : Nat}, n ≤ 4000 → n ≤ sizeLine := fun h => Nat.le_trans h (by rw [sizeLine_eq]; decide)
  have ht1 := ht.1
  have hn := new_tot ht c
  have hpos := rowsOf_pos t
  have hrl : (rowsOf t).length ≤ 905 := Nat.le_trans (split_le t _) (by omega)
  generalize hrs : rowsOf t = rs at hpos hrl hn
  have e0 : changedS t c = Txt.join "\n" (newRows rs c) := by unfold changedS; rw [hrs]
  obtain ⟨m0, m1⟩ := md (c / 5) (rs.length : Int) (by omega)
  have hat0 : ((rcAt rs c : Nat) : Int) = c / 5 % (rs.length : Int) := Int.toNat_of_nonneg m0
  have hatl : rcAt rs c < rs.length := by omega
  have hrow : atI (rs.map Wd.D.str) ((rcAt rs c : Nat) : Int) = some (.str (rs.getD (rcAt rs c) Str.empty)) := atI_nat (by rw [List.getElem?_map, List.getD_eq_getElem?_getD, List.getElem?_eq_getElem hatl]; rfl)
  obtain ⟨p0, p1⟩ := md (c / 100) 9 (by decide)
  have hmore : atI (moreL.map Wd.D.str) (c / 100 % 9) = some (.str (rcMore c)) := by
    have hlt : (c / 100 % 9).toNat < moreL.length := by show _ < 9; omega
    have z : atI (moreL.map Wd.D.str) (((c / 100 % 9).toNat : Nat) : Int) = some (.str (rcMore c)) := atI_nat (by unfold rcMore; rw [List.getElem?_map, List.getD_eq_getElem?_getD, List.getElem?_eq_getElem hlt]; rfl)
    rw [Int.toNat_of_nonneg p0] at z
    exact z
  have cl1 : (Wd.cutD (rs.map Wd.D.str) none (some ((rcAt rs c : Nat) : Int))).length ≤ 905 := Nat.le_trans (cutD_le _ _ _) (by rw [List.length_map]; exact hrl)
  have cl2 : (Wd.cutD (rs.map Wd.D.str) (some ((rcAt rs c : Nat) : Int)) none).length ≤ 905 := Nat.le_trans (cutD_le _ _ _) (by rw [List.length_map]; exact hrl)
  have cl3 : (Wd.cutD (rs.map Wd.D.str) (some (((rcAt rs c : Nat) : Int) + 1)) none).length ≤ 905 := Nat.le_trans (cutD_le _ _ _) (by rw [List.length_map]; exact hrl)
  have cl4 : (Wd.cutD (rs.map Wd.D.str) (some (((rcAt rs c : Nat) : Int) + 2)) none).length ≤ 905 := Nat.le_trans (cutD_le _ _ _) (by rw [List.length_map]; exact hrl)
  have cl5 : (Wd.cutD (rs.map Wd.D.str) (some ((rcAt rs c : Nat) : Int)) (some (((rcAt rs c : Nat) : Int) + 2))).length ≤ 905 := Nat.le_trans (cutD_le _ _ _) (by rw [List.length_map]; exact hrl)
  have k1 : ((rcAt rs c : Nat) : Int) + 1 = ((rcAt rs c + 1 : Nat) : Int) := by omega
  have k2 : ((rcAt rs c : Nat) : Int) + 2 = ((rcAt rs c + 2 : Nat) : Int) := by omega
  have hj : ((newRows rs c).map (·.length)).sum + (newRows rs c).length * 1 ≤ 16777216 := by
    have z : ((newRows rs c).map (·.length)).sum + (newRows rs c).length ≤ 996 := hn
    omega
  refine pssd_cons (psd_set (rs := .ow (.lst (rs.map .str))) fx 2 (pd_cast (by rw [← hrs]; rfl) (pd_split (pd_var fx 0) pd_str (by decide +kernel) (by rw [sizeLine_eq]; omega)))) ?_
  refine pssd_cons (psd_set (rs := .sh (.int (rcAt rs c : Nat))) fx 3 (pd_peek 2 rfl rfl (pd_cast (r := .sh (.int (c / 5 % (((rs.map Wd.D.str).length : Nat) : Int)))) (by rw [hat0, List.length_map]) (pd_op (fun _ => op_mod) (pd_op (fun _ => op_fdiv) (pd_var fx 1) pd_int (rd_fdiv (cdiv (by decide)))) (pd_blt fx (fun _ => call_lenU) Z.b_len (pad_cons (pd_var fx 2) pad_nil) (rc_len (.lst .lst))) (rd_mod (by rw [List.length_map]; omega)))))) ?_
  refine pssd_cons (psd_set fx 4 (PED.share (pd_lst (pad_cons pd_str (pad_cons pd_str (pad_cons pd_str (pad_cons pd_str (pad_cons pd_str (pad_cons pd_str pad_nil))))))))) ?_
  refine pssd_cons (psd_set (rs := .sh (.lst (moreL.map .str))) fx 4 (PED.share (pd_addD fx (pd_var fx 4) (PED.share (pd_lst (pad_cons pd_str (pad_cons pd_str (pad_cons pd_str pad_nil))))) (.lst (hz (Nat.le_of_ble_eq_true rfl)))))) ?_
  rw [e0]
  by_cases q0 : c % 5 = 0
  · have e : newRows rs c = rs.take (rcAt rs c) ++ [rcMore c] ++ rs.drop (rcAt rs c) := if_pos q0
    refine pssd_freeze 2 rfl (pssd_cons (psd_ifT (ptd_cast (decV.trans (decide_eq_true q0)) (ptd_eq fx (pd_op (fun _ => op_mod) (pd_var fx 1) pd_int (rd_mod (by decide))) pd_int (.flat rfl rfl rfl))) (pssd_cons (psd_set (rs := .ow (.lst ((newRows rs c).map .str))) fx 2 (pd_cast (by rw [e, cutD_to, cutD_from, List.map_append, List.map_append, List.map_take, List.map_drop]; rfl) (pd_addD fx (PED.share (pd_addD fx (PED.share (pd_slice fx (pd_var fx 2) pod_none (pod_some (pd_var fx 3)) (.lst .lst))) (PED.share (pd_lst (pad_cons (pd_sub fx (pd_var fx 4) (pd_op (fun _ => op_mod) (pd_op (fun _ => op_fdiv) (pd_var fx 1) pd_int (rd_fdiv (cdiv (by decide)))) pd_int (rd_mod (by decide))) (.lst .lst hmore)) pad_nil))) (.lst (hz (by (try simp only [List.length_append, List.length_cons, List.length_nil, List.length_reverse]); omega))))) (PED.share (pd_slice fx (pd_var fx 2) (pod_some (pd_var fx 3)) pod_none (.lst .lst))) (.lst (hz (by (try simp only [List.length_append, List.length_cons, List.length_nil, List.length_reverse]); omega)))))) pssd_nil)) ?_)
    exact pssd_rt (psd_ret (pd_peek 2 rfl rfl (pd_join pd_str (pd_var fx 2) .lst hj fx)))
  by_cases q1 : c % 5 = 1
  · have e : newRows rs c = rs.take (rcAt rs c) ++ rs.drop (rcAt rs c + 1) := (if_neg q0).trans (if_pos q1)
    refine pssd_freeze 2 rfl (pssd_cons (psd_ifF (ptd_cast (decV.trans (decide_eq_false q0)) (ptd_eq fx (pd_op (fun _ => op_mod) (pd_var fx 1) pd_int (rd_mod (by decide))) pd_int (.flat rfl rfl rfl))) (pssd_one (psd_ifT (ptd_cast (decV.trans (decide_eq_true q1)) (ptd_eq fx (pd_op (fun _ => op_mod) (pd_var fx 1) pd_int (rd_mod (by decide))) pd_int (.flat rfl rfl rfl))) (pssd_cons (psd_set (rs := .ow (.lst ((newRows rs c).map .str))) fx 2 (pd_cast (by rw [e, k1, cutD_to, cutD_from, List.map_append, List.map_take, List.map_drop]) (pd_addD fx (PED.share (pd_slice fx (pd_var fx 2) pod_none (pod_some (pd_var fx 3)) (.lst .lst))) (PED.share (pd_slice fx (pd_var fx 2) (pod_some (pd_plus (pd_var fx 3) pd_int)) pod_none (.lst .lst))) (.lst (hz (by (try simp only [List.length_append, List.length_cons, List.length_nil, List.length_reverse]); omega)))))) pssd_nil)))) ?_)
    exact pssd_rt (psd_ret (pd_peek 2 rfl rfl (pd_join pd_str (pd_var fx 2) .lst hj fx)))
  by_cases q2 : c % 5 = 2
  · have e : newRows rs c = rs.take (rcAt rs c) ++ [rs.getD (rcAt rs c) Str.empty, rs.getD (rcAt rs c) Str.empty] ++ rs.drop (rcAt rs c + 1) := (if_neg q0).trans ((if_neg q1).trans (if_pos q2))
    refine pssd_freeze 2 rfl (pssd_cons (psd_ifF (ptd_cast (decV.trans (decide_eq_false q0)) (ptd_eq fx (pd_op (fun _ => op_mod) (pd_var fx 1) pd_int (rd_mod (by decide))) pd_int (.flat rfl rfl rfl))) (pssd_one (psd_ifF (ptd_cast (decV.trans (decide_eq_false q1)) (ptd_eq fx (pd_op (fun _ => op_mod) (pd_var fx 1) pd_int (rd_mod (by decide))) pd_int (.flat rfl rfl rfl))) (pssd_one (psd_ifT (ptd_cast (decV.trans (decide_eq_true q2)) (ptd_eq fx (pd_op (fun _ => op_mod) (pd_var fx 1) pd_int (rd_mod (by decide))) pd_int (.flat rfl rfl rfl))) (pssd_cons (psd_set (rs := .ow (.lst ((newRows rs c).map .str))) fx 2 (pd_cast (by rw [e, k1, cutD_to, cutD_from, List.map_append, List.map_append, List.map_take, List.map_drop]; rfl) (pd_addD fx (PED.share (pd_addD fx (PED.share (pd_slice fx (pd_var fx 2) pod_none (pod_some (pd_var fx 3)) (.lst .lst))) (PED.share (pd_lst (pad_cons (pd_sub fx (pd_var fx 2) (pd_var fx 3) (.lst .lst hrow)) (pad_cons (pd_sub fx (pd_var fx 2) (pd_var fx 3) (.lst .lst hrow)) pad_nil)))) (.lst (hz (by (try simp only [List.length_append, List.length_cons, List.length_nil, List.length_reverse]); omega))))) (PED.share (pd_slice fx (pd_var fx 2) (pod_some (pd_plus (pd_var fx 3) pd_int)) pod_none (.lst .lst))) (.lst (hz (by (try simp only [List.length_append, List.length_cons, List.length_nil, List.length_reverse]); omega)))))) pssd_nil)))))) ?_)
    exact pssd_rt (psd_ret (pd_peek 2 rfl rfl (pd_join pd_str (pd_var fx 2) .lst hj fx)))
  by_cases q3 : c % 5 = 3
  · have e : newRows rs c = rs.take (rcAt rs c) ++ ((rs.drop (rcAt rs c)).take 2).reverse ++ rs.drop (rcAt rs c + 2) := (if_neg q0).trans ((if_neg q1).trans ((if_neg q2).trans (if_pos q3)))
    refine pssd_freeze 2 rfl (pssd_cons (psd_ifF (ptd_cast (decV.trans (decide_eq_false q0)) (ptd_eq fx (pd_op (fun _ => op_mod) (pd_var fx 1) pd_int (rd_mod (by decide))) pd_int (.flat rfl rfl rfl))) (pssd_one (psd_ifF (ptd_cast (decV.trans (decide_eq_false q1)) (ptd_eq fx (pd_op (fun _ => op_mod) (pd_var fx 1) pd_int (rd_mod (by decide))) pd_int (.flat rfl rfl rfl))) (pssd_one (psd_ifF (ptd_cast (decV.trans (decide_eq_false q2)) (ptd_eq fx (pd_op (fun _ => op_mod) (pd_var fx 1) pd_int (rd_mod (by decide))) pd_int (.flat rfl rfl rfl))) (pssd_one (psd_ifT (ptd_cast (decV.trans (decide_eq_true q3)) (ptd_eq fx (pd_op (fun _ => op_mod) (pd_var fx 1) pd_int (rd_mod (by decide))) pd_int (.flat rfl rfl rfl))) (pssd_cons (psd_set fx 5 (PED.share (pd_slice fx (pd_var fx 2) (pod_some (pd_var fx 3)) (pod_some (pd_plus (pd_var fx 3) pd_int)) (.lst .lst)))) (pssd_cons (psd_set (rs := .ow (.lst ((newRows rs c).map .str))) fx 2 (pd_cast (r := .ow (.lst (Wd.cutD (rs.map Wd.D.str) none (some ((rcAt rs c : Nat) : Int)) ++ (Wd.cutD (rs.map Wd.D.str) (some ((rcAt rs c : Nat) : Int)) (some (((rcAt rs c : Nat) : Int) + 2))).reverse ++ Wd.cutD (rs.map Wd.D.str) (some (((rcAt rs c : Nat) : Int) + 2)) none))) (by rw [e, k2, cutD_two _ _ (by rw [List.length_map]; omega), cutD_to, cutD_from, List.map_append, List.map_append, List.map_take, List.map_drop, List.map_reverse, List.map_take, List.map_drop]) (pd_addD fx (PED.share (pd_addD fx (PED.share (pd_slice fx (pd_var fx 2) pod_none (pod_some (pd_var fx 3)) (.lst .lst))) (PED.share (pd_revL fx (pd_var fx 5) .lst)) (.lst (hz (by (try simp only [List.length_append, List.length_cons, List.length_nil, List.length_reverse]); omega))))) (PED.share (pd_slice fx (pd_var fx 2) (pod_some (pd_plus (pd_var fx 3) pd_int)) pod_none (.lst .lst))) (.lst (hz (by (try simp only [List.length_append, List.length_cons, List.length_nil, List.length_reverse]); omega)))))) pssd_nil))))))))) ?_)
    exact pssd_rt (psd_ret (pd_peek 2 rfl rfl (pd_join pd_str (pd_var fx 2) .lst hj fx)))
  have e : newRows rs c = rs.set (rcAt rs c) (rcRow c (rs.getD (rcAt rs c) Str.empty)) := (if_neg q0).trans ((if_neg q1).trans ((if_neg q2).trans (if_neg q3)))
  have hrl2 : (rs.getD (rcAt rs c) Str.empty).length ≤ 40 := by
    rw [List.getD_eq_getElem?_getD, List.getElem?_eq_getElem hatl]
    exact ht.2 _ (by rw [hrs]; exact List.getElem_mem _)
  have eR : rcRow c (rs.getD (rcAt rs c) Str.empty) = rcRow c (rs.getD (rcAt rs c) Str.empty) := rfl
  generalize hrw : rs.getD (rcAt rs c) Str.empty = row at hrow hrl2 eR e
  generalize hws : Txt.split row " " = ws
  have hwp : 1 ≤ ws.length := by rw [← hws]; exact split_pos row " "
  have hwl : ws.length ≤ 42 := by rw [← hws]; exact Nat.le_trans (split_le row _) (by omega)
  have hrc : rcRow c row = Txt.join " " (ws.take (wdAt ws c) ++ [rcSome c] ++ ws.drop (wdAt ws c + (c / 12000 % 2).toNat)) := by unfold rcRow; rw [hws]
  have htw : tot ws ≤ 41 := by rw [← hws, tot_words]; omega
  obtain ⟨w0, w1⟩ := md (c / 100) (ws.length : Int) (by omega)
  have hwa0 : ((wdAt ws c : Nat) : Int) = c / 100 % (ws.length : Int) := Int.toNat_of_nonneg w0
  obtain ⟨v0, v1⟩ := md (c / 12000) 2 (by decide)
  have hk3 : ((wdAt ws c : Nat) : Int) + c / 12000 % 2 = ((wdAt ws c + (c / 12000 % 2).toNat : Nat) : Int) := by omega
  obtain ⟨u0, u1⟩ := md (c / 1000) 12 (by decide)
  have hsome : atI (someL.map Wd.D.str) (c / 1000 % 12) = some (.str (rcSome c)) := by
    have hlt : (c / 1000 % 12).toNat < someL.length := by show _ < 12; omega
    have z : atI (someL.map Wd.D.str) (((c / 1000 % 12).toNat : Nat) : Int) = some (.str (rcSome c)) := atI_nat (by unfold rcSome; rw [List.getElem?_map, List.getD_eq_getElem?_getD, List.getElem?_eq_getElem hlt]; rfl)
    rw [Int.toNat_of_nonneg u0] at z
    exact z
  have hj2 : (((ws.take (wdAt ws c) ++ [rcSome c] ++ ws.drop (wdAt ws c + (c / 12000 % 2).toNat))).map (·.length)).sum + (ws.take (wdAt ws c) ++ [rcSome c] ++ ws.drop (wdAt ws c + (c / 12000 % 2).toNat)).length * 1 ≤ 16777216 := by
    have z : tot (ws.take (wdAt ws c) ++ [rcSome c] ++ ws.drop (wdAt ws c + (c / 12000 % 2).toNat)) ≤ 100 := by
      rw [tot_app, tot_app, tot_cons]
      have h1 := tot_take_drop ws (wdAt ws c)
      have h2 := tot_drop_le ws (wdAt ws c) (c / 12000 % 2).toNat
      have h4 := rcSome_len c
      have h5 : tot [] = 0 := rfl
      omega
    unfold tot at z
    omega
  have dl1 : (Wd.cutD (ws.map Wd.D.str) none (some ((wdAt ws c : Nat) : Int))).length ≤ 42 := Nat.le_trans (cutD_le _ _ _) (by rw [List.length_map]; exact hwl)
  have dl2 : (List.drop (wdAt ws c + (c / 12000 % 2).toNat) (ws.map Wd.D.str)).length ≤ 42 := by rw [List.length_drop, List.length_map]; omega
  have hix : ixN (rs.map Wd.D.str).length ((rcAt rs c : Nat) : Int) = some (rcAt rs c) := by
    unfold ixN
    rw [List.length_map, if_pos (by omega), if_pos (by omega), Int.toNat_natCast]
  have hset : (rs.map Wd.D.str).set (rcAt rs c) (.str (rcRow c row)) = (newRows rs c).map .str := by rw [e, List.map_set]
  refine pssd_cons (psd_ifF (ptd_cast (decV.trans (decide_eq_false q0)) (ptd_eq fx (pd_op (fun _ => op_mod) (pd_var fx 1) pd_int (rd_mod (by decide))) pd_int (.flat rfl rfl rfl))) (pssd_one (psd_ifF (ptd_cast (decV.trans (decide_eq_false q1)) (ptd_eq fx (pd_op (fun _ => op_mod) (pd_var fx 1) pd_int (rd_mod (by decide))) pd_int (.flat rfl rfl rfl))) (pssd_one (psd_ifF (ptd_cast (decV.trans (decide_eq_false q2)) (ptd_eq fx (pd_op (fun _ => op_mod) (pd_var fx 1) pd_int (rd_mod (by decide))) pd_int (.flat rfl rfl rfl))) (pssd_one (psd_ifF (ptd_cast (decV.trans (decide_eq_false q3)) (ptd_eq fx (pd_op (fun _ => op_mod) (pd_var fx 1) pd_int (rd_mod (by decide))) pd_int (.flat rfl rfl rfl))) (pssd_cons (psd_set (rs := .sh (.lst (ws.map .str))) fx 6 (PED.share (pd_cast (r := .ow (.lst ((Txt.split row " ").map .str))) (by rw [hws]) (pd_split (pd_peek 2 rfl rfl (pd_sub fx (pd_var fx 2) (pd_var fx 3) (.lst .lst hrow))) pd_str (by decide +kernel) (by rw [sizeLine_eq]; omega))))) (pssd_cons (psd_set (rs := .sh (.int (wdAt ws c : Nat))) fx 7 (pd_cast (r := .sh (.int (c / 100 % (((ws.map Wd.D.str).length : Nat) : Int)))) (by rw [hwa0, List.length_map]) (pd_op (fun _ => op_mod) (pd_op (fun _ => op_fdiv) (pd_var fx 1) pd_int (rd_fdiv (cdiv (by decide)))) (pd_blt fx (fun _ => call_lenU) Z.b_len (pad_cons (pd_var fx 6) pad_nil) (rc_len (.lst .lst))) (rd_mod (by rw [List.length_map]; omega))))) (pssd_cons (psd_set (rs := .sh (.lst (someL.map .str))) fx 8 (PED.share (pd_lst (pad_cons pd_str (pad_cons pd_str (pad_cons pd_str (pad_cons pd_str (pad_cons pd_str (pad_cons pd_str (pad_cons pd_str (pad_cons pd_str (pad_cons pd_str (pad_cons pd_str (pad_cons pd_str (pad_cons pd_str pad_nil))))))))))))))) (pssd_cons (psd_set (rs := .sh (.str (rcSome c))) fx 9 (pd_sub fx (pd_var fx 8) (pd_op (fun _ => op_mod) (pd_op (fun _ => op_fdiv) (pd_var fx 1) pd_int (rd_fdiv (cdiv (by decide)))) pd_int (rd_mod (by decide))) (.lst .lst hsome))) (pssd_cons (psd_set (rs := .sh (.lst ((ws.drop (wdAt ws c + (c / 12000 % 2).toNat)).map .str))) fx 10 (pd_cast (r := .sh (.lst (Wd.cutD (ws.map Wd.D.str) (some (((wdAt ws c : Nat) : Int) + c / 12000 % 2)) none))) (by rw [hk3, cutD_from, List.map_drop]) (PED.share (pd_slice fx (pd_var fx 6) (pod_some (pd_plus (pd_var fx 7) (pd_op (fun _ => op_mod) (pd_op (fun _ => op_fdiv) (pd_var fx 1) pd_int (rd_fdiv (cdiv (by decide)))) pd_int (rd_mod (by decide))))) pod_none (.lst .lst))))) (pssd_cons (psd_lput fx 2 (he := pd_cast (r' := .sh (.str (rcRow c row))) (by rw [hrc]) (pd_join pd_str (PED.share (pd_cast (r := .ow (.lst (Wd.cutD (ws.map Wd.D.str) none (some ((wdAt ws c : Nat) : Int)) ++ [Wd.D.str (rcSome c)] ++ (ws.drop (wdAt ws c + (c / 12000 % 2).toNat)).map Wd.D.str))) (r' := .ow (.lst ((ws.take (wdAt ws c) ++ [rcSome c] ++ ws.drop (wdAt ws c + (c / 12000 % 2).toNat)).map .str))) (by rw [cutD_to, List.map_append, List.map_append, List.map_take]; rfl) (pd_addD fx (PED.share (pd_addD fx (PED.share (pd_slice fx (pd_var fx 6) pod_none (pod_some (pd_var fx 7)) (.lst .lst))) (PED.share (pd_lst (pad_cons (pd_var fx 9) pad_nil))) (.lst (hz (by simp only [List.length_cons, List.length_nil]; omega))))) (pd_var fx 10) (.lst (hz (by simp only [List.length_append, List.length_cons, List.length_nil, List.length_map, List.length_drop]; omega)))))) .lst hj2 fx)) (ha := pd_var fx 3) (hn := hix)) pssd_nil))))))))))))) ?_
  exact pssd_rt (psd_ret (pd_peek 2 rfl rfl (pd_join pd_str (pd_var (d := .lst ((rs.map Wd.D.str).set (rcAt rs c) (.str (rcRow c row)))) fx 2) (by rw [← hset]; exact .lst) hj fx)))
end
end K9
set_option Elab.async false
set_option linter.all false
set_option maxRecDepth 100000
set_option maxHeartbeats 4000000
namespace K9
open PySem PySem.Spec L2 Wd
open PyProof.Rows hiding St
/-! ### what the law draws is well formed -/
theorem unl2 {a b : Str} (ha : nameOk a = true) (hb : nameOk b = true) (h : a ≠ b) : unlikeOk [a, b] = true := by
  unfold unlikeOk
  rw [Bool.and_eq_true]
  refine ⟨by simp [ha, hb], decide_eq_true ((unlikes_iff [a, b]).mpr (by simp [h]))⟩
theorem unl3 {a b c : Str} (ha : nameOk a = true) (hb : nameOk b = true) (hc : nameOk c = true) (h1 : a ≠ b) (h2 : a ≠ c) (h3 : b ≠ c) : unlikeOk [a, b, c] = true := by
  unfold unlikeOk
  rw [Bool.and_eq_true]
  refine ⟨by simp [ha, hb, hc], decide_eq_true ((unlikes_iff [a, b, c]).mpr (by simp [h1, h2, h3]))⟩
theorem left_bes {ns : List Str} {h : Hid} (hf : HidFull ns h) {n s o : Str} (hn : n ∈ ns) (ho : o ∈ ns) : -100 ≤ leftOf h (.bes n s o 0) ∧ leftOf h (.bes n s o 0) ≤ 100 := by
  obtain ⟨a1, a2⟩ := near_in s
  obtain ⟨v1, e1, b1⟩ := hidAt_in hf hn a1
  obtain ⟨v2, e2, b2⟩ := hidAt_in hf ho a1
  obtain ⟨v3, e3, b3⟩ := hidAt_in hf hn a2
  obtain ⟨v4, e4, b4⟩ := hidAt_in hf ho a2
  have e : (Say.bes n s o 0).tms = besT n s o := rfl
  have en : (Say.bes n s o 0).num = 0 := by show besN s 0 = 0; unfold besN; split <;> rfl
  unfold leftOf
  rw [e, en]
  unfold besT
  split
  · simp only [List.map_cons, List.map_nil, List.sum_cons, List.sum_nil, e1, e2, e4, Option.getD_some]
    omega
  · simp only [List.map_cons, List.map_nil, List.sum_cons, List.sum_nil, e1, e2, e3, Option.getD_some]
    omega
theorem by_abs (s : Str) (l : Int) (h : -100 ≤ l ∧ l ≤ 100) : -100 ≤ byL s l ∧ byL s l ≤ 100 := by
  unfold byL
  split <;> omega
theorem spoil_in (c : Int) : spoilOf c = 0 ∨ spoilOf c = 1 := by
  unfold spoilOf
  split
  · exact .inr rfl
  · exact .inl rfl
theorem say_ok {c : Int} {ns : List Str} {h : Hid} (hne : ns ≠ []) (nd : ns.Nodup) (hm : ∀ x ∈ ns, NmOk x) (hf : HidFull ns h) : (sayOf c ns h).ok ∧ ∀ n ∈ (sayOf c ns h).names, n ∈ ns := by
  have one := oneOf_in (c := c) hne
  have o1 := hm _ one
  have sp := spoil_in c
  obtain ⟨pl, _⟩ := partOf_in c
  have atOk : (Say.at_ (oneOf c ns) (partOf c) ((hidAt h (oneOf c ns) (partOf c)).getD 0 + spoilOf c)).ok ∧ ∀ n ∈ (Say.at_ (oneOf c ns) (partOf c) ((hidAt h (oneOf c ns) (partOf c)).getD 0 + spoilOf c)).names, n ∈ ns := by
    obtain ⟨v, e, b⟩ := hidAt_in hf one pl
    refine ⟨⟨o1.1, o1.2, pl, ?_, ?_⟩, fun n hn => by rw [List.mem_singleton.mp hn]; exact one⟩
    · rw [e]; show -1000 ≤ v + _; omega
    · rw [e]; show v + _ ≤ 1000; omega
  unfold sayOf
  split
  · rename_i A
    have rne := rest_ne nd A.2.1
    have ot : othersOf c ns ≠ [] := fun z => by rw [z] at A; exact absurd A.2.1 (by decide)
    have f1 := others_in (first_in ot)
    have r1 := rest_in (pick_mem (dg c 3) Str.empty rne).1
    have r2 := others_in r1.1
    have n1 := hm _ f1.1
    have n2 := hm _ r2.1
    refine ⟨⟨⟨o1.1, n1.1, n2.1⟩, unl3 o1.2 n1.2 n2.2 f1.2.symm r2.2.symm r1.2.symm, (way_at c).1⟩, fun n hn => ?_⟩
    have hn' : n ∈ [oneOf c ns, firstOf c ns, pick (restOf c ns) (dg c 3) Str.empty] := hn
    simp only [List.mem_cons, List.not_mem_nil, or_false] at hn'
    rcases hn' with rfl | rfl | rfl
    · exact one
    · exact f1.1
    · exact r2.1
  · split
    · rename_i A C
      have ot : othersOf c ns ≠ [] := fun z => by have := kind_nil z; omega
      have f1 := others_in (first_in ot)
      have n1 := hm _ f1.1
      have lb := by_abs (sideOf c) _ (left_bes (s := sideOf c) hf one f1.1)
      refine ⟨⟨⟨o1.1, n1.1⟩, unl2 o1.2 n1.2 f1.2.symm, (sideOf_in c).1, by omega, by omega⟩, fun n hn => ?_⟩
      have hn' : n ∈ [oneOf c ns, firstOf c ns] := hn
      simp only [List.mem_cons, List.not_mem_nil, or_false] at hn'
      rcases hn' with rfl | rfl
      · exact one
      · exact f1.1
    · split
      · rename_i A C m F
        split at F
        · rename_i D2
          have ot : othersOf c ns ≠ [] := fun z => by have := kind_nil z; omega
          have f1 := others_in (first_in ot)
          have n1 := hm _ f1.1
          have mm := many_in (List.mem_of_find?_eq_some F)
          refine ⟨⟨⟨o1.1, n1.1⟩, unl2 o1.2 n1.2 f1.2.symm, pl, mm.1, mm.2⟩, fun n hn => ?_⟩
          have hn' : n ∈ [oneOf c ns, firstOf c ns] := hn
          simp only [List.mem_cons, List.not_mem_nil, or_false] at hn'
          rcases hn' with rfl | rfl
          · exact one
          · exact f1.1
        · cases F
      · exact atOk
theorem ok_of {x : Say} {ns : List Str} (hn : ∀ n ∈ x.names, n ∈ ns) : ofNames x ns = true := List.all_eq_true.mpr fun n h => inV_mem (hn n h)
/-! bounds -/
theorem said_ok (s : List Int) : (∀ x ∈ sSaid s, x.ok ∧ (∀ n ∈ x.names, n ∈ sNames s)) ∧ (sSaid s).length ≤ 16 := by
  obtain ⟨⟨nd, nok⟩, l1, l6⟩ := namesOf_ok (cell s 0)
  refine ⟨fun x hx => ?_, ?_⟩
  · unfold sSaid at hx
    obtain ⟨k, _, rfl⟩ := List.mem_map.mp hx
    exact say_ok (fun z => by rw [show namesOf (cell s 0) = [] from z] at l1; exact absurd l1 (by decide)) nd nok (hidFull s)
  · unfold sSaid sMany
    rw [List.length_map, List.length_range]
    omega
theorem names_nsok (s : List Int) : NsOk (sNames s) := by
  obtain ⟨⟨nd, nok⟩, l1, l6⟩ := namesOf_ok (cell s 0)
  refine ⟨⟨l1, l6, fun x hx => (nok x hx).1⟩, ?_⟩
  unfold unlikeOk
  rw [Bool.and_eq_true]
  exact ⟨List.all_eq_true.mpr fun x hx => (nok x hx).2, decide_eq_true ((unlikes_iff _).mpr nd)⟩
end K9
set_option Elab.async false
set_option linter.all false
set_option maxRecDepth 100000
set_option maxHeartbeats 4000000
namespace K9
open PySem PySem.Spec L2 Wd
open PyProof.Rows hiding St
open TL
/-! ### the law -/
def PrLaw (ds : List D) (r : Wd.Slot) : Prop := ∃ s : List Int, s.length ≤ 63 ∧ ds = [.ro (s.map .int)] ∧ r = .sh (.bl true)
def PrPaper (ds : List D) (r : Wd.Slot) : Prop := ds = [] ∧ r = .sh (.bl true)
def PrSheetOf (ds : List D) (r : Wd.Slot) : Prop := ∃ (ns : List Str) (xs : List Say), NsOk ns ∧ XsOk ns xs ∧ (∀ x ∈ xs, x.ok) ∧ ds = [.lst (ns.map .str), .lst (xs.map Say.t)] ∧ r = .ow (.obj "Sheet" (shF ns xs))
def cell12 (s : List Int) (i : Nat) : Int := cell s (31 + i) % 1000000000000
def spoils (s : List Int) (t : Str) : Nat → Str
  | 0 => t
  | i + 1 => spoilS (spoils s t i) (cell12 s i)
theorem spoils_len (s : List Int) (t : Str) : ∀ i, (spoils s t i).length ≤ t.length + i
  | 0 => Nat.le_refl _
  | i + 1 => by
    have h1 := spoil_len (spoils s t i) (cell12 s i)
    have h2 := spoils_len s t i
    show (spoilS (spoils s t i) (cell12 s i)).length ≤ t.length + (i + 1)
    omega
section
variable {P : Program} {w : World} {K : PySem.W.Frag} {mg : Str → Option Value} {base : Heap} (Z : Env K mg w) (hP : SupP P pwFile)
include Z
theorem bi_l_sheet_of : Binds K Z.d_l_sheet_of ["_law_names_here", "_law_said"] [] := Z.F_l_sheet_of.bindsN fun _ _ _ _ _ _ us hl => match us, hl with | [_, _], _ => rfl
theorem bi_l_paper : Binds K Z.d_l_paper [] [] := Z.F_l_paper.bindsN fun _ _ _ _ _ _ us hl => match us, hl with | [], _ => rfl
theorem ok_l_sheet_of : FnOk P w K mg base (L2.CX P w) 7 (He.ga K "_law_sheet_of") Z.d_l_sheet_of ["_law_names_here", "_law_said"] (spD K PrSheetOf) := by
  refine fn_data Z.F_l_sheet_of sc_l_sheet_of (fun ds r ⟨_, _, _, _, _, e, _⟩ => (by rw [e]; rfl)) fun cdv A outer s H E fx ds r hp => ?_
  obtain ⟨ns, xs, hn, hx, ho, rfl, rfl⟩ := hp
  have l16 : xs.length ≤ 16 := hx.1
  exact ⟨.rt _, pssd_rt (psd_ret (pd_make fx Z.M_Sheet_init (ok_Sheet_init Z) Z.m_Sheet (bi_Sheet_init Z) .nil (fun _ => .nil) (pad_cons (PED.share (pd_bty fx (fun _ => call_listU) Z.b_list (pad_cons (pd_var fx 0) pad_nil) (rc_list (.inl .lst)))) (pad_cons (PED.share (pd_lcA fx [("_law_one", 2)] xs Say.t Say.d (pid_list fx .lst (pd_var fx 1)) (by rw [sizeLine_eq]; omega) fun x hm => ⟨_, _, tgd_name fx.bk 2, fun _ h => h, PED.share (pd_call fx.bk (ok_l_made Z) Z.m_l_made Z.F_l_made.kp (bi_l_made Z) .nil (fun _ => .nil) (pad_cons (pd_var fx.bk 2) pad_nil) ⟨x, ho x hm, rfl, rfl⟩)⟩)) pad_nil)) ⟨ns, xs, hn, hx, rfl, rfl⟩)), .rt⟩
include hP
theorem ok_law (hPaper : FnOk P w K mg base (L2.CX P w) 10 (He.ga K "_law_paper") Z.d_l_paper [] (spD K PrPaper)) : FnOk P w K mg base (L2.CX P w) 11 (He.ga K "law") Z.d_law ["_law_script"] (spD K PrLaw) := by
  refine fn_data Z.F_law sc_law (fun ds r ⟨_, _, e, _⟩ => (by rw [e]; rfl)) fun cdv A outer s H E fx ds r hp => ?_
  obtain ⟨sc, hs, rfl, rfl⟩ := hp
  obtain ⟨hsd, h16⟩ := said_ok sc
  have hns := names_nsok sc
  have hnm : ∀ n ∈ sNames sc, nameOk n = true := names_un hns.2
  have hxo : ∀ x ∈ sSaid sc, x.ok := fun x hx => (hsd x hx).1
  have hxs : XsOk (sNames sc) (sSaid sc) := ⟨h16, fun x hx => ok_of (hsd x hx).2⟩
  have hT := text_fit hns.1.1 hns.1.2.1 hnm h16 hxo
  have hT1 := hT.1
  have hw6 : (sNames sc).length ≤ 6 ∧ ∀ n ∈ sNames sc, n.length ≤ 1000 := ⟨hns.1.2.1, hns.1.2.2⟩
  have hw16 : (sSaid sc).length ≤ 16 ∧ ∀ x ∈ sSaid sc, x.ok := ⟨h16, hxo⟩
  have hC := changed_len hT (cell sc 29)
  refine ⟨.rt _, ?_, .rt⟩
  refine pssd_cons (psd_asg fx (pd_call fx (ok_l_sheet Z) Z.m_l_sheet Z.F_l_sheet.kp (bi_l_sheet Z) .nil (fun _ => .nil) (pad_cons (pd_var fx 0) (pad_cons pd_int pad_nil)) ⟨sc, hs, rfl, rfl⟩) (tgd_tup fx .tup (tgsd_cons (tgd_name fx 1) (tgsd_cons (tgd_name fx 2) tgsd_nil)))) ?_
  refine pssd_cons (psd_set fx 3 (pd_call fx (ok_l_text Z) Z.m_l_text Z.F_l_text.kp (bi_l_text Z) .nil (fun _ => .nil) (pad_cons (pd_var fx 1) (pad_cons (pd_var fx 2) pad_nil)) ⟨sNames sc, sSaid sc, hw6, hw16, rfl, rfl⟩)) ?_
  refine pssd_ifF (PWD.t (pwd_or (tv := false) (tw := false) (ptd_cast (by rw [strEq, decide_eq_true rfl]; rfl) (ptd_ne fx (pd_call fx (ok_written Z) Z.m_written Z.F_written.kp (bi_written Z) .nil (fun _ => .nil) (pad_cons (PED.share (pd_call fx (ok_l_sheet_of Z) Z.m_l_sheet_of Z.F_l_sheet_of.kp (bi_l_sheet_of Z) .nil (fun _ => .nil) (pad_cons (pd_var fx 1) (pad_cons (pd_var fx 2) pad_nil)) ⟨sNames sc, sSaid sc, hns, hxs, hxo, rfl, rfl⟩)) pad_nil) ⟨sNames sc, sSaid sc, hw6, hw16, rfl, rfl⟩) (pd_var fx 3) (.flat rfl rfl rfl))) fun _ => pwd_or (tv := false) (tw := false) (ptd_not (tv := true) (ptd_val (pd_call fx (ok_l_judged Z hP) Z.m_l_judged Z.F_l_judged.kp (bi_l_judged Z) .nil (fun _ => .nil) (pad_cons (pd_var fx 3) pad_nil) ⟨_, by omega, rfl, rfl⟩))) fun _ => pwd_or1 (ptd_not (tv := true) (ptd_val (pd_call0 fx hPaper Z.m_l_paper Z.F_l_paper.kp (bi_l_paper Z) .nil (fun _ => .nil) ⟨rfl, rfl⟩))))) ?_
  refine pssd_ifF (ptd_not (tv := true) (ptd_val (pd_call fx (ok_l_judged Z hP) Z.m_l_judged Z.F_l_judged.kp (bi_l_judged Z) .nil (fun _ => .nil) (pad_cons (pd_call fx (ok_l_rows_changed Z) Z.m_l_rows_changed Z.F_l_rows_changed.kp (bi_l_rows_changed Z) .nil (fun _ => .nil) (pad_cons (pd_var fx 3) (pad_cons (pd_call fx (ok_l_cell_at Z) Z.m_l_cell_at Z.F_l_cell_at.kp (bi_l_cell_at Z) .nil (fun _ => .nil) (pad_cons (pd_var fx 0) (pad_cons pd_int pad_nil)) ⟨sc, 29, hs, by omega, rfl, rfl⟩) pad_nil)) ⟨_, cell sc 29, hT, rfl, rfl⟩) pad_nil) ⟨_, by omega, rfl, rfl⟩))) ?_
  obtain ⟨m0, m1⟩ := md (cell sc 30) 3 (by decide)
  refine pssd_cons (psd_for fx (List.range (1 + cell sc 30 % 3).toNat) (fun k : Nat => D.int (0 + (k : Int))) (fun i => [.sh (.ro (sc.map .int)), .sh (.lst ((sNames sc).map .str)), .sh (.lst ((sSaid sc).map Say.t)), .sh (.str (spoils sc (textS (sNames sc) (sSaid sc)) i)), .un]) (pid_range1 fx (pad_cons (pd_plus pd_int (pd_op (fun _ => op_mod) (pd_call fx (ok_l_cell_at Z) Z.m_l_cell_at Z.F_l_cell_at.kp (bi_l_cell_at Z) .nil (fun _ => .nil) (pad_cons (pd_var fx 0) (pad_cons pd_int pad_nil)) ⟨sc, 30, hs, by omega, rfl, rfl⟩) pd_int (rd_mod (by decide)))) pad_nil) Z.b_range ⟨by omega, by omega⟩) (Wk.refl _) fun i x hx => ?_) ?_
  · have hi : i < (1 + cell sc 30 % 3).toNat := by
      rcases Nat.lt_or_ge i (1 + cell sc 30 % 3).toNat with z | z
      · exact z
      · rw [List.getElem?_eq_none (by rw [List.length_range]; exact z)] at hx; cases hx
    rw [List.getElem?_range hi] at hx
    cases hx
    have hl := spoils_len sc (textS (sNames sc) (sSaid sc)) i
    have hl2 := spoils_len sc (textS (sNames sc) (sSaid sc)) (i + 1)
    have hpw : (10 : Int) ^ (12 : Int).toNat = 1000000000000 := by decide
    obtain ⟨c0, c1⟩ := md (cell sc (31 + i)) 1000000000000 (by decide)
    refine ⟨_, _, _, tgd_name fx 4, .inl (pssd_cons (psd_set (rs := .sh (.str (spoils sc (textS (sNames sc) (sSaid sc)) (i + 1)))) fx 3 (pd_call fx (ok_l_spoilt Z) Z.m_l_spoilt Z.F_l_spoilt.kp (bi_l_spoilt Z) .nil (fun _ => .nil) (pad_cons (pd_var fx 3) (pad_cons (pd_cast (r' := .sh (.int (cell12 sc i))) (by rw [hpw]; rfl) (pd_op (fun _ => op_mod) (pd_call fx (ok_l_cell_at Z) Z.m_l_cell_at Z.F_l_cell_at.kp (bi_l_cell_at Z) .nil (fun _ => .nil) (pad_cons (pd_var fx 0) (pad_cons (pd_cast (slotI (show (31 : Int) + (0 + (i : Int)) = ((31 + i : Nat) : Int) by omega)) (pd_plus pd_int (pd_var fx 4))) pad_nil)) ⟨sc, 31 + i, hs, by omega, rfl, rfl⟩) (pd_op (fun _ => op_pow) pd_int pd_int (rd_pow (by unfold CPow; decide))) (rd_mod (by decide)))) pad_nil)) ⟨_, cell12 sc i, by omega, c0, c1, rfl, rfl⟩)) (pssd_one (psd_ifF (ptd_not (tv := true) (ptd_val (pd_call fx (ok_l_judged Z hP) Z.m_l_judged Z.F_l_judged.kp (bi_l_judged Z) .nil (fun _ => .nil) (pad_cons (pd_var fx 3) pad_nil) ⟨_, by omega, rfl, rfl⟩))) pssd_nil))), ?_⟩
    exact .s (.s (.s (.s (.u .n))))
  · exact pssd_rt (psd_ret pd_bl)
end
end K9
set_option Elab.async false
set_option linter.all false
set_option maxRecDepth 100000
set_option maxHeartbeats 2000000
/-! A walk over written pairs of texts, each turn's texts known as objects. -/
namespace L2
open PySem PySem.Spec PyProof.Rows
theorem wp_set_and {M : Model} {Γ : PySem.Ctx} {E : Value → Pos → Shared → Prop} {p : Pos} {s : Shared} {a : Addr} {m : Str → Option Value} (hn : s.heap.Ns a m) (name : Str) (v : Value) {Q1 Q2 : Unit → Pos → Shared → Prop} (h1 : Sem.wp M Γ (nsSet a name v) Q1 E p s) (h2 : Sem.wp M Γ (nsSet a name v) Q2 E p s) :
    Sem.wp M Γ (nsSet a name v) (fun u p s => Q1 u p s ∧ Q2 u p s) E p s := by
  obtain ⟨o, es, ep, ho, hd, hk, hm⟩ := hn
  simp only [nsSet, strHash, Sem.wp_bind', Sem.wp_cmd_ask, Sem.wp_pure', Sem.wp_cmd_mkText] at h1 h2 ⊢
  rw [Sem.wp_loadPart_of M Γ E p { s with toks := s.toks + 1 } (o := o) _ ho] at h1 h2 ⊢
  simp only [hd] at h1 h2 ⊢
  cases hb : aRefKeyMayBeTheName name es with
  | true =>
    rw [hb] at h1
    simp only [if_true, Sem.wp_bind'] at h1
    exact h1.elim
  | false =>
    rw [hb] at h1 h2
    simp only [Bool.false_eq_true, if_false, Sem.wp_cmd_updatePart] at h1 h2 ⊢
    exact ⟨h1.1, h1.2, h2.2⟩
section
variable {X : Cx} {pins : List (Addr × Obj)} {σ : St} {H : Hp} {s : Shared}
/-- a local is stored: what is known behind, and its very object -/
theorem store_obj {A : Around} {E : Value → Shared → Prop} {i : Nat} {x : Str} {v : V} {u : Value} {m : Str → Option Value} {Q : Unit → Shared → Prop} (I : Inv X pins σ H s) (hN : X.N.Nodup) (hi : X.N[i]? = some x) (hk : X.env.scope.names.lookup x = some .local) (r : RelV v u) (hn : s.heap.Ns X.env.locals m)
    (h : ∀ s', Inv X pins (σ.set i (some v)) H s' → s'.heap.Ns X.env.locals (fun y => if y = x then some u else m y) → Q () s') : wpAny (model X.prog X.w) A (storeName X.env x u) Q E s := by
  have hc : (X.env.scope.kind == .class || (X.env.scope.kind == .module && X.env.locals != X.env.globals)) = false := by rw [I.ok.kind]; rfl
  have a1 : wpAny (model X.prog X.w) A (storeName X.env x u) (fun _ s' => Inv X pins (σ.set i (some v)) H s') E s := store_ok I hN hi (.inl hk) r (fun _ J => J) (.inr hk)
  rw [storeName_local hk hc] at a1 ⊢
  have a2 : wpAny (model X.prog X.w) A (nsSet X.env.locals x u) (fun _ s' => s'.heap.Ns X.env.locals (fun y => if y = x then some u else m y)) E s := wpAny_nsSet hn fun h' z _ => z
  intro Γ p hΓ
  refine Sem.wp_mono _ Γ _ (fun b p2 s2 z => h s2 z.1 z.2) (fun _ _ _ z => z) _ _ (wp_set_and hn x u (a1 Γ p hΓ) (a2 Γ p hΓ))
/-- the written pair's object -/
structure PairO (H : Hp) (a : Addr) (y z : Str) (o : Obj) (t u : Tok) : Prop where
  at_ : H a = some (.frz o (.tup [.str y, .str z]))
  cls : o.cls = .type "tuple"
  dat : ∃ n, o.data = .seq #[.str y t, .str z u] n
  t0 : t ≠ 0
  u0 : u ≠ 0
  tu : t ≠ u
def gPairO (jo jn : Nat) : TG := fun v σ H Q => ∃ a y z o t u, v = .ref a ∧ PairO H a y z o t u ∧ (y == z) = false ∧ Q ((σ.set jo (some (.str y))).set jn (some (.str z))) H
/-- if not f(x.replace(y, z)): .., f true of it -/
def tbRep (sp : Sp) (i jo jn : Nat) : TS := fun D σ H => ∃ x y z, σ[i]? = some (some (.str x)) ∧ σ[jo]? = some (some (.str y)) ∧ σ[jn]? = some (some (.str z)) ∧ x.length + (x.length + 1) * z.length ≤ 16777216 ∧ sp [.str (Txt.replace x y z)] H (fun v H' => v = .bl true ∧ D.nx σ H') E0
/-- target and body together -/
structure PGB (X : Cx) (tg : Expr) (body : List Stmt) (g : TG) (tb : TS) : Prop where
  run : ∀ (pins : List (Addr × Obj)) (s : Shared) (σ : St) (H : Hp) (v : V) (u : Value) (D : Ends), Inv X pins σ H s → RelV v u → g v σ H (fun σ2 H2 => tb D σ2 H2) →
    wpAny (model X.prog X.w) X.A (assign tg X.env u) (fun _ s2 => wpAny (model X.prog X.w) X.A (execs body X.env) (SP X pins D) X.xe s2) X.xe s
end
section
variable {X : Cx} {k j : Nat} {f : Addr} {fd : FuncData} {ps : List Str} {sp : Sp} {x y z g : Str} {sts : List Stmt} {i jo jn kt : Nat} {p1 p2 p3 p4 p5 p6 p7 p8 p9 pa pb pc ap : Pos}
theorem pgb_rep (F : FnOk X.prog X.w X.K X.mg X.base (L2.CX X.prog X.w) k f fd ps sp) (hr : Room k X.A) (hg : Gl X g) (hm : X.mg g = some (.ref f)) (hk : PySem.W.keepIn X.K (.ref f) = true) (hb : Binds X.K fd ps []) (hc : X.calm = true) (hN : X.N.Nodup) (hi : X.N[i]? = some x) (ho : X.N[jo]? = some y) (hn : X.N[jn]? = some z) (hyz : y ≠ z) (hx : i ≠ jo ∧ i ≠ jn ∧ jo ≠ jn)
    (kx : X.env.scope.names.lookup x = some .local) (ky : X.env.scope.names.lookup y = some .local) (kz : X.env.scope.names.lookup z = some .local)
    (dx : (x == ("__debug__" : Str)) = false) (cx : (x == ("__classdict__" : Str)) = false) (dy : (y == ("__debug__" : Str)) = false) (dz : (z == ("__debug__" : Str)) = false) (dg : (g == ("__debug__" : Str)) = false)
    (hlen : (assignEach [.Name y p1, .Name z p2] X.env).length = 2) (hst : (assignEach [.Name y p1, .Name z p2] X.env).findIdx? (·.1) = none) (has : (assignEach [.Name y p1, .Name z p2] X.env).map (·.2) = [assign (.Name y p1) X.env, assign (.Name z p2) X.env])
    (hbase : attributeBase (.Name x p5) "replace" X.env (eval (.Name x p5) X.env) = eval (.Name x p5) X.env) (hline : (ap.endLine == pa.line) = true)
    (hs2 : starEach [.Name y p6, .Name z p7] X.env = [(false, eval (.Name y p6) X.env), (false, eval (.Name z p7) X.env)])
    (hs1 : starEach [.Call (.Attribute (.Name x p5) "replace" ap) [.Name y p6, .Name z p7] [] pa] X.env = (false, eval (.Call (.Attribute (.Name x p5) "replace" ap) [.Name y p6, .Name z p7] [] pa) X.env) :: starEach [] X.env) (hpl : (backTo pb (starEach [] X.env)).any (·.1) = false)
    (he : ∀ whole, isTrue (.Call (.Name g p4) [.Call (.Attribute (.Name x p5) "replace" ap) [.Name y p6, .Name z p7] [] pa] [] pb) X.env whole = (do let v ← whole; standAt (Expr.Call (.Name g p4) [.Call (.Attribute (.Name x p5) "replace" ap) [.Name y p6, .Name z p7] [] pa] [] pb).pos; holding [v] (truthy v))) :
    PGB X (.Tuple [.Name y p1, .Name z p2] kt p3) [.If (.UnaryOp .Not (.Call (.Name g p4) [.Call (.Attribute (.Name x p5) "replace" ap) [.Name y p6, .Name z p7] [] pa] [] pb) pc) sts [] p8] (gPairO jo jn) (tbRep sp i jo jn) := by
  refine ⟨fun pins s σ H v u D I r w => ?_⟩
  obtain ⟨a, ty, tz, o, t1, t2, e, P, hne, w⟩ := w
  subst e
  cases r
  obtain ⟨n0, hdat⟩ := P.dat
  have hob := (I.hok a _ P.at_).1
  refine assign_Tuple_tuple (I.ok.hd hc) (items := #[.str ty t1, .str tz t2]) ⟨o, hob, P.cls, n0, hdat⟩ (by rw [hlen]; rfl) hst fun h' hx' => ?_
  have I1 : Inv X pins σ H { s with heap := h' } := I.kept (t' := s.toks) fun b ob e => hx' b ob (Nat.ne_of_lt (Heap.lt_size e)) e
  rw [has]
  obtain ⟨m, hns, _⟩ := id I1.loc
  refine assignInOrder_cons (wpAny_assign_Name (store_obj (v := .str ty) I1 hN ho ky ⟨t1, rfl⟩ hns fun s2 I2 n2 => ?_))
  refine assignInOrder_cons (wpAny_assign_Name (store_obj (v := .str tz) I2 hN hn kz ⟨t2, rfl⟩ n2 fun s3 I3 n3 => ?_))
  refine assignInOrder_nil ?_
  obtain ⟨gx, gy, gz, h1, h2, h3, hb24, hsp⟩ := w
  have li : (σ.set jo (some (.str ty))).length = σ.length := List.length_set
  have ljo : jo < σ.length := by rw [I.len]; exact (List.getElem?_eq_some_iff.mp ho).1
  have ljn : jn < (σ.set jo (some (.str ty))).length := by rw [li, I.len]; exact (List.getElem?_eq_some_iff.mp hn).1
  have ey : gy = ty := by
    rw [List.getElem?_set_ne (fun z => hx.2.2 z.symm), List.getElem?_set_self ljo] at h2
    cases h2; rfl
  have ez : gz = tz := by
    rw [List.getElem?_set_self ljn] at h3
    cases h3; rfl
  subst ey ez
  refine wpAny_execs_cons (wpAny_If (isTrue_not (isTrue_plain (wpAny_Call_Name_kw (ld_glob I3 hg hm ?_ dg)) (he _))))
  refine PySem.W.callWith_K (h₀ := X.base) I3.ok.mod.kin hk ?_ hs1 hpl
  rw [hs1]
  refine Calls.spliced_cons (PySem.Call_method2 hbase hs2 hline (raw_name hi (.inl kx) I3 h1 (fun v r => ?_) dx cx))
  obtain ⟨tx, e⟩ := r
  subst e
  refine ⟨"str", _, PySem.F.plainAttrs_str, PySem.F.slot_str_replace, PySem.F.type_str_replace, typeIs_str _ _ _, (fun _ e => nomatch e), Calls.callWith_builtin rfl (Calls.evalArgs_plain (Calls.spliced_cons ?_))⟩
  refine wpAny_Name (wpAny_loadName_local I3.ok.kind ky n3 (v := .str gy t1) (by rw [if_neg hyz, if_pos rfl]) ?_) dy
  refine Calls.spliced_cons (wpAny_Name (wpAny_loadName_local I3.ok.kind kz n3 (v := .str gz t2) (by rw [if_pos rfl]) ?_) dz)
  refine Calls.spliced_nil ?_
  refine PySem.SC.replace P.t0 P.u0 P.tu hne hb24 fun t' kk => Calls.spliced_nil ?_
  have I4 : Inv X pins _ H { s3 with toks := kk } := I3.tok kk
  refine ⟨I4.kIn, ?_⟩
  refine wpAny_mono (run_fn (vs := [.str (Txt.replace gx gy gz)]) F hr hb .nil passL I4 (.cons ⟨t', rfl⟩ .nil) hsp) (fun v s5 q => ?_) fun _ _ z => z
  obtain ⟨v', H5, I5, r5, e5, q5⟩ := q
  subst e5
  cases r5
  exact wpAny_truthy_bool (wpAny_execs_nil (wpAny_execs_nil ⟨_, H5, I5, q5⟩))
end
section
variable {X : Cx}
/-- a walk whose target and body go together, one token out -/
theorem pst_forB {tg iter : Expr} {body : List Stmt} {wi : TI} {g : TG} {tb : TS} {pos : Pos} (hp : PassesOwn (model X.prog X.w) X.A X.env X.xe) (hc : X.calm = true) (hi : PIT X tg iter wi) (hb : PGB X tg body g tb)
    (hs : ∀ x, foldedSetIterable iter X.env x = pure x) : PST X (.For tg iter body [] pos) (tFor wi g tb) := by
  intro pins s σ H D h0 I h
  refine wpAny_For (thn (hi pins s σ H _ h0 I h) fun _ _ ha => thn ha fun _ _ hb2 => ?_) hs
  obtain ⟨it, fp, tn, J, H1, e, I1, T, t1, f1, W, ⟨n1, w1⟩, turn⟩ := hb2
  subst e
  have ok : ∀ {H' : Hp}, (∀ b ∈ fp, H' b = none) → ∀ b ∈ fp, FpOk X pins H' b := fun hn b hm => ⟨hn b hm, (f1 b hm).2⟩
  refine codeAny_forLoop_any (fun n s' => ∃ i σ' H', Inv X pins σ' H' s' ∧ tn i s'.heap ∧ (∀ b ∈ fp, H' b = none) ∧ W i n σ' H') ?_ n1 ⟨0, σ, H1, I1, t1, fun b hm => (f1 b hm).1, w1⟩
  rintro n s3 ⟨i, σ3, H3, I3, t3, f3, w3⟩
  rcases turn i n σ3 H3 w3 with ⟨stop, qn⟩ | ⟨go, N, hN, step⟩
  · refine wpAny_passesOwn hp (thn (T.done X rfl rfl rfl hc i pins s3 σ3 H3 X.xe I3 (ok f3) t3 stop) fun r s4 hr => ?_)
    obtain ⟨rfl, I4⟩ := hr
    exact wpAny_execs_nil ⟨σ3, H3, I4, qn⟩
  refine wpAny_passesOwn hp (thn (T.item X rfl rfl rfl hc i pins s3 σ3 H3 X.xe I3 (ok f3) t3 go) fun r s4 hr => ?_)
  obtain ⟨u, rfl, h4⟩ := hr
  refine wpAny_passesOwn hp (thn h4 fun _ s5 h5 => ?_)
  obtain ⟨x, H5, I5, r5, y5, t5, f5⟩ := h5
  refine wpAny_passesOwn hp (thn (hb.run _ s5 σ3 H5 x u _ (I5.pinned (ok f5) (T.obj _ _ t5)) r5 (step x H5 y5)) fun _ s6 h6 => wpAny_passesOwn hp (thn h6 fun f s7 q7 => ?_))
  have again : ∀ {σ7 : St} {H7 : Hp}, Inv X (pins ++ pinsAt fp s5.heap) σ7 H7 s7 → N σ7 H7 → ∃ m, m < n ∧ ∃ i σ' H', Inv X pins σ' H' s7 ∧ tn i s7.heap ∧ (∀ b ∈ fp, H' b = none) ∧ W i m σ' H' := fun {σ7 H7} I7 n7 => by
    obtain ⟨m', hm, w7⟩ := hN σ7 H7 n7
    have pin : ∀ b ∈ fp, ∀ o, s5.heap.get? b = some o → s7.heap.get? b = some o ∧ H7 b = none := fun b hm o e => by
      have z := I7.pin (b, o) (List.mem_append_right _ (List.mem_append_right _ (mem_pinsAt hm e)))
      exact ⟨z.1, z.2.1⟩
    exact ⟨m', hm, i + 1, σ7, H7, I7.unpinned, T.keep _ _ _ t5 fun b hm o e => (pin b hm o e).1, fun b hm => by obtain ⟨o, e, _⟩ := T.obj _ _ t5 b hm; exact (pin b hm o e).2, w7⟩
  cases f with
  | next => obtain ⟨_, _, I7, n7⟩ := q7; exact again I7 n7
  | cont => obtain ⟨_, _, I7, n7⟩ := q7; exact again I7 n7
  | brk => obtain ⟨_, _, I7, q7⟩ := q7; exact ⟨_, _, I7.unpinned, q7⟩
  | ret v => obtain ⟨_, _, _, I7, r7, q7⟩ := q7; exact ⟨_, _, _, I7.unpinned, r7, q7⟩
/-- (y, z), two written texts -/
def tPairO (y z : Str) : TE := fun _ H Q => ∀ (a : Addr) (o : Obj) (t u : Tok), H a = none → PairO (upd H a (.frz o (.tup [.str y, .str z]))) a y z o t u → Q (.ref a) (upd H a (.frz o (.tup [.str y, .str z])))
theorem pet_pairO {y z : Str} {j0 j1 kt : Nat} {c0 c1 pos : Pos} (h1 : starEach [.Constant (.str y) j0 c0, .Constant (.str z) j1 c1] X.env = (false, eval (.Constant (.str y) j0 c0) X.env) :: starEach [.Constant (.str z) j1 c1] X.env) (h2 : starEach [.Constant (.str z) j1 c1] X.env = (false, eval (.Constant (.str z) j1 c1) X.env) :: starEach [] X.env) :
    PET X (.Tuple [.Constant (.str y) j0 c0, .Constant (.str z) j1 c1] kt pos) (tPairO y z) := by
  intro pins s σ H Q h0 I h
  refine wpAny_Tuple_spliced ?_
  rw [h1, h2]
  refine Calls.spliced_cons (Calls.Constant_str (pos := c0) (k := j0) (Calls.spliced_cons (Calls.Constant_str (pos := c1) (k := j1) (Calls.spliced_nil ?_))))
  have hn : H s.heap.objs.size = none := I.hok.fresh (Nat.le_refl _)
  refine ⟨Nat.le_of_ble_eq_true rfl, .ref s.heap.objs.size, upd H s.heap.objs.size (.frz { cls := .type "tuple", data := .seq #[.str y s.toks, .str z (s.toks + 1)] } (.tup [.str y, .str z])), I.laid (t' := s.toks + 1 + 1) (fun b u e => Heap.get?_push_of_some _ e) (Nat.le_refl _) ?_, rfl, ?_⟩
  · exact ⟨Heap.get?_push_size _ rfl, Nat.le_of_ble_eq_true rfl, [.str y s.toks, .str z (s.toks + 1)], .cons ⟨_, rfl⟩ (.cons ⟨_, rfl⟩ .nil), ⟨_, Heap.get?_push_size _ rfl, rfl, _, rfl⟩⟩
  · refine h _ _ s.toks (s.toks + 1) hn ⟨upd_same, rfl, ⟨_, rfl⟩, ?_, ?_, ?_⟩
    · show s.toks ≠ 0; omega
    · show s.toks + 1 ≠ 0; omega
    · show s.toks ≠ s.toks + 1; omega
end
end L2
set_option Elab.async false
set_option linter.all false
set_option maxRecDepth 100000
set_option maxHeartbeats 2000000
/-! One token out: statements, expressions, walks over written pairs. -/
namespace Wd
open PySem PySem.Spec L2
open PyProof.Rows hiding St
def anyST {ι : Type} (Xs : ι → Cx) (s : Stmt) : TS := fun D σ H => ∃ t, (∀ i, PST (Xs i) s t) ∧ t D σ H
def anySsT {ι : Type} (Xs : ι → Cx) (s : List Stmt) : TS := fun D σ H => ∃ t, (∀ i, PSsT (Xs i) s t) ∧ t D σ H
def anyET {ι : Type} (Xs : ι → Cx) (e : Expr) : TE := fun σ H Q => ∃ t, (∀ i, PET (Xs i) e t) ∧ t σ H Q
def anyAT {ι : Type} (Xs : ι → Cx) (es : List Expr) : TA := fun σ H Q => ∃ t, (∀ i, PAT (Xs i) es t) ∧ t σ H Q
def PEDT (K : PySem.W.Frag) {ι : Type} (Xs : ι → Cx) (e : Expr) (γ : Gm) (r : Slot) : Prop := EvD K (anyET Xs e) γ r
def PADT (K : PySem.W.Frag) {ι : Type} (Xs : ι → Cx) (es : List Expr) (γ : Gm) (ds : List D) : Prop := EvA K (anyAT Xs es) γ ds
section
variable {ι : Type} {Xs : ι → Cx} {P : Program} {w : World} {K : PySem.W.Frag} {mg : Str → Option Value} {base : Heap} {N : List Str} {k : Nat} {γ : Gm} {d d1 d2 : D} {ds : List D} {rs : Slot} {e a b tg iter : Expr} {es : List Expr} {st : Stmt} {sts body : List Stmt} {pos pos' p np : Pos} {x y z : Str} {H0 S0 S H : Hp} {σ : L2.St} {D : Ends}
theorem pet_any (e : Expr) (i : ι) : PET (Xs i) e (anyET Xs e) := fun pins s σ H Q h0 I ⟨t, h, q⟩ => h i pins s σ H Q h0 I q
theorem pat_any (es : List Expr) (i : ι) : PAT (Xs i) es (anyAT Xs es) := fun pos pins s σ H Q h0 I ⟨t, h, q⟩ => h i pos pins s σ H Q h0 I q
theorem pst_any (s : Stmt) (i : ι) : PST (Xs i) s (anyST Xs s) := fun pins s σ H D h0 I ⟨t, h, q⟩ => h i pins s σ H D h0 I q
theorem psst_any (s : List Stmt) (i : ι) : PSsT (Xs i) s (anySsT Xs s) := fun pins s σ H D h0 I ⟨t, h, q⟩ => h i pins s σ H D h0 I q
theorem rt_cons (h : anyST Xs st { D with nx := anySsT Xs sts D } σ H) : anySsT Xs (st :: sts) D σ H := ⟨tSeq (anyST Xs st) (anySsT Xs sts), fun i => psst_cons (pst_any st i) (psst_any sts i), h⟩
theorem rt_of (h : anyS Xs st D σ H) : anyST Xs st D σ H := ⟨anyS Xs st, fun i => PST.of (ps_any st i), h⟩
theorem rt_ofs (h : anySs Xs sts D σ H) : anySsT Xs sts D σ H := ⟨anySs Xs sts, fun i => PSsT.of (pss_any sts i), h⟩
/-- a written text is stored first -/
theorem rs_str (fx : Fx Xs P w K mg base N k) (i : Nat) {c : Str} {j : Nat} {cp : Pos} (h : anySsT Xs sts D (σ.set i (some (.str c))) H) (hN : N[i]? = some x := by rfl) (hx : ∀ j, Loc (Xs j).env.scope x := by first | exact fun _ => Or.inl rfl | exact fun _ => Or.inr rfl)
    (hs : ∀ q, swapsWith (.Constant (.str c) j cp) (some (.Name x pos')) pos.line (Xs q).env = pure false := by exact fun _ => rfl) (hf : ∀ j, (Xs j).fn x = true ∨ (Xs j).env.scope.names.lookup x = some .local := by first | exact fun _ => Or.inl rfl | exact fun _ => Or.inr rfl) :
    anySs Xs (.Assign [.Name x pos'] (.Constant (.str c) j cp) pos :: sts) D σ H :=
  ⟨tSeq (tAsg (tC (.str c)) (gName i)) (anySsT Xs sts), fun q => pss_str (by rw [fx.hN q]; exact fx.nd) (by rw [fx.hN q]; exact hN) (hx q) (psst_any sts q) (hs q) (hf q), h⟩
theorem pdt_of (h : PED K Xs e γ rs) : PEDT K Xs e γ rs := fun H0 S0 S H σ k Q q => ⟨anyE Xs e, fun i => CwR.PET.of (pe_any e i), h H0 S0 S H σ k Q q⟩
theorem PEDT.share (h : PEDT K Xs e γ (.ow d)) : PEDT K Xs e γ (.sh d) := EvD.share h
theorem padt_nil : PADT K Xs [] γ [] := fun H0 S0 S H σ k Q q => ⟨tNil, fun _ => pat_nil, eva_nil H0 S0 S H σ k Q q⟩
theorem padt_cons (ha : PEDT K Xs e γ (.sh d)) (hr : PADT K Xs es γ ds) (hs : ∀ i, starEach (e :: es) (Xs i).env = (false, eval e (Xs i).env) :: starEach es (Xs i).env := by exact fun _ => rfl) : PADT K Xs (e :: es) γ (d :: ds) :=
  fun H0 S0 S H σ k Q q => ⟨tCons (anyET Xs e) (anyAT Xs es), fun i => pat_cons (pet_any e i) (pat_any es i) (hs i), eva_cons (ta := anyET Xs e) (tl := anyAT Xs es) ha hr H0 S0 S H σ k Q q⟩
theorem pdt_lst (h : PADT K Xs es γ ds) (hl : ds.length ≤ sizeLine := by exact Nat.le_of_ble_eq_true rfl) : PEDT K Xs (.List es pos) γ (.ow (.lst ds)) :=
  fun H0 S0 S H σ k Q q => ⟨tLst (anyAT Xs es), fun i => pet_lst (pat_any es i), evd_lst (tl := anyAT Xs es) h hl H0 S0 S H σ k Q q⟩
theorem pdt_add (fx : Fx Xs P w K mg base N k) (ha : PEDT K Xs a γ (.sh d1)) (hb : PEDT K Xs b γ (.sh d2)) (h : AddD d1 d2 rs) : PEDT K Xs (.BinOp a .Add b pos) γ rs :=
  fun H0 S0 S H σ k Q q => ⟨tOp (rAddU K) (anyET Xs a) (anyET Xs b), fun i => by
    have z := CwR.pet_op (pos := pos) (op_addU (X := Xs i)) (pet_any a i) (pet_any b i)
    rw [fx.hK i] at z
    exact z, evd_op (ta := anyET Xs a) (tb := anyET Xs b) ha hb (rd_add h) H0 S0 S H σ k Q q⟩
theorem pdt_repl {j0 j1 : Nat} {c0 c1 ap : Pos} (ho : PED K Xs e γ (.sh (.str x))) (hl : x.length + (x.length + 1) * z.length ≤ 16777216) (hyz : (y == z) = false := by decide +kernel)
    (hst : ∀ i, starEach [.Constant (.str y) j0 c0, .Constant (.str z) j1 c1] (Xs i).env = [(false, eval (.Constant (.str y) j0 c0) (Xs i).env), (false, eval (.Constant (.str z) j1 c1) (Xs i).env)] := by exact fun _ => rfl)
    (hbase : ∀ i, attributeBase e "replace" (Xs i).env (eval e (Xs i).env) = eval e (Xs i).env := by exact fun _ => rfl) (hline : (ap.endLine == pos.line) = true := by rfl) :
    PEDT K Xs (.Call (.Attribute e "replace" ap) [.Constant (.str y) j0 c0, .Constant (.str z) j1 c1] [] pos) γ (.sh (.str (Txt.replace x y z))) :=
  fun H0 S0 S H σ k Q q => ⟨CwR.tReplC (anyE Xs e) y z, fun i => CwR.pet_replC (pe_any e i) hyz (hst i) (hbase i) hline, ho H0 S0 S H σ k _ fun v S1 H1 g1 s1 r1 => by
    cases r1
    exact ⟨x, rfl, hl, q _ S1 H1 g1 s1 .str⟩⟩
/-- x = e -/
theorem rt_set (fx : Fx Xs P w K mg base N k) (i : Nat) (ok : Ok K H0 S0 S H σ γ) (he : PEDT K Xs e γ rs) (hi : i < γ.length) (q : ∀ S H σ, Ok K H0 S0 S H σ (γ.set i rs) → D.nx σ H) (hN : N[i]? = some x := by rfl) (hx : ∀ j, Loc (Xs j).env.scope x := by first | exact fun _ => Or.inl rfl | exact fun _ => Or.inr rfl)
    (hs : ∀ j, swapsWith e (some (.Name x pos')) pos.line (Xs j).env = pure false := by exact fun _ => rfl) (hf : ∀ j, (Xs j).fn x = true ∨ (Xs j).env.scope.names.lookup x = some .local := by first | exact fun _ => Or.inl rfl | exact fun _ => Or.inr rfl) : anyST Xs (.Assign [.Name x pos'] e pos) D σ H := by
  refine ⟨tAsg (anyET Xs e) (gName i), fun j pins s σ H D h0 I h => ?_, he H0 S0 S H σ ok _ fun v S' H' g s r => q S' H' _ (ok.res g s r hi)⟩
  refine wpAny_Assign_Name (thn (pet_any e j pins s σ H _ h0 I h) fun v s1 hh => ?_) (hs j)
  obtain ⟨u, H1, I1, r1, q1⟩ := hh
  exact store_ok I1 (by rw [fx.hN j]; exact fx.nd) (by rw [fx.hN j]; exact hN) (hx j) r1 (fun s' I' => ⟨_, H1, I', q1⟩) (hf j)
/-- text * n -/
theorem op_mulS {X : Cx} : OpR X (binaryOp .Mult) (fun x y H Q => ∃ (i : Str) (n : Int), x = .str i ∧ y = .int n ∧ MulOk i n ∧ Q (.str (Txt.mul i n)) H) := by
  intro pins s σ H x y v u Q I rx ry h
  obtain ⟨i, n, rfl, rfl, hz, q⟩ := h
  obtain ⟨t, rfl⟩ := rx
  obtain ⟨t', rfl⟩ := ry
  exact SB.mul hz fun t' k => ⟨.str (Txt.mul i n), H, I.tok _, ⟨_, rfl⟩, q⟩
theorem pd_mulS {n : Int} (ha : PED K Xs a γ (.sh (.str x))) (hb : PED K Xs b γ (.sh (.int n))) (h : MulOk x n) : PED K Xs (.BinOp a .Mult b pos) γ (.sh (.str (Txt.mul x n))) :=
  pd_op (fun _ => op_mulS) ha hb fun S H x y s h1 h2 Q q => by cases h1; cases h2; exact ⟨_, _, rfl, rfl, h, here s .str q⟩
/-! ### the walk -/
def tPairs : List (Str × Str) → TA
  | [] => tNil
  | p :: r => tCons (tPairO p.1 p.2) (tPairs r)
def PairV (H : Hp) (p : Str × Str) (v : V) : Prop := ∃ a o t u, v = .ref a ∧ PairO H a p.1 p.2 o t u
theorem PairV.ex {H H' : Hp} {p : Str × Str} {v : V} (h : PairV H p v) (e : Ex H H') : PairV H' p v := by
  obtain ⟨a, o, t, u, rfl, P⟩ := h
  exact ⟨a, o, t, u, rfl, e _ _ P.at_, P.cls, P.dat, P.t0, P.u0, P.tu⟩
theorem pairs_ev : ∀ (ps : List (Str × Str)) {H : Hp} {σ : L2.St} {Q : List V → Hp → Prop}, (∀ vs H', Ex H H' → Paired (PairV H') ps vs → Q vs H') → tPairs ps σ H Q
  | [], H, σ, Q, q => q [] H (Same.refl _) .nil
  | p :: r, H, σ, Q, q => fun a o t u hn P => pairs_ev r fun vs H' e g => q (.ref a :: vs) H' (Same.trans (Ex.new hn) e) (.cons (PairV.ex ⟨a, o, t, u, rfl, P⟩ e) g)
theorem paired_get {α β : Type} {F : α → β → Prop} : ∀ {l : List α} {m : List β} {n : Nat} {p : α}, Paired F l m → l[n]? = some p → ∃ v, m[n]? = some v ∧ F p v
  | _, _, _, _, .nil, e => by simp at e
  | _, _, 0, _, .cons r _, e => by simp at e; subst e; exact ⟨_, rfl, r⟩
  | _, _, n + 1, _, .cons _ t, e => by
    obtain ⟨v, h1, h2⟩ := paired_get (n := n) t (by simpa using e)
    exact ⟨v, by simpa using h1, h2⟩
theorem rt_pairs {Pr : List Wd.D → Slot → Prop} {good : Str} {i jo jn : Nat} (fx : Fx Xs P w K mg base N k) (ps : List (Str × Str)) (hi : ∀ i, PET (Xs i) iter (tLst (tPairs ps))) (hb : ∀ q, PGB (Xs q) tg body (gPairO jo jn) (tbRep (spD K Pr) i jo jn)) (hp : ∀ i, PassesOwn (model (Xs i).prog (Xs i).w) (Xs i).A (Xs i).env (Xs i).xe) (hs : ∀ i, ∀ x, foldedSetIterable iter (Xs i).env x = pure x)
    (ok : Ok K H0 S0 S H σ γ) (hg : γ[i]? = some (.sh (.str good))) (h1 : γ[jo]? = some .un) (h2 : γ[jn]? = some .un) (hij : i ≠ jo ∧ i ≠ jn ∧ jo ≠ jn) (hl : ps.length ≤ 1000)
    (hall : ∀ p ∈ ps, (p.1 == p.2) = false ∧ good.length + (good.length + 1) * p.2.length ≤ 16777216 ∧ Pr [.str (Txt.replace good p.1 p.2)] (.sh (.bl true))) (q : ∀ S H σ, Ok K H0 S0 S H σ γ → D.nx σ H) : anyST Xs (.For tg iter body [] pos) D σ H := by
  refine ⟨tFor (iList K (tLst (tPairs ps))) (gPairO jo jn) (tbRep (spD K Pr) i jo jn), fun j => ?_, ?_⟩
  · have z := pst_forB (pos := pos) (hp j) (fx.calm j) (pit_list (tg := tg) (hi j)) (hb j) (hs j)
    rw [fx.hK j] at z
    exact z
  refine pairs_ev ps fun vs H1 e1 g1 => ⟨by rw [← g1.length]; exact Nat.le_trans hl (by rw [sizeLine_eq]; decide), fun l hnl => ⟨l, rfl, ⟨vs, SqL.of upd_same⟩, ?_⟩⟩
  have e2 : Ex H1 (upd H1 l (.lst vs)) := Ex.new hnl
  have hq : ∀ H', Ex (upd H1 l (.lst vs)) H' → SqL K H' l vs := fun H' e => SqL.of (e _ _ upd_same)
  refine ⟨fun n m σ H => m = ps.length - n ∧ n ≤ ps.length ∧ Ex (upd H1 l (.lst vs)) H ∧ ∃ S, Ok K H0 S0 S H σ γ, ⟨_, rfl, Nat.zero_le _, Same.refl _, S, ?_⟩, ?_⟩
  · exact ok.grow ⟨Same.refl _, Same.trans e1 e2, fun b o h n => by rw [n] at h; cases h⟩ (ok.sh.ex (Same.trans e1 e2))
  rintro n m σ H ⟨rfl, hle, e3, S, k'⟩
  have hlen : vs.length = ps.length := g1.length.symm
  by_cases hlt : n < ps.length
  · refine .inr ⟨⟨vs, vs[n]'(by omega), hq H e3, by simp⟩, fun σ' H' => Ex (upd H1 l (.lst vs)) H' ∧ ∃ S', Ok K H0 S0 S' H' σ' γ, fun σ' H' ⟨e4, S', k2⟩ => ⟨ps.length - (n + 1), by omega, rfl, hlt, e4, S', k2⟩, fun x H' y => ?_⟩
    obtain ⟨rfl, y⟩ := y
    have hx := y vs (hq H' e3)
    have hpn : ps[n]? = some ps[n] := by simp
    obtain ⟨v2, hv2, P2⟩ := paired_get g1 hpn
    rw [hx] at hv2
    cases hv2
    obtain ⟨a, o, t, u, rfl, P3⟩ := P2.ex (Same.trans e2 e3)
    obtain ⟨c1, c2, c3⟩ := hall ps[n] (List.getElem_mem _)
    have hσl : σ.length = γ.length := k'.len
    have ljo : jo < σ.length := by rw [hσl]; exact (List.getElem?_eq_some_iff.mp h1).1
    have ljn : jn < σ.length := by rw [hσl]; exact (List.getElem?_eq_some_iff.mp h2).1
    obtain ⟨gv, gσ, gd⟩ := k'.en i _ hg
    cases gd
    have k3 : Ok K H0 S0 S H' ((σ.set jo (some (.str ps[n].1))).set jn (some (.str ps[n].2))) ((γ.set jo .un).set jn .un) := (k'.un_ (by omega)).un_ (by rw [List.length_set]; omega)
    have eγ : (γ.set jo .un).set jn .un = γ := by
      apply List.ext_getElem?
      intro b
      by_cases b1 : jn = b
      · subst b1; rw [List.getElem?_set_self (by rw [List.length_set]; omega), h2]
      · rw [List.getElem?_set_ne b1]
        by_cases b2 : jo = b
        · subst b2; rw [List.getElem?_set_self (by omega), h1]
        · rw [List.getElem?_set_ne b2]
    rw [eγ] at k3
    refine ⟨a, ps[n].1, ps[n].2, o, t, u, rfl, P3, c1, good, ps[n].1, ps[n].2, ?_, ?_, ?_, c2, ?_⟩
    · rw [List.getElem?_set_ne (fun z => hij.2.1 z.symm), List.getElem?_set_ne (fun z => hij.1 z.symm)]; exact gσ
    · rw [List.getElem?_set_ne (fun z => hij.2.2 z.symm)]; exact List.getElem?_set_self ljo
    · exact List.getElem?_set_self (by rw [List.length_set]; exact ljn)
    · refine ⟨S, _, _, k'.sh, .one .str, c3, fun v S' H4 g sb r => ?_⟩
      cases r
      exact ⟨rfl, Same.trans e3 g.hh, S', k3.grow g sb⟩
  · have en : n = ps.length := by omega
    subst en
    exact .inl ⟨⟨vs, hq H e3, by omega⟩, q S H σ k'⟩
end
end Wd
set_option Elab.async false
set_option linter.all false
set_option maxRecDepth 100000
set_option maxHeartbeats 4000000
namespace K9
open PySem PySem.Spec L2 Wd
open PyProof.Rows hiding St
open TL
/-! ### the paper's own texts -/
def goodS : Str := "box a\nbox of\nbox left\na left -3\nof right of left by 0\nleft amid a of down\na wide as of times 9"
def pairs1 : List (Str × Str) := [("-3", "-03"), ("-3", "-1001"), ("by 0", "by -0"), ("times 9", "times 10")]
def pairs2 : List (Str × Str) := [("amid a of", "amid a a"), ("amid a of", "amid a b"), ("box left", "box a")]
def FitP (p : Str × Str) : Prop := (p.1 == p.2) = false ∧ goodS.length + (goodS.length + 1) * p.2.length ≤ 16777216 ∧ (Txt.replace goodS p.1 p.2).length ≤ 1000
instance (p : Str × Str) : Decidable (FitP p) := by unfold FitP; infer_instance
theorem fit1 : ∀ p ∈ pairs1, FitP p := by decide +kernel
theorem fit2 : ∀ p ∈ pairs2, FitP p := by decide +kernel
def listA : List Str := ["", "box a", "box a\n", "a left 3", " box a", goodS ++ "\nbox e", Txt.mul goodS 2]
def listB : List Str := [Txt.replace goodS "times 9" "times 0", Txt.replace goodS "a left -3" "box d"]
def listC : List Str := [Txt.replace goodS "left amid a" "left by a", Txt.replace goodS "left amid a" "left amid amid"]
theorem listA_ok : ∀ x ∈ listA ++ listB ++ listC, x.length ≤ 1000 := by decide +kernel
theorem boxe_len : ("\nbox e" : Str).length = 6 := by decide +kernel
theorem goodS_len : goodS.length ≤ 200 := by decide +kernel
theorem mul_ok : MulOk goodS 2 := by unfold MulOk; decide +kernel
section
variable {P : Program} {w : World} {K : PySem.W.Frag} {mg : Str → Option Value} {base : Heap} (Z : Env K mg w) (hP : SupP P pwFile)
include Z hP
theorem ok_l_paper : FnOk P w K mg base (L2.CX P w) 10 (He.ga K "_law_paper") Z.d_l_paper [] (spD K PrPaper) := by
  refine fn_data Z.F_l_paper sc_l_paper (fun ds r ⟨e, _⟩ => (by rw [e]; rfl)) fun cdv A outer s HH E fx ds r hp => ?_
  obtain ⟨rfl, rfl⟩ := hp
  refine ⟨.rt _, fun H0 S0 S H σ D k q => ?_, .rt⟩
  have gl := goodS_len
  have k1 : Ok K H0 S0 S H (σ.set 0 (some (.str goodS))) ([.sh (.str goodS), .un, .un, .un, .un] : Gm) := k.sh_ (Nat.le_of_ble_eq_true rfl) .str
  refine rs_str fx 0 (rt_cons (rt_of (as_psd k1 (psd_ifF (ptd_not (tv := true) (ptd_val (pd_call fx (ok_l_judged Z hP) Z.m_l_judged Z.F_l_judged.kp (bi_l_judged Z) .nil (fun _ => .nil) (pad_cons (pd_var fx 0) pad_nil) ⟨goodS, by decide +kernel, rfl, rfl⟩))) pssd_nil) fun S H σ k2 => ?_)))
  refine rt_cons (rt_pairs (i := 0) (jo := 1) (jn := 2) (good := goodS) (Pr := PrJudged) fx pairs1 (fun _ => pet_lst (pat_cons (pet_pairO rfl rfl) (pat_cons (pet_pairO rfl rfl) (pat_cons (pet_pairO rfl rfl) (pat_cons (pet_pairO rfl rfl) pat_nil))))) (fun q => pgb_rep (fx.fn (ok_l_judged Z hP) q) ((fx.room q).mono (by decide)) rfl Z.m_l_judged Z.F_l_judged.kp (bi_l_judged Z) rfl fx.nd (i := 0) (jo := 1) (jn := 2) rfl rfl rfl (by decide +kernel) (by decide) rfl rfl rfl (by decide) (by decide) (by decide) (by decide) (by decide) rfl rfl rfl rfl rfl rfl rfl rfl (fun _ => rfl)) (fun _ => PassesOwn.never) (fun _ _ => rfl) k2 rfl rfl rfl (by decide) (by decide) (fun p hp => ⟨(fit1 p hp).1, (fit1 p hp).2.1, _, (fit1 p hp).2.2, rfl, rfl⟩) fun S H σ k3 => ?_)
  refine rt_cons (rt_pairs (i := 0) (jo := 1) (jn := 2) (good := goodS) (Pr := PrJudged) fx pairs2 (fun _ => pet_lst (pat_cons (pet_pairO rfl rfl) (pat_cons (pet_pairO rfl rfl) (pat_cons (pet_pairO rfl rfl) pat_nil)))) (fun q => pgb_rep (fx.fn (ok_l_judged Z hP) q) ((fx.room q).mono (by decide)) rfl Z.m_l_judged Z.F_l_judged.kp (bi_l_judged Z) rfl fx.nd (i := 0) (jo := 1) (jn := 2) rfl rfl rfl (by decide +kernel) (by decide) rfl rfl rfl (by decide) (by decide) (by decide) (by decide) (by decide) rfl rfl rfl rfl rfl rfl rfl rfl (fun _ => rfl)) (fun _ => PassesOwn.never) (fun _ _ => rfl) k3 rfl rfl rfl (by decide) (by decide) (fun p hp => ⟨(fit2 p hp).1, (fit2 p hp).2.1, _, (fit2 p hp).2.2, rfl, rfl⟩) fun S H σ k4 => ?_)
  have z5 : ∀ n : Nat, n ≤ 30 → goodS.length + (goodS.length + 1) * n ≤ 16777216 := fun n hn => by
    have := Nat.mul_le_mul (show goodS.length + 1 ≤ 201 by omega) hn
    omega
  refine rt_cons (rt_of (as_psd k4 (psd_set (rs := .sh (.lst (listA.map .str))) fx 3 (PED.share (pd_lst (pad_cons pd_str (pad_cons pd_str (pad_cons pd_str (pad_cons pd_str (pad_cons pd_str (pad_cons (pd_addD fx (pd_var fx 0) pd_str (.str (by rw [boxe_len, sizeLine_eq]; omega))) (pad_cons (pd_mulS (pd_var fx 0) pd_int mul_ok) pad_nil)))))))))) fun S H σ k5 => ?_))
  refine rt_cons (rt_set fx 3 k5 (PEDT.share (pdt_add fx (pdt_of (pd_var (d := .lst (listA.map .str)) fx 3)) (PEDT.share (pdt_lst (padt_cons (pdt_repl (y := "times 9") (z := "times 0") (pd_var fx 0) (z5 _ (by decide +kernel))) (padt_cons (pdt_repl (y := "a left -3") (z := "box d") (pd_var fx 0) (z5 _ (by decide +kernel))) padt_nil)))) (.lst (by rw [sizeLine_eq]; decide)))) (Nat.le_of_ble_eq_true rfl) fun S H σ k6 => ?_)
  refine rt_cons (rt_set fx 3 k6 (PEDT.share (pdt_add fx (pdt_of (pd_var (d := .lst ((listA ++ listB).map .str)) fx 3)) (PEDT.share (pdt_lst (padt_cons (pdt_repl (y := "left amid a") (z := "left by a") (pd_var fx 0) (z5 _ (by decide +kernel))) (padt_cons (pdt_repl (y := "left amid a") (z := "left amid amid") (pd_var fx 0) (z5 _ (by decide +kernel))) padt_nil)))) (.lst (by rw [sizeLine_eq]; decide)))) (Nat.le_of_ble_eq_true rfl) fun S H σ k7 => ?_)
  refine rt_cons (rt_of (psd_ret (rs := .sh (.bl true)) (pd_cast (r := .sh (.bl ((listA ++ listB ++ listC).all fun _ => true))) (by rw [List.all_eq_true.mpr fun _ _ => rfl]) (pd_allC fx [("_law_text_here", 4)] (listA ++ listB ++ listC) (fun x => Wd.D.str x) (fun _ => true) Z.b_all (pid_list fx .lst (pd_var (d := .lst ((listA ++ listB ++ listC).map .str)) fx 3)) (by rw [sizeLine_eq]; decide) fun x hx => ⟨_, _, tgd_name fx.bk 4, fun _ h => h, pd_call fx.bk (ok_l_judged Z hP) Z.m_l_judged Z.F_l_judged.kp (bi_l_judged Z) .nil (fun _ => .nil) (pad_cons (pd_var fx.bk 4) pad_nil) ⟨x, listA_ok x hx, rfl, rfl⟩⟩)) H0 S0 S H σ _ k7 q))
end
end K9
set_option Elab.async false
set_option linter.all false
set_option maxRecDepth 100000
set_option maxHeartbeats 4000000
namespace K9
open PySem PySem.Spec L2 Wd
open PyProof.Rows hiding St
section
variable {P : Program} {w : World} {K : PySem.W.Frag} {mg : Str → Option Value} {base : Heap} (Z : Env K mg w) (hP : SupP P pwFile)
include Z hP
theorem ok_lawP : FnOk P w K mg base (L2.CX P w) 11 (He.ga K "law") Z.d_law ["_law_script"] (spD K PrLaw) := ok_law Z hP (ok_l_paper Z hP)
end
end K9
set_option Elab.async false
set_option linter.all false
set_option maxRecDepth 100000
set_option maxHeartbeats 0
namespace K9
open PySem PySem.Spec L2 Wd
open PyProof.Rows hiding St
theorem ownB_ok {K : PySem.W.Frag} {n : Str} (hc : Cls K (He.ga K n)) (h : ownB n K = true) : OwnC K (He.ga K n) := by
  obtain ⟨h1, h⟩ := He.ba h
  obtain ⟨h2, h⟩ := He.ba h
  obtain ⟨h3, h4⟩ := He.ba h
  exact ⟨hc, He.eqO_ok h1, He.eqO_ok h2, of_decide_eq_true h3, of_decide_eq_true h4⟩
theorem keysB_ok {K : PySem.W.Frag} {a : Addr} {ks : List Str} (h : keysB K a ks = true) : WKeys K a ks := by
  unfold keysB at h
  cases q : K.lookup a with
  | none => rw [q] at h; cases h
  | some o =>
    obtain ⟨oc, od, dt, osl⟩ := o
    rw [q] at h
    cases oc with
    | type c =>
      cases od with
      | none =>
        cases dt with
        | dict es n =>
          obtain ⟨h1, h2⟩ := He.ba (show (decide (c = "dict") && (osl.isEmpty && (!(a == sysModules) && He.relAll (ks.map V.str) (es.toList.map (·.key))))) = true from h)
          obtain ⟨h3, h4⟩ := He.ba h2
          obtain ⟨h5, h6⟩ := He.ba h4
          have e1 : c = "dict" := of_decide_eq_true h1
          have e2 : osl = #[] := Array.isEmpty_iff.mp h3
          subst e1 e2
          exact ⟨es, n, q, by simpa using h5, He.relAll_ok h6⟩
        | _ => cases h
      | some b => cases dt <;> cases h
    | _ => cases od <;> cases dt <;> cases h
theorem tupN_ok {K : PySem.W.Frag} {a : Addr} {l : List Str} (h : tupN K a l = true) : ∃ ob its n, (K.lookup a = some ob ∧ ob.cls = .type "tuple" ∧ ob.dict = none ∧ ob.data = .seq its n ∧ its.size ≤ sizeLine) ∧ Vals (l.map V.str) its.toList := by
  unfold tupN at h
  cases q : K.lookup a with
  | none => rw [q] at h; cases h
  | some o =>
    obtain ⟨oc, od, dt, osl⟩ := o
    rw [q] at h
    cases oc with
    | type c =>
      cases od with
      | none =>
        cases dt with
        | seq its n =>
          obtain ⟨h1, h2⟩ := He.ba (show (decide (c = "tuple") && (decide (its.size ≤ sizeLine) && He.relAll (l.map V.str) its.toList)) = true from h)
          obtain ⟨h3, h4⟩ := He.ba h2
          exact ⟨_, its, n, ⟨rfl, congrArg Value.type (of_decide_eq_true h1), rfl, rfl, of_decide_eq_true h3⟩, He.relAll_ok h4⟩
        | _ => cases h
      | some b => cases dt <;> cases h
    | _ => cases od <;> cases dt <;> cases h
theorem valsN_ok {K : PySem.W.Frag} {w : World} {a : Addr} {kvs : List (Str × List Str)} (t : ∃ es n, KDict K w a es n) (h : valsN K a kvs = true) : ∀ z l, (z, l) ∈ kvs → ∃ q, KDct K w a z (.ref q) ∧ ∃ ob its n, (K.lookup q = some ob ∧ ob.cls = .type "tuple" ∧ ob.dict = none ∧ ob.data = .seq its n ∧ its.size ≤ sizeLine) ∧ Vals (l.map V.str) its.toList := by
  intro z l hm
  obtain ⟨es, n, q1, q2, q3⟩ := t
  have h2 := List.all_eq_true.mp h _ hm
  cases e : PySem.W.nsIn K a z with
  | none => rw [show PySem.W.nsIn K a (z, l).1 = none from e] at h2; cases h2
  | some r =>
    rw [show PySem.W.nsIn K a (z, l).1 = some r from e] at h2
    cases r with
    | none => cases h2
    | some u =>
      cases u with
      | ref q => exact ⟨q, ⟨es, n, _, q1, q2, e, rfl⟩, tupN_ok h2⟩
      | _ => cases h2
theorem kitB_ok {K : PySem.W.Frag} {a b : Str} {v : Bool} (h : kitB a b v K = true) : PySem.W.kitOne K (.ref (He.ga K a)) (.ref (He.ga K b)) = some v := of_decide_eq_true h
theorem oexB_ok {K : PySem.W.Frag} {C : Addr} (h : oexB K C = true) : ∃ nm q N bs bm sn sub ab col dd k0 k1 k2 k3 k5, K.lookup C = some (excClassObj nm q C N bs bm true sn sub ab col dd k0 k1 k2 k3 k5 "ValueError.__new__") ∧ PySem.HandSPX.refsVE bm = true := by
  unfold oexB at h
  split at h
  · rename_i t dd cd sl ho
    split at h
    · rename_i D bm k0 k1 k2 k3 n k5 hm hs
      obtain ⟨ht, h⟩ := He.ba h
      obtain ⟨h1, h⟩ := He.ba h
      obtain ⟨h2, h⟩ := He.ba h
      obtain ⟨h3, h⟩ := He.ba h
      obtain ⟨h4, h5⟩ := He.ba h
      have ht := of_decide_eq_true ht
      have h1 := of_decide_eq_true h1
      have h2 := of_decide_eq_true h2
      subst ht h1 h2
      obtain ⟨nm, bs, mro, ns, qn, hd, sn, sub, ab, col, del⟩ := cd
      have e4 : hd = true := h4
      have e3 : del = false := by simpa using h3
      have em : mro = .ref D :: bm := hm
      clear h4 h3 hm h1 h2 ht
      subst e4 e3 em
      have e : sl = #[k0, k1, k2, k3, some (.builtin "ValueError.__new__"), k5] := by
        obtain ⟨l⟩ := sl
        exact congrArg Array.mk hs
      subst e
      exact ⟨_, _, _, _, _, _, _, _, _, _, _, _, _, _, _, ho, h5⟩
    · obtain ⟨_, h⟩ := He.ba h
      cases h
  · cases h
theorem fileB_ok {K : PySem.W.Frag} {a : Addr} {file : Str} (h : fileB K a file = true) : ∃ ccl cdd vs ccs tf, K.lookup a = some ⟨ccl, cdd, .fields vs, ccs⟩ ∧ vs[2]? = some (.str file tf) := by
  unfold fileB at h
  split at h
  · rename_i c1 c2 vs c3 ho
    split at h
    · rename_i f t hv
      have e := of_decide_eq_true h
      subst e
      exact ⟨c1, c2, vs, c3, t, ho, hv⟩
    · cases h
  · cases h
theorem cellB_ok {K : PySem.W.Frag} {a C : Addr} (h : cellB K a C = true) : ∃ cl cld csl, K.lookup a = some ⟨cl, cld, .cell (some (.ref C)), csl⟩ := by
  unfold cellB at h
  split at h
  · rename_i c1 c2 D c3 ho
    have e := of_decide_eq_true h
    subst e
    exact ⟨c1, c2, c3, ho⟩
  · cases h
theorem exf_ok {K : PySem.W.Frag} {c fld qual file : Str} {params : Arguments} {body : List Stmt} {scope : Scope} (e : fnS K (He.ma K (He.ga K c) "__init__") = (some (("__init__" : Str), qual, params, FuncBody.stmts body, scope, mainGlobals, [("__class__" : Str)], builtinsNs) : FnS)) (h1 : supB c qual file K = true) (h2 : excB c fld K = true) :
    ∃ fd, ExcF K c fld fd qual params body scope file := by
  obtain ⟨a1, h2⟩ := He.ba h2
  obtain ⟨a2, h2⟩ := He.ba h2
  obtain ⟨a3, h2⟩ := He.ba h2
  obtain ⟨a4, h2⟩ := He.ba h2
  obtain ⟨a5, h2⟩ := He.ba h2
  obtain ⟨a6, h2⟩ := He.ba h2
  obtain ⟨a7, h2⟩ := He.ba h2
  obtain ⟨a8, h2⟩ := He.ba h2
  obtain ⟨a9, h2⟩ := He.ba h2
  obtain ⟨a10, h2⟩ := He.ba h2
  obtain ⟨a11, h2⟩ := He.ba h2
  obtain ⟨a12, h2⟩ := He.ba h2
  obtain ⟨a13, a14⟩ := He.ba h2
  unfold supB at h1
  unfold fnS at e
  cases q : K.lookup (He.ma K (He.ga K c) "__init__") with
  | none => rw [q] at h1; cases h1
  | some o =>
    obtain ⟨oc, od, dt, osl⟩ := o
    rw [q] at h1 e
    cases dt with
    | func fd =>
      obtain ⟨n1, n2, n3, n4, n5, n6, n7, n8, n9, n10, n11, n12, n13, n14, n15⟩ := fd
      have e : (some (n1, n2, n3, n4, n5, n6, n7.map (·.1), n15) : FnS) = some (("__init__" : Str), qual, params, FuncBody.stmts body, scope, mainGlobals, [("__class__" : Str)], builtinsNs) := e
      simp only [Option.some.injEq, Prod.mk.injEq] at e
      obtain ⟨e1, e2, e3, e4, e5, e6, e7, e8⟩ := e
      subst e1 e2 e3 e4 e5 e6 e8
      dsimp only at h1
      split at h1
      · rename_i cda x cc
        obtain ⟨b1, h1⟩ := He.ba h1
        obtain ⟨b2, b3⟩ := He.ba h1
        have ex : x = "__class__" := by
          injection e7
        subst ex
        exact ⟨_, ⟨⟨⟨oc, od, .none, n9, n10, n11, n12, cda, cc, n14, osl, rfl, q, b1, rfl, fileB_ok b2, cellB_ok b3⟩, ⟨oexB_ok a1, He.eqO_ok a2, of_decide_eq_true a3, of_decide_eq_true a4, a5⟩, of_decide_eq_true a6, He.eqO_ok a7, of_decide_eq_true a8, He.eqO_ok a9⟩, He.eqO_ok a10, of_decide_eq_true a11, He.eqO_ok a12, xfB_ok a13, of_decide_eq_true a14⟩⟩
      · cases h1
    | _ => cases h1
theorem envY {w : World} {K : PySem.W.Frag} {h : Heap} {mg : Str → Option Value} (X : K.In h) (G : h.Ns mainGlobals mg) (c : He.SaysT faL fnL tsL w K) (ce : exK K = true) (cs : fnS K (He.ma K (He.ga K "BadRows") "__init__") = fnV) : Nonempty (Env K mg w) := by
  obtain ⟨d__wall, F__wall⟩ := c.d.def_ 0 (d := D__wall) rfl
  obtain ⟨d_is_whole, F_is_whole⟩ := c.d.def_ 1 (d := D_is_whole) rfl
  obtain ⟨d_is_number, F_is_number⟩ := c.d.def_ 2 (d := D_is_number) rfl
  obtain ⟨d_is_name, F_is_name⟩ := c.d.def_ 3 (d := D_is_name) rfl
  obtain ⟨d_are_unlike_names, F_are_unlike_names⟩ := c.d.def_ 4 (d := D_are_unlike_names) rfl
  obtain ⟨d_check_names, F_check_names⟩ := c.d.def_ 5 (d := D_check_names) rfl
  obtain ⟨d_check_word, F_check_word⟩ := c.d.def_ 6 (d := D_check_word) rfl
  obtain ⟨d_check_number, F_check_number⟩ := c.d.def_ 7 (d := D_check_number) rfl
  obtain ⟨d_Saying_names, F_Saying_names⟩ := c.d.def_ 8 (d := D_Saying_names) rfl
  obtain ⟨d_Saying_adds, F_Saying_adds⟩ := c.d.def_ 9 (d := D_Saying_adds) rfl
  obtain ⟨d_Saying_keeps, F_Saying_keeps⟩ := c.d.def_ 10 (d := D_Saying_keeps) rfl
  obtain ⟨d_At_init, F_At_init⟩ := c.d.def_ 11 (d := D_At_init) rfl
  obtain ⟨d_At_names, F_At_names⟩ := c.d.def_ 12 (d := D_At_names) rfl
  obtain ⟨d_At_adds, F_At_adds⟩ := c.d.def_ 13 (d := D_At_adds) rfl
  obtain ⟨d_At_keeps, F_At_keeps⟩ := c.d.def_ 14 (d := D_At_keeps) rfl
  obtain ⟨d_Beside_init, F_Beside_init⟩ := c.d.def_ 15 (d := D_Beside_init) rfl
  obtain ⟨d_Beside_names, F_Beside_names⟩ := c.d.def_ 16 (d := D_Beside_names) rfl
  obtain ⟨d_Beside_adds, F_Beside_adds⟩ := c.d.def_ 17 (d := D_Beside_adds) rfl
  obtain ⟨d_Beside_keeps, F_Beside_keeps⟩ := c.d.def_ 18 (d := D_Beside_keeps) rfl
  obtain ⟨d_Alike_init, F_Alike_init⟩ := c.d.def_ 19 (d := D_Alike_init) rfl
  obtain ⟨d_Alike_names, F_Alike_names⟩ := c.d.def_ 20 (d := D_Alike_names) rfl
  obtain ⟨d_Alike_adds, F_Alike_adds⟩ := c.d.def_ 21 (d := D_Alike_adds) rfl
  obtain ⟨d_Alike_keeps, F_Alike_keeps⟩ := c.d.def_ 22 (d := D_Alike_keeps) rfl
  obtain ⟨d_Amid_init, F_Amid_init⟩ := c.d.def_ 23 (d := D_Amid_init) rfl
  obtain ⟨d_Amid_names, F_Amid_names⟩ := c.d.def_ 24 (d := D_Amid_names) rfl
  obtain ⟨d_Amid_adds, F_Amid_adds⟩ := c.d.def_ 25 (d := D_Amid_adds) rfl
  obtain ⟨d_Amid_keeps, F_Amid_keeps⟩ := c.d.def_ 26 (d := D_Amid_keeps) rfl
  obtain ⟨d_check_boxes, F_check_boxes⟩ := c.d.def_ 27 (d := D_check_boxes) rfl
  obtain ⟨d_is_saying_of, F_is_saying_of⟩ := c.d.def_ 28 (d := D_is_saying_of) rfl
  obtain ⟨d_check_sayings, F_check_sayings⟩ := c.d.def_ 29 (d := D_check_sayings) rfl
  obtain ⟨d_check_sheet, F_check_sheet⟩ := c.d.def_ 30 (d := D_check_sheet) rfl
  obtain ⟨d_Sheet_init, F_Sheet_init⟩ := c.d.def_ 31 (d := D_Sheet_init) rfl
  obtain ⟨d_Sheet_names, F_Sheet_names⟩ := c.d.def_ 32 (d := D_Sheet_names) rfl
  obtain ⟨d_Sheet_sayings, F_Sheet_sayings⟩ := c.d.def_ 33 (d := D_Sheet_sayings) rfl
  obtain ⟨d_row_of, F_row_of⟩ := c.d.def_ 34 (d := D_row_of) rfl
  obtain ⟨d_written, F_written⟩ := c.d.def_ 35 (d := D_written) rfl
  obtain ⟨d_number_of, F_number_of⟩ := c.d.def_ 36 (d := D_number_of) rfl
  obtain ⟨d_saying_of, F_saying_of⟩ := c.d.def_ 37 (d := D_saying_of) rfl
  obtain ⟨d_take_box, F_take_box⟩ := c.d.def_ 38 (d := D_take_box) rfl
  obtain ⟨d_take_saying, F_take_saying⟩ := c.d.def_ 39 (d := D_take_saying) rfl
  obtain ⟨d_read, F_read⟩ := c.d.def_ 40 (d := D_read) rfl
  obtain ⟨d_l_cell_at, F_l_cell_at⟩ := c.d.def_ 41 (d := D_l_cell_at) rfl
  obtain ⟨d_l_numbers, F_l_numbers⟩ := c.d.def_ 42 (d := D_l_numbers) rfl
  obtain ⟨d_l_names, F_l_names⟩ := c.d.def_ 43 (d := D_l_names) rfl
  obtain ⟨d_l_parts, F_l_parts⟩ := c.d.def_ 44 (d := D_l_parts) rfl
  obtain ⟨d_l_saying, F_l_saying⟩ := c.d.def_ 45 (d := D_l_saying) rfl
  obtain ⟨d_l_by, F_l_by⟩ := c.d.def_ 46 (d := D_l_by) rfl
  obtain ⟨d_l_terms, F_l_terms⟩ := c.d.def_ 47 (d := D_l_terms) rfl
  obtain ⟨d_l_left, F_l_left⟩ := c.d.def_ 48 (d := D_l_left) rfl
  obtain ⟨d_l_sheet, F_l_sheet⟩ := c.d.def_ 49 (d := D_l_sheet) rfl
  obtain ⟨d_l_made, F_l_made⟩ := c.d.def_ 50 (d := D_l_made) rfl
  obtain ⟨d_l_sheet_of, F_l_sheet_of⟩ := c.d.def_ 51 (d := D_l_sheet_of) rfl
  obtain ⟨d_l_words, F_l_words⟩ := c.d.def_ 52 (d := D_l_words) rfl
  obtain ⟨d_l_text, F_l_text⟩ := c.d.def_ 53 (d := D_l_text) rfl
  obtain ⟨d_l_number, F_l_number⟩ := c.d.def_ 54 (d := D_l_number) rfl
  obtain ⟨d_l_read_saying, F_l_read_saying⟩ := c.d.def_ 55 (d := D_l_read_saying) rfl
  obtain ⟨d_l_is_name, F_l_is_name⟩ := c.d.def_ 56 (d := D_l_is_name) rfl
  obtain ⟨d_l_row_taken, F_l_row_taken⟩ := c.d.def_ 57 (d := D_l_row_taken) rfl
  obtain ⟨d_l_read, F_l_read⟩ := c.d.def_ 58 (d := D_l_read) rfl
  obtain ⟨d_l_judged, F_l_judged⟩ := c.d.def_ 59 (d := D_l_judged) rfl
  obtain ⟨d_l_spoilt, F_l_spoilt⟩ := c.d.def_ 60 (d := D_l_spoilt) rfl
  obtain ⟨d_l_rows_changed, F_l_rows_changed⟩ := c.d.def_ 61 (d := D_l_rows_changed) rfl
  obtain ⟨d_l_paper, F_l_paper⟩ := c.d.def_ 62 (d := D_l_paper) rfl
  obtain ⟨d_law, F_law⟩ := c.d.def_ 63 (d := D_law) rfl
  obtain ⟨fd_BadRows, E_BadRows⟩ := exf_ok (c := "BadRows") (fld := "row") cs (exA ce 0) (exA ce 1)
  exact ⟨{
    p_ := (),
    d__wall := d__wall, F__wall := F__wall,
    m__wall := He.glo_ok X G (c.d.fact 0 (f := .glo "_wall") rfl),
    d_is_whole := d_is_whole, F_is_whole := F_is_whole,
    m_is_whole := He.glo_ok X G (c.d.fact 1 (f := .glo "is_whole") rfl),
    d_is_number := d_is_number, F_is_number := F_is_number,
    m_is_number := He.glo_ok X G (c.d.fact 2 (f := .glo "is_number") rfl),
    d_is_name := d_is_name, F_is_name := F_is_name,
    m_is_name := He.glo_ok X G (c.d.fact 3 (f := .glo "is_name") rfl),
    d_are_unlike_names := d_are_unlike_names, F_are_unlike_names := F_are_unlike_names,
    m_are_unlike_names := He.glo_ok X G (c.d.fact 4 (f := .glo "are_unlike_names") rfl),
    d_check_names := d_check_names, F_check_names := F_check_names,
    m_check_names := He.glo_ok X G (c.d.fact 5 (f := .glo "check_names") rfl),
    d_check_word := d_check_word, F_check_word := F_check_word,
    m_check_word := He.glo_ok X G (c.d.fact 6 (f := .glo "check_word") rfl),
    d_check_number := d_check_number, F_check_number := F_check_number,
    m_check_number := He.glo_ok X G (c.d.fact 7 (f := .glo "check_number") rfl),
    d_Saying_names := d_Saying_names, F_Saying_names := F_Saying_names,
    M_Saying_names := He.meth_ok (c.d.fact 8 (f := .meth "Saying" "names") rfl),
    d_Saying_adds := d_Saying_adds, F_Saying_adds := F_Saying_adds,
    M_Saying_adds := He.meth_ok (c.d.fact 9 (f := .meth "Saying" "adds") rfl),
    d_Saying_keeps := d_Saying_keeps, F_Saying_keeps := F_Saying_keeps,
    M_Saying_keeps := He.meth_ok (c.d.fact 10 (f := .meth "Saying" "keeps") rfl),
    d_At_init := d_At_init, F_At_init := F_At_init,
    M_At_init := He.mkr_ok (c.d.fact 11 (f := .mkr "At") rfl),
    d_At_names := d_At_names, F_At_names := F_At_names,
    M_At_names := He.meth_ok (c.d.fact 12 (f := .meth "At" "names") rfl),
    d_At_adds := d_At_adds, F_At_adds := F_At_adds,
    M_At_adds := He.meth_ok (c.d.fact 13 (f := .meth "At" "adds") rfl),
    d_At_keeps := d_At_keeps, F_At_keeps := F_At_keeps,
    M_At_keeps := He.meth_ok (c.d.fact 14 (f := .meth "At" "keeps") rfl),
    d_Beside_init := d_Beside_init, F_Beside_init := F_Beside_init,
    M_Beside_init := He.mkr_ok (c.d.fact 15 (f := .mkr "Beside") rfl),
    d_Beside_names := d_Beside_names, F_Beside_names := F_Beside_names,
    M_Beside_names := He.meth_ok (c.d.fact 16 (f := .meth "Beside" "names") rfl),
    d_Beside_adds := d_Beside_adds, F_Beside_adds := F_Beside_adds,
    M_Beside_adds := He.meth_ok (c.d.fact 17 (f := .meth "Beside" "adds") rfl),
    d_Beside_keeps := d_Beside_keeps, F_Beside_keeps := F_Beside_keeps,
    M_Beside_keeps := He.meth_ok (c.d.fact 18 (f := .meth "Beside" "keeps") rfl),
    d_Alike_init := d_Alike_init, F_Alike_init := F_Alike_init,
    M_Alike_init := He.mkr_ok (c.d.fact 19 (f := .mkr "Alike") rfl),
    d_Alike_names := d_Alike_names, F_Alike_names := F_Alike_names,
    M_Alike_names := He.meth_ok (c.d.fact 20 (f := .meth "Alike" "names") rfl),
    d_Alike_adds := d_Alike_adds, F_Alike_adds := F_Alike_adds,
    M_Alike_adds := He.meth_ok (c.d.fact 21 (f := .meth "Alike" "adds") rfl),
    d_Alike_keeps := d_Alike_keeps, F_Alike_keeps := F_Alike_keeps,
    M_Alike_keeps := He.meth_ok (c.d.fact 22 (f := .meth "Alike" "keeps") rfl),
    d_Amid_init := d_Amid_init, F_Amid_init := F_Amid_init,
    M_Amid_init := He.mkr_ok (c.d.fact 23 (f := .mkr "Amid") rfl),
    d_Amid_names := d_Amid_names, F_Amid_names := F_Amid_names,
    M_Amid_names := He.meth_ok (c.d.fact 24 (f := .meth "Amid" "names") rfl),
    d_Amid_adds := d_Amid_adds, F_Amid_adds := F_Amid_adds,
    M_Amid_adds := He.meth_ok (c.d.fact 25 (f := .meth "Amid" "adds") rfl),
    d_Amid_keeps := d_Amid_keeps, F_Amid_keeps := F_Amid_keeps,
    M_Amid_keeps := He.meth_ok (c.d.fact 26 (f := .meth "Amid" "keeps") rfl),
    d_check_boxes := d_check_boxes, F_check_boxes := F_check_boxes,
    m_check_boxes := He.glo_ok X G (c.d.fact 27 (f := .glo "check_boxes") rfl),
    d_is_saying_of := d_is_saying_of, F_is_saying_of := F_is_saying_of,
    m_is_saying_of := He.glo_ok X G (c.d.fact 28 (f := .glo "is_saying_of") rfl),
    d_check_sayings := d_check_sayings, F_check_sayings := F_check_sayings,
    m_check_sayings := He.glo_ok X G (c.d.fact 29 (f := .glo "check_sayings") rfl),
    d_check_sheet := d_check_sheet, F_check_sheet := F_check_sheet,
    m_check_sheet := He.glo_ok X G (c.d.fact 30 (f := .glo "check_sheet") rfl),
    d_Sheet_init := d_Sheet_init, F_Sheet_init := F_Sheet_init,
    M_Sheet_init := He.mkr_ok (c.d.fact 31 (f := .mkr "Sheet") rfl),
    d_Sheet_names := d_Sheet_names, F_Sheet_names := F_Sheet_names,
    M_Sheet_names := He.meth_ok (c.d.fact 32 (f := .meth "Sheet" "names") rfl),
    d_Sheet_sayings := d_Sheet_sayings, F_Sheet_sayings := F_Sheet_sayings,
    M_Sheet_sayings := He.meth_ok (c.d.fact 33 (f := .meth "Sheet" "sayings") rfl),
    d_row_of := d_row_of, F_row_of := F_row_of,
    m_row_of := He.glo_ok X G (c.d.fact 34 (f := .glo "row_of") rfl),
    d_written := d_written, F_written := F_written,
    m_written := He.glo_ok X G (c.d.fact 35 (f := .glo "written") rfl),
    d_number_of := d_number_of, F_number_of := F_number_of,
    m_number_of := He.glo_ok X G (c.d.fact 36 (f := .glo "number_of") rfl),
    d_saying_of := d_saying_of, F_saying_of := F_saying_of,
    m_saying_of := He.glo_ok X G (c.d.fact 37 (f := .glo "saying_of") rfl),
    d_take_box := d_take_box, F_take_box := F_take_box,
    m_take_box := He.glo_ok X G (c.d.fact 38 (f := .glo "take_box") rfl),
    d_take_saying := d_take_saying, F_take_saying := F_take_saying,
    m_take_saying := He.glo_ok X G (c.d.fact 39 (f := .glo "take_saying") rfl),
    d_read := d_read, F_read := F_read,
    m_read := He.glo_ok X G (c.d.fact 40 (f := .glo "read") rfl),
    d_l_cell_at := d_l_cell_at, F_l_cell_at := F_l_cell_at,
    m_l_cell_at := He.glo_ok X G (c.d.fact 41 (f := .glo "_law_cell_at") rfl),
    d_l_numbers := d_l_numbers, F_l_numbers := F_l_numbers,
    m_l_numbers := He.glo_ok X G (c.d.fact 42 (f := .glo "_law_numbers") rfl),
    d_l_names := d_l_names, F_l_names := F_l_names,
    m_l_names := He.glo_ok X G (c.d.fact 43 (f := .glo "_law_names") rfl),
    d_l_parts := d_l_parts, F_l_parts := F_l_parts,
    m_l_parts := He.glo_ok X G (c.d.fact 44 (f := .glo "_law_parts") rfl),
    d_l_saying := d_l_saying, F_l_saying := F_l_saying,
    m_l_saying := He.glo_ok X G (c.d.fact 45 (f := .glo "_law_saying") rfl),
    d_l_by := d_l_by, F_l_by := F_l_by,
    m_l_by := He.glo_ok X G (c.d.fact 46 (f := .glo "_law_by") rfl),
    d_l_terms := d_l_terms, F_l_terms := F_l_terms,
    m_l_terms := He.glo_ok X G (c.d.fact 47 (f := .glo "_law_terms") rfl),
    d_l_left := d_l_left, F_l_left := F_l_left,
    m_l_left := He.glo_ok X G (c.d.fact 48 (f := .glo "_law_left") rfl),
    d_l_sheet := d_l_sheet, F_l_sheet := F_l_sheet,
    m_l_sheet := He.glo_ok X G (c.d.fact 49 (f := .glo "_law_sheet") rfl),
    d_l_made := d_l_made, F_l_made := F_l_made,
    m_l_made := He.glo_ok X G (c.d.fact 50 (f := .glo "_law_made") rfl),
    d_l_sheet_of := d_l_sheet_of, F_l_sheet_of := F_l_sheet_of,
    m_l_sheet_of := He.glo_ok X G (c.d.fact 51 (f := .glo "_law_sheet_of") rfl),
    d_l_words := d_l_words, F_l_words := F_l_words,
    m_l_words := He.glo_ok X G (c.d.fact 52 (f := .glo "_law_words") rfl),
    d_l_text := d_l_text, F_l_text := F_l_text,
    m_l_text := He.glo_ok X G (c.d.fact 53 (f := .glo "_law_text") rfl),
    d_l_number := d_l_number, F_l_number := F_l_number,
    m_l_number := He.glo_ok X G (c.d.fact 54 (f := .glo "_law_number") rfl),
    d_l_read_saying := d_l_read_saying, F_l_read_saying := F_l_read_saying,
    m_l_read_saying := He.glo_ok X G (c.d.fact 55 (f := .glo "_law_read_saying") rfl),
    d_l_is_name := d_l_is_name, F_l_is_name := F_l_is_name,
    m_l_is_name := He.glo_ok X G (c.d.fact 56 (f := .glo "_law_is_name") rfl),
    d_l_row_taken := d_l_row_taken, F_l_row_taken := F_l_row_taken,
    m_l_row_taken := He.glo_ok X G (c.d.fact 57 (f := .glo "_law_row_taken") rfl),
    d_l_read := d_l_read, F_l_read := F_l_read,
    m_l_read := He.glo_ok X G (c.d.fact 58 (f := .glo "_law_read") rfl),
    d_l_judged := d_l_judged, F_l_judged := F_l_judged,
    m_l_judged := He.glo_ok X G (c.d.fact 59 (f := .glo "_law_judged") rfl),
    d_l_spoilt := d_l_spoilt, F_l_spoilt := F_l_spoilt,
    m_l_spoilt := He.glo_ok X G (c.d.fact 60 (f := .glo "_law_spoilt") rfl),
    d_l_rows_changed := d_l_rows_changed, F_l_rows_changed := F_l_rows_changed,
    m_l_rows_changed := He.glo_ok X G (c.d.fact 61 (f := .glo "_law_rows_changed") rfl),
    d_l_paper := d_l_paper, F_l_paper := F_l_paper,
    m_l_paper := He.glo_ok X G (c.d.fact 62 (f := .glo "_law_paper") rfl),
    d_law := d_law, F_law := F_law,
    m_law := He.glo_ok X G (c.d.fact 63 (f := .glo "law") rfl),
    m_SayError := He.glo_ok X G (c.d.fact 64 (f := .glo "SayError") rfl),
    X_SayError := ⟨(He.exc_ok (c.d.fact 65 (f := .exc "SayError") rfl)).1, (He.exc_ok (c.d.fact 65 (f := .exc "SayError") rfl)).2.1, (He.exc_ok (c.d.fact 65 (f := .exc "SayError") rfl)).2.2.1, (He.exc_ok (c.d.fact 65 (f := .exc "SayError") rfl)).2.2.2⟩,
    em_SayError := He.exm_ok (c.d.fact 66 (f := .exm "SayError" "SayError" true) rfl),
    m_BadSaying := He.glo_ok X G (c.d.fact 67 (f := .glo "BadSaying") rfl),
    X_BadSaying := ⟨(He.exc_ok (c.d.fact 68 (f := .exc "BadSaying") rfl)).1, (He.exc_ok (c.d.fact 68 (f := .exc "BadSaying") rfl)).2.1, (He.exc_ok (c.d.fact 68 (f := .exc "BadSaying") rfl)).2.2.1, (He.exc_ok (c.d.fact 68 (f := .exc "BadSaying") rfl)).2.2.2⟩,
    em_BadSaying := He.exm_ok (c.d.fact 69 (f := .exm "BadSaying" "BadSaying" true) rfl),
    m_BadSheet := He.glo_ok X G (c.d.fact 70 (f := .glo "BadSheet") rfl),
    X_BadSheet := ⟨(He.exc_ok (c.d.fact 71 (f := .exc "BadSheet") rfl)).1, (He.exc_ok (c.d.fact 71 (f := .exc "BadSheet") rfl)).2.1, (He.exc_ok (c.d.fact 71 (f := .exc "BadSheet") rfl)).2.2.1, (He.exc_ok (c.d.fact 71 (f := .exc "BadSheet") rfl)).2.2.2⟩,
    em_BadSheet := He.exm_ok (c.d.fact 72 (f := .exm "BadSheet" "BadSheet" true) rfl),
    m_BadRows := He.glo_ok X G (c.d.fact 73 (f := .glo "BadRows") rfl),
    fd_BadRows := fd_BadRows,
    E_BadRows := E_BadRows,
    m_Saying := He.glo_ok X G (c.d.fact 74 (f := .glo "Saying") rfl),
    c_Saying := He.cls_ok (c.d.fact 75 (f := .cls "Saying") rfl),
    o_Saying := ownB_ok (He.cls_ok (c.d.fact 75 (f := .cls "Saying") rfl)) (exA ce 2),
    m_At := He.glo_ok X G (c.d.fact 76 (f := .glo "At") rfl),
    c_At := He.cls_ok (c.d.fact 77 (f := .cls "At") rfl),
    o_At := ownB_ok (He.cls_ok (c.d.fact 77 (f := .cls "At") rfl)) (exA ce 3),
    na_At_name := He.noat_ok (c.d.fact 78 (f := .noat "At" "name") rfl),
    na_At_part := He.noat_ok (c.d.fact 79 (f := .noat "At" "part") rfl),
    na_At_number := He.noat_ok (c.d.fact 80 (f := .noat "At" "number") rfl),
    m_Beside := He.glo_ok X G (c.d.fact 81 (f := .glo "Beside") rfl),
    c_Beside := He.cls_ok (c.d.fact 82 (f := .cls "Beside") rfl),
    o_Beside := ownB_ok (He.cls_ok (c.d.fact 82 (f := .cls "Beside") rfl)) (exA ce 4),
    na_Beside_name := He.noat_ok (c.d.fact 83 (f := .noat "Beside" "name") rfl),
    na_Beside_side := He.noat_ok (c.d.fact 84 (f := .noat "Beside" "side") rfl),
    na_Beside_other := He.noat_ok (c.d.fact 85 (f := .noat "Beside" "other") rfl),
    na_Beside_by := He.noat_ok (c.d.fact 86 (f := .noat "Beside" "by") rfl),
    m_Alike := He.glo_ok X G (c.d.fact 87 (f := .glo "Alike") rfl),
    c_Alike := He.cls_ok (c.d.fact 88 (f := .cls "Alike") rfl),
    o_Alike := ownB_ok (He.cls_ok (c.d.fact 88 (f := .cls "Alike") rfl)) (exA ce 5),
    na_Alike_name := He.noat_ok (c.d.fact 89 (f := .noat "Alike" "name") rfl),
    na_Alike_part := He.noat_ok (c.d.fact 90 (f := .noat "Alike" "part") rfl),
    na_Alike_other := He.noat_ok (c.d.fact 91 (f := .noat "Alike" "other") rfl),
    na_Alike_times := He.noat_ok (c.d.fact 92 (f := .noat "Alike" "times") rfl),
    m_Amid := He.glo_ok X G (c.d.fact 93 (f := .glo "Amid") rfl),
    c_Amid := He.cls_ok (c.d.fact 94 (f := .cls "Amid") rfl),
    o_Amid := ownB_ok (He.cls_ok (c.d.fact 94 (f := .cls "Amid") rfl)) (exA ce 6),
    na_Amid_name := He.noat_ok (c.d.fact 95 (f := .noat "Amid" "name") rfl),
    na_Amid_way := He.noat_ok (c.d.fact 96 (f := .noat "Amid" "way") rfl),
    na_Amid_one := He.noat_ok (c.d.fact 97 (f := .noat "Amid" "one") rfl),
    na_Amid_other := He.noat_ok (c.d.fact 98 (f := .noat "Amid" "other") rfl),
    m_Sheet := He.glo_ok X G (c.d.fact 99 (f := .glo "Sheet") rfl),
    c_Sheet := He.cls_ok (c.d.fact 100 (f := .cls "Sheet") rfl),
    o_Sheet := ownB_ok (He.cls_ok (c.d.fact 100 (f := .cls "Sheet") rfl)) (exA ce 7),
    na_Sheet_boxes := He.noat_ok (c.d.fact 101 (f := .noat "Sheet" "boxes") rfl),
    na_Sheet_said := He.noat_ok (c.d.fact 102 (f := .noat "Sheet" "said") rfl),
    kt_Saying_Saying := kitB_ok (exA ce 8),
    kt_Saying_At := kitB_ok (exA ce 9),
    kt_Saying_Beside := kitB_ok (exA ce 10),
    kt_Saying_Alike := kitB_ok (exA ce 11),
    kt_Saying_Amid := kitB_ok (exA ce 12),
    kt_Saying_Sheet := kitB_ok (exA ce 13),
    kt_At_Saying := kitB_ok (exA ce 14),
    kt_At_At := kitB_ok (exA ce 15),
    kt_At_Beside := kitB_ok (exA ce 16),
    kt_At_Alike := kitB_ok (exA ce 17),
    kt_At_Amid := kitB_ok (exA ce 18),
    kt_At_Sheet := kitB_ok (exA ce 19),
    kt_Beside_Saying := kitB_ok (exA ce 20),
    kt_Beside_At := kitB_ok (exA ce 21),
    kt_Beside_Beside := kitB_ok (exA ce 22),
    kt_Beside_Alike := kitB_ok (exA ce 23),
    kt_Beside_Amid := kitB_ok (exA ce 24),
    kt_Beside_Sheet := kitB_ok (exA ce 25),
    kt_Alike_Saying := kitB_ok (exA ce 26),
    kt_Alike_At := kitB_ok (exA ce 27),
    kt_Alike_Beside := kitB_ok (exA ce 28),
    kt_Alike_Alike := kitB_ok (exA ce 29),
    kt_Alike_Amid := kitB_ok (exA ce 30),
    kt_Alike_Sheet := kitB_ok (exA ce 31),
    kt_Amid_Saying := kitB_ok (exA ce 32),
    kt_Amid_At := kitB_ok (exA ce 33),
    kt_Amid_Beside := kitB_ok (exA ce 34),
    kt_Amid_Alike := kitB_ok (exA ce 35),
    kt_Amid_Amid := kitB_ok (exA ce 36),
    kt_Amid_Sheet := kitB_ok (exA ce 37),
    kt_Sheet_Saying := kitB_ok (exA ce 38),
    kt_Sheet_At := kitB_ok (exA ce 39),
    kt_Sheet_Beside := kitB_ok (exA ce 40),
    kt_Sheet_Alike := kitB_ok (exA ce 41),
    kt_Sheet_Amid := kitB_ok (exA ce 42),
    kt_Sheet_Sheet := kitB_ok (exA ce 43),
    i_LETTERS := He.str_ok X G (c.d.fact 103 (f := .str "LETTERS" "abcdefghijklmnopqrstuvwxyz") rfl),
    i_LONGEST_NAME := He.int_ok X G (c.d.fact 104 (f := .int "LONGEST_NAME" 8) rfl),
    m_PARTS := He.glo_ok X G (c.d.fact 105 (f := .glo "PARTS") rfl),
    t_PARTS := tupN_ok (exA ce 44),
    m_SIDES := He.glo_ok X G (c.d.fact 106 (f := .glo "SIDES") rfl),
    k_SIDES := keysB_ok (exA ce 45),
    v_SIDES := valsN_ok (c.tab 0) (exA ce 46),
    m_WAYS := He.glo_ok X G (c.d.fact 107 (f := .glo "WAYS") rfl),
    k_WAYS := keysB_ok (exA ce 47),
    v_WAYS := valsN_ok (c.tab 1) (exA ce 48),
    i_FARTHEST := He.int_ok X G (c.d.fact 108 (f := .int "FARTHEST" 1000) rfl),
    i_MOST_TIMES := He.int_ok X G (c.d.fact 109 (f := .int "MOST_TIMES" 9) rfl),
    i_MOST_NAMES := He.int_ok X G (c.d.fact 110 (f := .int "MOST_NAMES" 6) rfl),
    i_MOST_SAYINGS := He.int_ok X G (c.d.fact 111 (f := .int "MOST_SAYINGS" 16) rfl),
    i_DIGITS := He.str_ok X G (c.d.fact 112 (f := .str "DIGITS" "0123456789") rfl),
    i_MOST_DIGITS := He.int_ok X G (c.d.fact 113 (f := .int "MOST_DIGITS" 4) rfl),
    b_all := He.free_ok X G (c.d.fact 114 (f := .free "all") rfl),
    b_bool := He.free_ok X G (c.d.fact 115 (f := .free "bool") rfl),
    b_enumerate := He.free_ok X G (c.d.fact 116 (f := .free "enumerate") rfl),
    b_int := He.free_ok X G (c.d.fact 117 (f := .free "int") rfl),
    b_isinstance := He.free_ok X G (c.d.fact 118 (f := .free "isinstance") rfl),
    b_len := He.free_ok X G (c.d.fact 119 (f := .free "len") rfl),
    b_list := He.free_ok X G (c.d.fact 120 (f := .free "list") rfl),
    b_range := He.free_ok X G (c.d.fact 121 (f := .free "range") rfl),
    b_set := He.free_ok X G (c.d.fact 122 (f := .free "set") rfl),
    b_str := He.free_ok X G (c.d.fact 123 (f := .free "str") rfl),
    b_sum := He.free_ok X G (c.d.fact 124 (f := .free "sum") rfl),
    b_super := He.free_ok X G (c.d.fact 125 (f := .free "super") rfl) }⟩
end K9
set_option Elab.async false
set_option linter.all false
set_option maxRecDepth 100000
set_option maxHeartbeats 0
namespace K9
open PySem PySem.Spec L2 Wd
open PyProof.Rows hiding St
/-- the walk of a law whose promise speaks of its world -/
theorem walkY {lw : PySem.W.OpenLaw} {most lev : Nat} {qq : Program} {lo : List Str} {A : (Str → Option Value) → Heap → Prop} {B : World → Heap → Prop} {dr : DefRec} {C : World → CXT} {nm : Str}
    (m1 : lw.most = some most) (m2 : most ≤ sizeLine) (m3 : dr.params.defaults = []) (room : Room lev callerA)
    (parts : ∀ (ww : World) (gl : Str → Option Value) (f : Addr) (hp : Heap), B ww hp → hp.Ns mainGlobals gl → gl dr.name = some (.ref f) → ∃ (K : PySem.W.Frag) (fd : FuncData) (pr : Sp), K.In hp ∧
      (∀ (s : Shared) (u : Value), BindsTo s fd ⟨[u], []⟩ [(nm, u)]) ∧
      (∀ (H : Hp) (b : Addr) (is : List Int), is.length ≤ most → Only H → SqL K H b (is.map V.int) → pr [.ref b] H (fun v _ => v = .bl true) fun _ _ _ => False) ∧ ∀ bs : Heap, K.In bs → bs.Ns mainGlobals gl → FnOk lw.prog ww K gl bs (C ww) lev f fd [nm] pr)
    (never : ∀ (ww : World) (H : Hp) (s : Shared) (u : Value) (s' : Shared), C ww [] H s (fun _ _ _ => False) u s' → False) : PySem.W.WalkO qq lo A B lw.row.toRowW dr [] (fun f vs => PySem.call f vs) :=
  Att.attach_call m1 m3 fun ww _ s1 gl _ f _ _ _ _ _ _ _ T Y _ _ _ hgl hob hin hle hge => by
    obtain ⟨K, fd, pr, k1, k2, k3, k4⟩ := parts ww gl f _ Y T.T.g hgl
    exact law_call k1 T.T.g T.T.b T.T.builtins T.T.nolimit hge hob hin (Nat.le_trans hle m2) room k4 k2 (fun H o q => k3 H _ _ hle o q) fun H u s' => never ww H s1 u s'
theorem endY (w : World) (mg : Str → Option Value) (fa : Addr) (h : Heap) (Y : (hookY 5).says w h) (G : h.Ns mainGlobals mg) (hm : mg "law" = some (.ref fa)) : ∃ (K : PySem.W.Frag) (fd : FuncData) (sp : Sp), K.In h ∧ (∀ (s : Shared) (u : Value), BindsTo s fd ⟨[u], []⟩ [("_law_script", u)]) ∧
    (∀ (H : Hp) (a : Addr) (ns : List Int), ns.length ≤ 63 → Only H → SqL K H a (ns.map V.int) → sp [.ref a] H (fun v _ => v = .bl true) fun _ _ _ => False) ∧ ∀ base : Heap, K.In base → base.Ns mainGlobals mg → FnOk (PySem.Challenge.rw_wheresay_k09_whole_texts).prog w K mg base (L2.CX (PySem.Challenge.rw_wheresay_k09_whole_texts).prog w) 11 fa fd ["_law_script"] sp := by
  obtain ⟨K, X, c, ce, cs⟩ := Y
  obtain ⟨Z⟩ := envY X G c ce cs
  have hP : SupP (PySem.Challenge.rw_wheresay_k09_whole_texts).prog pwFile := ⟨by kernel_rfl, by kernel_rfl⟩
  have e := hm.symm.trans Z.m_law
  cases e
  have b := FunD.bindsA (ps := ["_law_script"]) Z.F_law fun _ _ _ _ _ _ us hl => match us, hl with | [_], _ => rfl
  refine ⟨K, Z.d_law, spD K PrLaw, X, fun s v => b s [v] rfl, fun H a ns hl _ hS => ⟨H, [.ro (ns.map .int)], _, Wd.Sub.refl H, .cons (.ro hS (Dats.ofInts ns)) .nil, ⟨ns, hl, rfl, rfl⟩, fun v S' H' _ _ r => ?_⟩, fun base _ _ => ok_lawP Z hP⟩
  cases r
  rfl
end K9
open PySem PySem.W PySem.Calls PyProof.Rows
theorem PySem.Challenge.cw_wheresay_k09_whole_texts_holds : PySem.Challenge.rw_wheresay_k09_whole_texts.Holds := by
  w_on; o_law
  refine HandSHeadRun.head_any (r := OpenLaw.row PySem.Challenge.rw_wheresay_k09_whole_texts) (q := view (OpenLaw.row PySem.Challenge.rw_wheresay_k09_whole_texts).prog [68]) (H := K9.hookY 5) (ob := K9.obY) (M := 8000) (loose := K9.nsL) (d := HandSHeadRun.topDef (OpenLaw.row PySem.Challenge.rw_wheresay_k09_whole_texts).prog 68) (kwd := []) K9.obY_eq
    (by kernel_rfl) (fun s => by kernel_rfl) K9.runY (by kernel_rfl) (by kernel_rfl) (by kernel_rfl) (by rfl) (by first | assumption | decide +kernel) (by decide +kernel) ⟨rfl, rfl, rfl, rfl, rfl, by decide +kernel⟩ ?hw ?hc
  case hw => w_witness2
  case hc =>
    refine K9.walkY (lw := PySem.Challenge.rw_wheresay_k09_whole_texts) (most := 63) (lev := 11) (nm := "_law_script") (C := L2.CX (PySem.Challenge.rw_wheresay_k09_whole_texts).prog) rfl (by decide) (by kernel_rfl) ⟨rfl, by decide, by decide⟩ ?F (fun _ _ _ _ _ ⟨_, _, _, _, _, _, _, _, _, _, _, _, z⟩ => z)
    intro w mg fa h Y G hmg0
    have e : (HandSHeadRun.topDef (OpenLaw.row PySem.Challenge.rw_wheresay_k09_whole_texts).prog 68).name = ("law" : PySem.Str) := by kernel_rfl
    rw [e] at hmg0
    exact K9.endY w mg fa h Y G hmg0
