import PyProof.Rows.All
import Wide.All
import OpenK.AllK
import Wide.FinOn
import KE.KStateDown
import HandS.ForMost
import HandS.ForExc
import HandS.Defaults
import HandS.Head0
import HandS.Head1
import HandS.Head2
import HandS.HeadEnd
import HandS.HeadHook1
import HandS.HeadHook2
import HandS.HeadHook3
import HandS.HeadHook4
import HandS.Codes
import HandS.TupAny
import HandS.IsInst
import HandS.Flow
import HandS.Strs
import KE.KDictDisplayH
import HandS.DeepEq
import HandS.ListEq
import KE.DataEq
import HandS.Iter
import HandS.DictTup
import KE.KDictCopyH
import PyProof.DictUpdate
import HandS.Finally
import HandS.TryOnly
import HandS.Conv
import PySem.Challenge.RW_wheresay_k01_sayings
set_option Elab.async false
set_option linter.all false
set_option maxRecDepth 100000
set_option maxHeartbeats 0
namespace K1
open PySem PySem.Spec L2
open PyProof.Rows hiding St
def top (i : Nat) : Stmt := PySem.Challenge.pw_wheresay_k01_sayings.main.body.getD i (.Pass ⟨0, 0, 0, 0⟩)
abbrev s_is_whole : Stmt := top 7
abbrev s_is_number : Stmt := top 8
abbrev s_is_name : Stmt := top 9
abbrev s_are_unlike_names : Stmt := top 10
abbrev s_check_names : Stmt := top 17
abbrev s_check_word : Stmt := top 18
abbrev s_check_number : Stmt := top 19
abbrev s_comes_out : Stmt := top 20
abbrev s_Saying_names : Stmt := inClass (top 21) 0
abbrev s_Saying_adds : Stmt := inClass (top 21) 1
abbrev s_Saying_keeps : Stmt := inClass (top 21) 2
abbrev s_At_init : Stmt := inClass (top 22) 0
abbrev s_At_names : Stmt := inClass (top 22) 1
abbrev s_At_adds : Stmt := inClass (top 22) 2
abbrev s_At_keeps : Stmt := inClass (top 22) 3
abbrev s_Beside_init : Stmt := inClass (top 23) 0
abbrev s_Beside_names : Stmt := inClass (top 23) 1
abbrev s_Beside_adds : Stmt := inClass (top 23) 2
abbrev s_Beside_keeps : Stmt := inClass (top 23) 3
abbrev s_Alike_init : Stmt := inClass (top 24) 0
abbrev s_Alike_names : Stmt := inClass (top 24) 1
abbrev s_Alike_adds : Stmt := inClass (top 24) 2
abbrev s_Alike_keeps : Stmt := inClass (top 24) 3
abbrev s_Amid_init : Stmt := inClass (top 25) 0
abbrev s_Amid_names : Stmt := inClass (top 25) 1
abbrev s_Amid_adds : Stmt := inClass (top 25) 2
abbrev s_Amid_keeps : Stmt := inClass (top 25) 3
abbrev s_check_boxes : Stmt := top 29
abbrev s_is_saying_of : Stmt := top 30
abbrev s_check_sayings : Stmt := top 31
abbrev s_check_sheet : Stmt := top 32
abbrev s_check_place : Stmt := top 33
abbrev s_Sheet_init : Stmt := inClass (top 34) 0
abbrev s_Sheet_names : Stmt := inClass (top 34) 1
abbrev s_Sheet_sayings : Stmt := inClass (top 34) 2
abbrev s_put : Stmt := top 35
abbrev s_taken : Stmt := top 36
abbrev s_l_cell_at : Stmt := top 38
abbrev s_l_numbers : Stmt := top 39
abbrev s_l_names : Stmt := top 40
abbrev s_l_parts : Stmt := top 41
abbrev s_l_saying : Stmt := top 42
abbrev s_l_by : Stmt := top 43
abbrev s_l_terms : Stmt := top 44
abbrev s_l_left : Stmt := top 45
abbrev s_l_sheet : Stmt := top 46
abbrev s_l_made : Stmt := top 47
abbrev s_l_sheet_of : Stmt := top 48
abbrev s_l_words_kept : Stmt := top 49
abbrev s_l_drawn_share : Stmt := top 50
abbrev s_l_saying_right : Stmt := top 51
abbrev s_l_near : Stmt := top 52
abbrev s_l_as : Stmt := top 53
abbrev s_l_told : Stmt := top 54
abbrev s_l_sheets_right : Stmt := top 55
abbrev s_law : Stmt := top 56
def ns0 : List Str := ["SayError", "BadSaying", "BadSheet", "LETTERS", "LONGEST_NAME", "is_whole", "is_number", "is_name", "are_unlike_names", "PARTS", "SIDES", "WAYS", "FARTHEST", "MOST_TIMES", "check_names", "check_word", "check_number", "comes_out", "Saying", "At"]
def ns1 : List Str := ["Beside", "Alike", "Amid", "MOST_NAMES", "MOST_SAYINGS", "check_boxes", "is_saying_of", "check_sayings", "check_sheet", "check_place", "Sheet", "put", "taken", "_law_cell_at", "_law_numbers", "_law_names", "_law_parts", "_law_saying", "_law_by", "_law_terms"]
def ns2 : List Str := ["_law_left", "_law_sheet", "_law_made", "_law_sheet_of", "_law_words_kept", "_law_drawn_share", "_law_saying_right", "_law_near", "_law_as", "_law_told", "_law_sheets_right"]
def nsL : List Str := ns0 ++ ns1 ++ ns2
def D_is_whole : He.DefD := ⟨("is_whole", none), "is_whole", "is_whole", defArgs s_is_whole, defBody s_is_whole, defScope s_is_whole, [], []⟩
def D_is_number : He.DefD := ⟨("is_number", none), "is_number", "is_number", defArgs s_is_number, defBody s_is_number, defScope s_is_number, [], []⟩
def D_is_name : He.DefD := ⟨("is_name", none), "is_name", "is_name", defArgs s_is_name, defBody s_is_name, defScope s_is_name, [], []⟩
def D_are_unlike_names : He.DefD := ⟨("are_unlike_names", none), "are_unlike_names", "are_unlike_names", defArgs s_are_unlike_names, defBody s_are_unlike_names, defScope s_are_unlike_names, [], []⟩
def D_check_names : He.DefD := ⟨("check_names", none), "check_names", "check_names", defArgs s_check_names, defBody s_check_names, defScope s_check_names, [], []⟩
def D_check_word : He.DefD := ⟨("check_word", none), "check_word", "check_word", defArgs s_check_word, defBody s_check_word, defScope s_check_word, [], []⟩
def D_check_number : He.DefD := ⟨("check_number", none), "check_number", "check_number", defArgs s_check_number, defBody s_check_number, defScope s_check_number, [], []⟩
def D_comes_out : He.DefD := ⟨("comes_out", none), "comes_out", "comes_out", defArgs s_comes_out, defBody s_comes_out, defScope s_comes_out, [], []⟩
def D_Saying_names : He.DefD := ⟨("Saying", some "names"), "names", "Saying.names", defArgs s_Saying_names, defBody s_Saying_names, defScope s_Saying_names, [], []⟩
def D_Saying_adds : He.DefD := ⟨("Saying", some "adds"), "adds", "Saying.adds", defArgs s_Saying_adds, defBody s_Saying_adds, defScope s_Saying_adds, [], []⟩
def D_Saying_keeps : He.DefD := ⟨("Saying", some "keeps"), "keeps", "Saying.keeps", defArgs s_Saying_keeps, defBody s_Saying_keeps, defScope s_Saying_keeps, [], []⟩
def D_At_init : He.DefD := ⟨("At", some "__init__"), "__init__", "At.__init__", defArgs s_At_init, defBody s_At_init, defScope s_At_init, [], []⟩
def D_At_names : He.DefD := ⟨("At", some "names"), "names", "At.names", defArgs s_At_names, defBody s_At_names, defScope s_At_names, [], []⟩
def D_At_adds : He.DefD := ⟨("At", some "adds"), "adds", "At.adds", defArgs s_At_adds, defBody s_At_adds, defScope s_At_adds, [], []⟩
def D_At_keeps : He.DefD := ⟨("At", some "keeps"), "keeps", "At.keeps", defArgs s_At_keeps, defBody s_At_keeps, defScope s_At_keeps, [], []⟩
def D_Beside_init : He.DefD := ⟨("Beside", some "__init__"), "__init__", "Beside.__init__", defArgs s_Beside_init, defBody s_Beside_init, defScope s_Beside_init, [.int 0], []⟩
def D_Beside_names : He.DefD := ⟨("Beside", some "names"), "names", "Beside.names", defArgs s_Beside_names, defBody s_Beside_names, defScope s_Beside_names, [], []⟩
def D_Beside_adds : He.DefD := ⟨("Beside", some "adds"), "adds", "Beside.adds", defArgs s_Beside_adds, defBody s_Beside_adds, defScope s_Beside_adds, [], []⟩
def D_Beside_keeps : He.DefD := ⟨("Beside", some "keeps"), "keeps", "Beside.keeps", defArgs s_Beside_keeps, defBody s_Beside_keeps, defScope s_Beside_keeps, [], []⟩
def D_Alike_init : He.DefD := ⟨("Alike", some "__init__"), "__init__", "Alike.__init__", defArgs s_Alike_init, defBody s_Alike_init, defScope s_Alike_init, [.int 1], []⟩
def D_Alike_names : He.DefD := ⟨("Alike", some "names"), "names", "Alike.names", defArgs s_Alike_names, defBody s_Alike_names, defScope s_Alike_names, [], []⟩
def D_Alike_adds : He.DefD := ⟨("Alike", some "adds"), "adds", "Alike.adds", defArgs s_Alike_adds, defBody s_Alike_adds, defScope s_Alike_adds, [], []⟩
def D_Alike_keeps : He.DefD := ⟨("Alike", some "keeps"), "keeps", "Alike.keeps", defArgs s_Alike_keeps, defBody s_Alike_keeps, defScope s_Alike_keeps, [], []⟩
def D_Amid_init : He.DefD := ⟨("Amid", some "__init__"), "__init__", "Amid.__init__", defArgs s_Amid_init, defBody s_Amid_init, defScope s_Amid_init, [], []⟩
def D_Amid_names : He.DefD := ⟨("Amid", some "names"), "names", "Amid.names", defArgs s_Amid_names, defBody s_Amid_names, defScope s_Amid_names, [], []⟩
def D_Amid_adds : He.DefD := ⟨("Amid", some "adds"), "adds", "Amid.adds", defArgs s_Amid_adds, defBody s_Amid_adds, defScope s_Amid_adds, [], []⟩
def D_Amid_keeps : He.DefD := ⟨("Amid", some "keeps"), "keeps", "Amid.keeps", defArgs s_Amid_keeps, defBody s_Amid_keeps, defScope s_Amid_keeps, [], []⟩
def D_check_boxes : He.DefD := ⟨("check_boxes", none), "check_boxes", "check_boxes", defArgs s_check_boxes, defBody s_check_boxes, defScope s_check_boxes, [], []⟩
def D_is_saying_of : He.DefD := ⟨("is_saying_of", none), "is_saying_of", "is_saying_of", defArgs s_is_saying_of, defBody s_is_saying_of, defScope s_is_saying_of, [], []⟩
def D_check_sayings : He.DefD := ⟨("check_sayings", none), "check_sayings", "check_sayings", defArgs s_check_sayings, defBody s_check_sayings, defScope s_check_sayings, [], []⟩
def D_check_sheet : He.DefD := ⟨("check_sheet", none), "check_sheet", "check_sheet", defArgs s_check_sheet, defBody s_check_sheet, defScope s_check_sheet, [], []⟩
def D_check_place : He.DefD := ⟨("check_place", none), "check_place", "check_place", defArgs s_check_place, defBody s_check_place, defScope s_check_place, [], []⟩
def D_Sheet_init : He.DefD := ⟨("Sheet", some "__init__"), "__init__", "Sheet.__init__", defArgs s_Sheet_init, defBody s_Sheet_init, defScope s_Sheet_init, [], []⟩
def D_Sheet_names : He.DefD := ⟨("Sheet", some "names"), "names", "Sheet.names", defArgs s_Sheet_names, defBody s_Sheet_names, defScope s_Sheet_names, [], []⟩
def D_Sheet_sayings : He.DefD := ⟨("Sheet", some "sayings"), "sayings", "Sheet.sayings", defArgs s_Sheet_sayings, defBody s_Sheet_sayings, defScope s_Sheet_sayings, [], []⟩
def D_put : He.DefD := ⟨("put", none), "put", "put", defArgs s_put, defBody s_put, defScope s_put, [], []⟩
def D_taken : He.DefD := ⟨("taken", none), "taken", "taken", defArgs s_taken, defBody s_taken, defScope s_taken, [], []⟩
def D_l_cell_at : He.DefD := ⟨("_law_cell_at", none), "_law_cell_at", "_law_cell_at", defArgs s_l_cell_at, defBody s_l_cell_at, defScope s_l_cell_at, [], []⟩
def D_l_numbers : He.DefD := ⟨("_law_numbers", none), "_law_numbers", "_law_numbers", defArgs s_l_numbers, defBody s_l_numbers, defScope s_l_numbers, [], []⟩
def D_l_names : He.DefD := ⟨("_law_names", none), "_law_names", "_law_names", defArgs s_l_names, defBody s_l_names, defScope s_l_names, [], []⟩
def D_l_parts : He.DefD := ⟨("_law_parts", none), "_law_parts", "_law_parts", defArgs s_l_parts, defBody s_l_parts, defScope s_l_parts, [], []⟩
def D_l_saying : He.DefD := ⟨("_law_saying", none), "_law_saying", "_law_saying", defArgs s_l_saying, defBody s_l_saying, defScope s_l_saying, [], []⟩
def D_l_by : He.DefD := ⟨("_law_by", none), "_law_by", "_law_by", defArgs s_l_by, defBody s_l_by, defScope s_l_by, [], []⟩
def D_l_terms : He.DefD := ⟨("_law_terms", none), "_law_terms", "_law_terms", defArgs s_l_terms, defBody s_l_terms, defScope s_l_terms, [], []⟩
def D_l_left : He.DefD := ⟨("_law_left", none), "_law_left", "_law_left", defArgs s_l_left, defBody s_l_left, defScope s_l_left, [], []⟩
def D_l_sheet : He.DefD := ⟨("_law_sheet", none), "_law_sheet", "_law_sheet", defArgs s_l_sheet, defBody s_l_sheet, defScope s_l_sheet, [], []⟩
def D_l_made : He.DefD := ⟨("_law_made", none), "_law_made", "_law_made", defArgs s_l_made, defBody s_l_made, defScope s_l_made, [], []⟩
def D_l_sheet_of : He.DefD := ⟨("_law_sheet_of", none), "_law_sheet_of", "_law_sheet_of", defArgs s_l_sheet_of, defBody s_l_sheet_of, defScope s_l_sheet_of, [], []⟩
def D_l_words_kept : He.DefD := ⟨("_law_words_kept", none), "_law_words_kept", "_law_words_kept", defArgs s_l_words_kept, defBody s_l_words_kept, defScope s_l_words_kept, [], []⟩
def D_l_drawn_share : He.DefD := ⟨("_law_drawn_share", none), "_law_drawn_share", "_law_drawn_share", defArgs s_l_drawn_share, defBody s_l_drawn_share, defScope s_l_drawn_share, [], []⟩
def D_l_saying_right : He.DefD := ⟨("_law_saying_right", none), "_law_saying_right", "_law_saying_right", defArgs s_l_saying_right, defBody s_l_saying_right, defScope s_l_saying_right, [], []⟩
def D_l_near : He.DefD := ⟨("_law_near", none), "_law_near", "_law_near", defArgs s_l_near, defBody s_l_near, defScope s_l_near, [], []⟩
def D_l_as : He.DefD := ⟨("_law_as", none), "_law_as", "_law_as", defArgs s_l_as, defBody s_l_as, defScope s_l_as, [], []⟩
def D_l_told : He.DefD := ⟨("_law_told", none), "_law_told", "_law_told", defArgs s_l_told, defBody s_l_told, defScope s_l_told, [], []⟩
def D_l_sheets_right : He.DefD := ⟨("_law_sheets_right", none), "_law_sheets_right", "_law_sheets_right", defArgs s_l_sheets_right, defBody s_l_sheets_right, defScope s_l_sheets_right, [], []⟩
def D_law : He.DefD := ⟨("law", none), "law", "law", defArgs s_law, defBody s_law, defScope s_law, [], []⟩
def fnL0 : List He.DefD := [D_is_whole, D_is_number, D_is_name, D_are_unlike_names, D_check_names, D_check_word, D_check_number, D_comes_out, D_Saying_names, D_Saying_adds, D_Saying_keeps, D_At_init, D_At_names, D_At_adds, D_At_keeps, D_Beside_init, D_Beside_names, D_Beside_adds, D_Beside_keeps, D_Alike_init]
def fnL1 : List He.DefD := [D_Alike_names, D_Alike_adds, D_Alike_keeps, D_Amid_init, D_Amid_names, D_Amid_adds, D_Amid_keeps, D_check_boxes, D_is_saying_of, D_check_sayings, D_check_sheet, D_check_place, D_Sheet_init, D_Sheet_names, D_Sheet_sayings, D_put, D_taken, D_l_cell_at, D_l_numbers, D_l_names]
def fnL2 : List He.DefD := [D_l_parts, D_l_saying, D_l_by, D_l_terms, D_l_left, D_l_sheet, D_l_made, D_l_sheet_of, D_l_words_kept, D_l_drawn_share, D_l_saying_right, D_l_near, D_l_as, D_l_told, D_l_sheets_right, D_law]
def fnL : List He.DefD := fnL0 ++ (fnL1 ++ (fnL2))
def faL0 : List He.Fa := [.glo "is_whole", .glo "is_number", .glo "is_name", .glo "are_unlike_names", .glo "check_names", .glo "check_word", .glo "check_number", .glo "comes_out", .meth "Saying" "names", .meth "Saying" "adds", .meth "Saying" "keeps", .mkr "At", .meth "At" "names", .meth "At" "adds", .meth "At" "keeps", .mkr "Beside", .meth "Beside" "names", .meth "Beside" "adds", .meth "Beside" "keeps", .mkr "Alike"]
def faL1 : List He.Fa := [.meth "Alike" "names", .meth "Alike" "adds", .meth "Alike" "keeps", .mkr "Amid", .meth "Amid" "names", .meth "Amid" "adds", .meth "Amid" "keeps", .glo "check_boxes", .glo "is_saying_of", .glo "check_sayings", .glo "check_sheet", .glo "check_place", .mkr "Sheet", .meth "Sheet" "names", .meth "Sheet" "sayings", .glo "put", .glo "taken", .glo "_law_cell_at", .glo "_law_numbers", .glo "_law_names"]
def faL2 : List He.Fa := [.glo "_law_parts", .glo "_law_saying", .glo "_law_by", .glo "_law_terms", .glo "_law_left", .glo "_law_sheet", .glo "_law_made", .glo "_law_sheet_of", .glo "_law_words_kept", .glo "_law_drawn_share", .glo "_law_saying_right", .glo "_law_near", .glo "_law_as", .glo "_law_told", .glo "_law_sheets_right", .glo "law", .glo "SayError", .glo "BadSaying", .glo "BadSheet", .glo "Saying"]
def faL3 : List He.Fa := [.cls "Saying", .glo "At", .cls "At", .noat "At" "name", .noat "At" "part", .noat "At" "number", .glo "Beside", .cls "Beside", .noat "Beside" "name", .noat "Beside" "side", .noat "Beside" "other", .noat "Beside" "by", .glo "Alike", .cls "Alike", .noat "Alike" "name", .noat "Alike" "part", .noat "Alike" "other", .noat "Alike" "times", .glo "Amid", .cls "Amid"]
def faL4 : List He.Fa := [.noat "Amid" "name", .noat "Amid" "way", .noat "Amid" "one", .noat "Amid" "other", .glo "Sheet", .cls "Sheet", .noat "Sheet" "boxes", .noat "Sheet" "said", .str "LETTERS" "abcdefghijklmnopqrstuvwxyz", .int "LONGEST_NAME" 8, .glo "PARTS", .glo "SIDES", .glo "WAYS", .int "FARTHEST" 1000, .int "MOST_TIMES" 9, .int "MOST_NAMES" 6, .int "MOST_SAYINGS" 16, .free "all", .free "bool", .free "dict"]
def faL5 : List He.Fa := [.free "int", .free "isinstance", .free "len", .free "list", .free "max", .free "range", .free "set", .free "str", .free "sum", .free "tuple"]
def faL : List He.Fa := faL0 ++ (faL1 ++ (faL2 ++ (faL3 ++ (faL4 ++ (faL5)))))
def tsL : List He.Tab := [(fun K => He.ga K "SIDES", ["right", "left", "below", "above"]), (fun K => He.ga K "WAYS", ["across", "down"])]
/-! more facts -/
def ownB (n : Str) (K : PySem.W.Frag) : Bool := He.eqO (PySem.W.findIn K (.ref (He.ga K n)) "__class__") (some (some (.builtin "object.__class__"))) && (He.eqO (PySem.W.specialIn K (.builtin "object.__class__") "__get__") (some (some (.builtin "getset_descriptor.__get__"))) && (decide (PySem.W.takesIn K (.builtin "object.__class__") = some true) && decide (PySem.W.mroIn K (He.ga K n) (.type "object") = some true)))
def kitB (a b : Str) (v : Bool) (K : PySem.W.Frag) : Bool := decide (PySem.W.kitOne K (.ref (He.ga K a)) (.ref (He.ga K b)) = some v)
def tupN (K : PySem.W.Frag) (a : Addr) (l : List Str) : Bool := match K.lookup a with
  | some ⟨.type c, none, .seq its _, _⟩ => decide (c = "tuple") && (decide (its.size ≤ sizeLine) && He.relAll (l.map V.str) its.toList)
  | _ => false
def keysB (K : PySem.W.Frag) (a : Addr) (ks : List Str) : Bool := match K.lookup a with
  | some ⟨.type c, none, .dict es _, sl⟩ => decide (c = "dict") && (sl.isEmpty && (!(a == sysModules) && He.relAll (ks.map V.str) (es.toList.map (·.key))))
  | _ => false
def valsN (K : PySem.W.Frag) (a : Addr) (l : List (Str × List Str)) : Bool := l.all fun p => match PySem.W.nsIn K a p.1 with
  | some (some (.ref q)) => tupN K q p.2
  | _ => false
def exL0 : List (PySem.W.Frag → Bool) := [ownB "Saying", ownB "At", ownB "Beside", ownB "Alike", ownB "Amid", ownB "Sheet", kitB "Saying" "Saying" true, kitB "Saying" "At" false, kitB "Saying" "Beside" false, kitB "Saying" "Alike" false, kitB "Saying" "Amid" false, kitB "Saying" "Sheet" false, kitB "At" "Saying" true, kitB "At" "At" true, kitB "At" "Beside" false, kitB "At" "Alike" false, kitB "At" "Amid" false, kitB "At" "Sheet" false, kitB "Beside" "Saying" true, kitB "Beside" "At" false]
def exL1 : List (PySem.W.Frag → Bool) := [kitB "Beside" "Beside" true, kitB "Beside" "Alike" false, kitB "Beside" "Amid" false, kitB "Beside" "Sheet" false, kitB "Alike" "Saying" true, kitB "Alike" "At" false, kitB "Alike" "Beside" false, kitB "Alike" "Alike" true, kitB "Alike" "Amid" false, kitB "Alike" "Sheet" false, kitB "Amid" "Saying" true, kitB "Amid" "At" false, kitB "Amid" "Beside" false, kitB "Amid" "Alike" false, kitB "Amid" "Amid" true, kitB "Amid" "Sheet" false, kitB "Sheet" "Saying" false, kitB "Sheet" "At" false, kitB "Sheet" "Beside" false, kitB "Sheet" "Alike" false]
def exL2 : List (PySem.W.Frag → Bool) := [kitB "Sheet" "Amid" false, kitB "Sheet" "Sheet" true, (fun K => tupN K (He.ga K "PARTS") ["left", "top", "wide", "high"]), (fun K => keysB K (He.ga K "SIDES") ["right", "left", "below", "above"]), (fun K => valsN K (He.ga K "SIDES") [("right", ["left", "wide"]), ("left", ["left", "wide"]), ("below", ["top", "high"]), ("above", ["top", "high"])]), (fun K => keysB K (He.ga K "WAYS") ["across", "down"]), (fun K => valsN K (He.ga K "WAYS") [("across", ["left", "wide"]), ("down", ["top", "high"])])]
def exL : List (PySem.W.Frag → Bool) := exL0 ++ (exL1 ++ (exL2))
def exK (K : PySem.W.Frag) : Bool := exL.all fun f => f K
theorem exA {K : PySem.W.Frag} (h : exK K = true) (i : Nat) {f : PySem.W.Frag → Bool} (e : exL[i]? = some f := by rfl) : f K = true := List.all_eq_true.mp h f (List.mem_of_getElem? e)
abbrev AlY : Type := He.AlT × Bool
def obsY (n : Nat) (g : Addr → Option Obj) : AlY := (He.obsT faL fnL tsL (He.frG g (He.asD g n)), exK (He.frG g (He.asD g n)))
def hookY (n : Nat) : PySem.W.Hook where
  α := AlY
  obs := fun s => obsY n s.heap.get?
  val := fun w => (He.valT fnL tsL w, true)
  says := fun w h => ∃ K : PySem.W.Frag, K.In h ∧ He.SaysT faL fnL tsL w K ∧ exK K = true
  of := fun _ _ e => ⟨_, He.frG_in, congrArg (fun z : AlY => z.1) e, congrArg (fun z : AlY => z.2) e⟩
  keeps := fun _ _ _ ⟨K, hK, c⟩ k => ⟨K, PySem.W.Frag.In.keeps hK k, c⟩
abbrev R : PySem.W.OpenRow := PySem.W.OpenLaw.row PySem.Challenge.rw_wheresay_k01_sayings
def obY (s : PySem.W.SharedT) : AlY := obsY 5 (HandSHeadRun.getT s)
theorem obY_eq (s : PySem.W.SharedT) : obY s = (hookY 5).obs s.abs := by
  have e : HandSHeadRun.getT s = s.abs.heap.get? := funext (HandSHeadRun.getT_eq s)
  show obsY 5 (HandSHeadRun.getT s) = obsY 5 s.abs.heap.get?
  rw [e]
theorem runYf (w : World) : HandSHeadRun.RunEq R (PySem.W.view R.prog [56]) (hookY 5) obY 4000 nsL (w.withFollow "special-get-raises" false) := by
  intro os
  kernel_rfl
theorem runYt (w : World) : HandSHeadRun.RunEq R (PySem.W.view R.prog [56]) (hookY 5) obY 4000 nsL (w.withFollow "special-get-raises" true) := by
  intro os
  kernel_rfl
theorem runY (w : World) : HandSHeadRun.RunEq R (PySem.W.view R.prog [56]) (hookY 5) obY 4000 nsL w :=
  PySem.W.byRow2 "special-get-raises" (P := fun w => HandSHeadRun.RunEq R (PySem.W.view R.prog [56]) (hookY 5) obY 4000 nsL w) runYf runYt w
end K1
set_option Elab.async false
set_option linter.all false
set_option maxRecDepth 100000
set_option maxHeartbeats 1000000
/-! Data over the layer: what a value is, deep; regions of the heap that stay; names owned by a def. -/
namespace Wd
open PySem PySem.Spec L2
open PyProof.Rows hiding St

/-- data, deep -/
inductive D where
  | non | bl (b : Bool) | int (i : Int) | str (x : Str)
  | lst (ds : List D) | tup (ds : List D) | ro (ds : List D) | rot (ds : List D)
  | dk (kvs : List (Key × D)) | dt (kvs : List (List Key × D))
  | obj (c : Str) (fs : List (Str × D))
  | cls (c : Str) | ty (n : String)

mutual
inductive Dat (K : PySem.W.Frag) (S : Hp) : V → D → Prop
  | non : Dat K S .non .non
  | bl {b} : Dat K S (.bl b) (.bl b)
  | int {i} : Dat K S (.int i) (.int i)
  | str {x} : Dat K S (.str x) (.str x)
  | lst {a xs ds} : S a = some (.lst xs) → Dats K S xs ds → Dat K S (.ref a) (.lst ds)
  | tup {a xs ds} : S a = some (.tup xs) → Dats K S xs ds → Dat K S (.ref a) (.tup ds)
  | ro {a xs ds} : SqL K S a xs → Dats K S xs ds → Dat K S (.ref a) (.ro ds)
  | rot {a xs ds} : SqT K S a xs → Dats K S xs ds → Dat K S (.ref a) (.rot ds)
  | dk {a kvs} {ds : List (Key × D)} : S a = some (.dK kvs) → kvs.map (·.1) = ds.map (·.1) → Dats K S (kvs.map (·.2)) (ds.map (·.2)) → Dat K S (.ref a) (.dk ds)
  | dt {a kvs} {ds : List (List Key × D)} : S a = some (.dT kvs) → kvs.map (·.1) = ds.map (·.1) → Dats K S (kvs.map (·.2)) (ds.map (·.2)) → Dat K S (.ref a) (.dt ds)
  | obj {a dx fs} {c : Str} {ds : List (Str × D)} : S a = some (.ins (He.ga K c) dx fs) → fs.map (·.1) = ds.map (·.1) → Dats K S (fs.map (·.2)) (ds.map (·.2)) → Dat K S (.ref a) (.obj c ds)
  | cls {c : Str} : Dat K S (.ref (He.ga K c)) (.cls c)
  | ty {n : String} : Dat K S (.ty n) (.ty n)
inductive Dats (K : PySem.W.Frag) (S : Hp) : List V → List D → Prop
  | nil : Dats K S [] []
  | cons {x d xs ds} : Dat K S x d → Dats K S xs ds → Dats K S (x :: xs) (d :: ds)
end

/-! ### the parts of the heap -/
abbrev Ex (H H' : Hp) : Prop := Same H H'
/-- S is to be read in H: as it is, or locked -/
def IsDc : HO → Prop
  | .dK _ => True
  | .dT _ => True
  | _ => False
def Sub (S H : Hp) : Prop := ∀ a o, S a = some o → H a = some o ∨ ∃ ob, H a = some (.frz ob o) ∧ IsDc o
theorem Sub.refl (H : Hp) : Sub H H := fun _ _ h => .inl h
theorem Sub.of {S H : Hp} (e : Ex S H) : Sub S H := fun a o h => .inl (e a o h)
theorem Sub.ex {S H H' : Hp} (s : Sub S H) (e : Ex H H') : Sub S H' := fun a o h => by
  rcases s a o h with h | ⟨ob, h, m⟩
  · exact .inl (e a _ h)
  · exact .inr ⟨ob, e a _ h, m⟩
theorem Ex.sub {S S' H : Hp} (e : Ex S S') (s : Sub S' H) : Sub S H := fun a o h => s a o (e a o h)
theorem Sub.rd {S H : Hp} (s : Sub S H) {a : Addr} {u : HO} (r : Rd S a u) : Rd H a u := by
  rcases r with h | ⟨o, h⟩
  · rcases s a _ h with h | ⟨ob, h, _⟩
    · exact .inl h
    · exact .inr ⟨ob, h⟩
  · rcases s a _ h with h | ⟨ob, h, m⟩
    · exact .inr ⟨o, h⟩
    · exact (show False from m).elim
theorem Sub.tup {S H : Hp} (s : Sub S H) {a : Addr} {xs : List V} (h : S a = some (.tup xs)) : H a = some (.tup xs) := by
  rcases s a _ h with h | ⟨ob, h, m⟩
  · exact h
  · exact (show False from m).elim
theorem Sub.lst {S H : Hp} (s : Sub S H) {a : Addr} {xs : List V} (h : S a = some (.lst xs)) : H a = some (.lst xs) := by
  rcases s a _ h with h | ⟨ob, h, m⟩
  · exact h
  · exact (show False from m).elim
theorem Sub.ins {S H : Hp} (s : Sub S H) {a C dx : Addr} {fs : List (Str × V)} (h : S a = some (.ins C dx fs)) : H a = some (.ins C dx fs) := by
  rcases s a _ h with h | ⟨ob, h, m⟩
  · exact h
  · exact (show False from m).elim
theorem Sub.seqL {K : PySem.W.Frag} {S H : Hp} (s : Sub S H) {a : Addr} {xs : List V} (h : SqL K S a xs) : SqL K H a xs := h.elim (fun h => .inl (s.rd h)) .inr
theorem Sub.seqT {K : PySem.W.Frag} {S H : Hp} (s : Sub S H) {a : Addr} {xs : List V} (h : SqT K S a xs) : SqT K H a xs := h.elim (fun h => .inl (s.rd h)) .inr
theorem Ex.seqL {K : PySem.W.Frag} {S H : Hp} (s : Ex S H) {a : Addr} {xs : List V} (h : SqL K S a xs) : SqL K H a xs := Same.seq s h
theorem Ex.rd {S H : Hp} (s : Ex S H) {a : Addr} {u : HO} (r : Rd S a u) : Rd H a u := r.elim (fun h => .inl (s _ _ h)) fun ⟨o, h⟩ => .inr ⟨o, s _ _ h⟩
theorem Ex.seqT {K : PySem.W.Frag} {S H : Hp} (s : Ex S H) {a : Addr} {xs : List V} (h : SqT K S a xs) : SqT K H a xs := h.elim (fun h => .inl (Ex.rd s h)) .inr
theorem Ex.back {H H' : Hp} (e : Ex H H') {l : Addr} (h : H' l = none) : H l = none := Same.free e h
theorem Ex.new {H : Hp} {p : Addr} {o : HO} (h : H p = none) : Ex H (upd H p o) := fun b u e => by rw [upd_ne (ne_of_none e h)]; exact e
theorem Ex.mut {H0 H : Hp} {p : Addr} {o : HO} (e : Ex H0 H) (h : H0 p = none) : Ex H0 (upd H p o) := fun b u z => by rw [upd_ne (ne_of_none z h)]; exact e b u z
theorem Sub.mut {S H : Hp} {p : Addr} {o : HO} (s : Sub S H) (h : S p = none) : Sub S (upd H p o) := fun b u z => by rw [upd_ne (ne_of_none z h)]; exact s b u z
theorem Sub.add {S H : Hp} {p : Addr} {o : HO} (s : Sub S H) (h : H p = some o) : Sub (upd S p o) H := fun b u z => by
  by_cases e : b = p
  · subst e; rw [upd_same] at z; cases z; exact .inl h
  · rw [upd_ne e] at z; exact s b u z
theorem Sub.upd {S H : Hp} {p : Addr} {o : HO} (s : Sub S H) : Sub (L2.upd S p o) (L2.upd H p o) := fun b u z => by
  by_cases e : b = p
  · subst e; rw [upd_same] at z ⊢; exact .inl z
  · rw [upd_ne e] at z ⊢; exact s b u z

mutual
theorem Dat.ex {K : PySem.W.Frag} {S S' : Hp} {v : V} {d : D} (e : Ex S S') : Dat K S v d → Dat K S' v d
  | .non => .non
  | .bl => .bl
  | .int => .int
  | .str => .str
  | .lst h t => .lst (e _ _ h) (Dats.ex e t)
  | .tup h t => .tup (e _ _ h) (Dats.ex e t)
  | .ro h t => .ro (Ex.seqL e h) (Dats.ex e t)
  | .rot h t => .rot (Ex.seqT e h) (Dats.ex e t)
  | .dk h k t => .dk (e _ _ h) k (Dats.ex e t)
  | .dt h k t => .dt (e _ _ h) k (Dats.ex e t)
  | .obj h k t => .obj (e _ _ h) k (Dats.ex e t)
  | .cls => .cls
  | .ty => .ty
theorem Dats.ex {K : PySem.W.Frag} {S S' : Hp} {vs : List V} {ds : List D} (e : Ex S S') : Dats K S vs ds → Dats K S' vs ds
  | .nil => .nil
  | .cons h t => .cons (Dat.ex e h) (Dats.ex e t)
end
section
variable {K : PySem.W.Frag} {S : Hp}
theorem Dats.length : ∀ {vs : List V} {ds : List D}, Dats K S vs ds → vs.length = ds.length
  | _, _, .nil => rfl
  | _, _, .cons _ t => by rw [List.length_cons, List.length_cons, Dats.length t]
theorem Dats.get : ∀ {vs : List V} {ds : List D} {i : Nat} {d : D}, Dats K S vs ds → ds[i]? = some d → ∃ v, vs[i]? = some v ∧ Dat K S v d
  | _, _, _, _, .nil, e => by simp at e
  | _, _, 0, _, .cons h _, e => by simp at e; subst e; exact ⟨_, rfl, h⟩
  | _, _, i + 1, d, .cons _ t, e => by
    obtain ⟨v, h1, h2⟩ := Dats.get (i := i) (d := d) t (by simpa using e)
    exact ⟨v, by simpa using h1, h2⟩
theorem Dats.getV : ∀ {vs : List V} {ds : List D} {i : Nat} {v : V}, Dats K S vs ds → vs[i]? = some v → ∃ d, ds[i]? = some d ∧ Dat K S v d
  | _, _, _, _, .nil, e => by simp at e
  | _, _, 0, _, .cons h _, e => by simp at e; subst e; exact ⟨_, rfl, h⟩
  | _, _, i + 1, d, .cons _ t, e => by
    obtain ⟨v, h1, h2⟩ := Dats.getV (i := i) (v := d) t (by simpa using e)
    exact ⟨v, by simpa using h1, h2⟩
theorem Dats.append : ∀ {vs ws : List V} {ds es : List D}, Dats K S vs ds → Dats K S ws es → Dats K S (vs ++ ws) (ds ++ es)
  | _, _, _, _, .nil, s => s
  | _, _, _, _, .cons h t, s => .cons h (Dats.append t s)
theorem Dats.one {v : V} {d : D} (h : Dat K S v d) : Dats K S [v] [d] := .cons h .nil
theorem Dats.snoc {vs : List V} {ds : List D} {v : V} {d : D} (h : Dats K S vs ds) (h1 : Dat K S v d) : Dats K S (vs ++ [v]) (ds ++ [d]) := h.append (.one h1)
theorem Dats.take : ∀ {vs : List V} {ds : List D} (n : Nat), Dats K S vs ds → Dats K S (vs.take n) (ds.take n)
  | _, _, 0, _ => .nil
  | _, _, _ + 1, .nil => .nil
  | _, _, n + 1, .cons h t => .cons h (Dats.take n t)
theorem Dats.drop : ∀ {vs : List V} {ds : List D} (n : Nat), Dats K S vs ds → Dats K S (vs.drop n) (ds.drop n)
  | _, _, 0, h => h
  | _, _, _ + 1, .nil => .nil
  | _, _, n + 1, .cons _ t => Dats.drop n t
theorem Dats.set {v : V} {d : D} (h : Dat K S v d) : ∀ {vs : List V} {ds : List D} (n : Nat), Dats K S vs ds → Dats K S (vs.set n v) (ds.set n d)
  | _, _, _, .nil => .nil
  | _, _, 0, .cons _ t => .cons h t
  | _, _, n + 1, .cons q t => .cons q (Dats.set h n t)
theorem Dats.ints : ∀ {vs : List V} {ns : List Int}, Dats K S vs (ns.map D.int) → vs = ns.map V.int
  | [], [], _ => rfl
  | [], _ :: _, h => nomatch h
  | _ :: _, [], h => nomatch h
  | v :: vs, n :: ns, .cons h t => by
    cases h
    rw [List.map_cons, Dats.ints t]
theorem Dats.bls : ∀ {vs : List V} {ns : List Bool}, Dats K S vs (ns.map D.bl) → vs = ns.map V.bl
  | [], [], _ => rfl
  | [], _ :: _, h => nomatch h
  | _ :: _, [], h => nomatch h
  | v :: vs, n :: ns, .cons h t => by
    cases h
    rw [List.map_cons, Dats.bls t]
theorem Dats.strs : ∀ {vs : List V} {ns : List Str}, Dats K S vs (ns.map D.str) → vs = ns.map V.str
  | [], [], _ => rfl
  | [], _ :: _, h => nomatch h
  | _ :: _, [], h => nomatch h
  | v :: vs, n :: ns, .cons h t => by
    cases h
    rw [List.map_cons, Dats.strs t]
theorem Dats.ofInts : ∀ (ns : List Int), Dats K S (ns.map V.int) (ns.map D.int)
  | [] => .nil
  | _ :: r => .cons .int (Dats.ofInts r)
end

/-! ### slots -/
/-- what is known of a name: nothing; data that stays; an object that the def alone holds and may change -/
inductive Slot where
  | un | sh (d : D) | ow (d : D) | tw (ks : List (List Key × D)) (d : D)
abbrev Gm := List Slot

/-- the object at l, its parts in S -/
def OwnAt (K : PySem.W.Frag) (S H : Hp) (l : Addr) : D → Prop
  | .lst ds => ∃ xs, H l = some (.lst xs) ∧ Dats K S xs ds
  | .dk ds => ∃ kvs, H l = some (.dK kvs) ∧ kvs.map (·.1) = ds.map (·.1) ∧ Dats K S (kvs.map (·.2)) (ds.map (·.2))
  | .dt ds => ∃ kvs, H l = some (.dT kvs) ∧ kvs.map (·.1) = ds.map (·.1) ∧ Dats K S (kvs.map (·.2)) (ds.map (·.2))
  | .obj c ds => ∃ dx fs, H l = some (.ins (He.ga K c) dx fs) ∧ fs.map (·.1) = ds.map (·.1) ∧ Dats K S (fs.map (·.2)) (ds.map (·.2))
  | _ => False
theorem OwnAt.there {K : PySem.W.Frag} {S H : Hp} {l : Addr} {d : D} (h : OwnAt K S H l d) : ∃ o, H l = some o := by
  cases d with
  | lst ds => obtain ⟨xs, h, _⟩ := h; exact ⟨_, h⟩
  | dk ds => obtain ⟨xs, h, _⟩ := h; exact ⟨_, h⟩
  | dt ds => obtain ⟨xs, h, _⟩ := h; exact ⟨_, h⟩
  | obj c ds => obtain ⟨dx, xs, h, _⟩ := h; exact ⟨_, h⟩
  | _ => exact (show False from h).elim
theorem OwnAt.mono {K : PySem.W.Frag} {S S' H H' : Hp} {l : Addr} {d : D} (h : OwnAt K S H l d) (e : Ex S S') (k : ∀ o, H l = some o → H' l = some o) : OwnAt K S' H' l d := by
  cases d with
  | lst ds => obtain ⟨xs, h, t⟩ := h; exact ⟨xs, k _ h, t.ex e⟩
  | dk ds => obtain ⟨xs, h, z, t⟩ := h; exact ⟨xs, k _ h, z, t.ex e⟩
  | dt ds => obtain ⟨xs, h, z, t⟩ := h; exact ⟨xs, k _ h, z, t.ex e⟩
  | obj c ds => obtain ⟨dx, xs, h, z, t⟩ := h; exact ⟨dx, xs, k _ h, z, t.ex e⟩
  | _ => exact (show False from h).elim
/-- the region with the object taken in -/
theorem OwnAt.froze {K : PySem.W.Frag} {S H : Hp} {l : Addr} {d : D} (h : OwnAt K S H l d) (hs : Sub S H) (hl : S l = none) :
    ∃ o, H l = some o ∧ Sub (upd S l o) H ∧ Ex S (upd S l o) ∧ Dat K (upd S l o) (.ref l) d := by
  obtain ⟨o, ho⟩ := h.there
  have e : Ex S (upd S l o) := Ex.new hl
  refine ⟨o, ho, hs.add ho, e, ?_⟩
  cases d with
  | lst ds => obtain ⟨xs, h, t⟩ := h; rw [h] at ho; cases ho; exact .lst upd_same (t.ex e)
  | dk ds => obtain ⟨xs, h, z, t⟩ := h; rw [h] at ho; cases ho; exact .dk upd_same z (t.ex e)
  | dt ds => obtain ⟨xs, h, z, t⟩ := h; rw [h] at ho; cases ho; exact .dt upd_same z (t.ex e)
  | obj c ds => obtain ⟨dx, xs, h, z, t⟩ := h; rw [h] at ho; cases ho; exact .obj upd_same z (t.ex e)
  | _ => exact (show False from h).elim

/-- the region grows, by new objects alone -/
structure Gr (S H S' H' : Hp) : Prop where
  ss : Ex S S'
  hh : Ex H H'
  nw : ∀ b o, S' b = some o → S b = none → H b = none
theorem Gr.refl (S H : Hp) : Gr S H S H := ⟨Same.refl _, Same.refl _, fun b o h n => by rw [n] at h; cases h⟩
theorem Gr.trans {S H S1 H1 S2 H2 : Hp} (a : Gr S H S1 H1) (b : Gr S1 H1 S2 H2) : Gr S H S2 H2 :=
  ⟨Same.trans a.ss b.ss, Same.trans a.hh b.hh, fun c o h n => by
    cases q : S1 c with
    | some u => exact a.nw c u q n
    | none => exact Ex.back a.hh (b.nw c o h q)⟩
theorem Gr.out {S H S' H' : Hp} (g : Gr S H S' H') {l : Addr} {o : HO} (h : S l = none) (ho : H l = some o) : S' l = none := by
  cases q : S' l with
  | none => rfl
  | some u =>
    have := g.nw l u q h
    rw [ho] at this; cases this

def SlotOk (K : PySem.W.Frag) (H0 S H : Hp) (σ : St) (i : Nat) : Slot → Prop
  | .un => True
  | .sh d => ∃ v, σ[i]? = some (some v) ∧ Dat K S v d
  | .ow d => ∃ l, σ[i]? = some (some (.ref l)) ∧ S l = none ∧ H0 l = none ∧ OwnAt K S H l d
  | .tw _ _ => True
/-- a new tuple of a new dict with tuple keys and a datum -/
def TwAt (K : PySem.W.Frag) (S H' : Hp) (v : V) (ks : List (List Key × D)) (d : D) (nw : Addr → Prop) : Prop := ∃ l p kvs y, v = .ref l ∧ l ≠ p ∧ nw l ∧ nw p ∧ H' l = some (.tup [.ref p, y]) ∧ H' p = some (.dT kvs) ∧ kvs.map (·.1) = ks.map (·.1) ∧ Dats K S (kvs.map (·.2)) (ks.map (·.2)) ∧ Dat K S y d
theorem TwAt.mono {K : PySem.W.Frag} {S H' : Hp} {v : V} {ks : List (List Key × D)} {d : D} {nw nw' : Addr → Prop} (h : TwAt K S H' v ks d nw) (k : ∀ a, nw a → nw' a) : TwAt K S H' v ks d nw' := by
  obtain ⟨l, p, kvs, y, h1, h2, h3, h4, r⟩ := h
  exact ⟨l, p, kvs, y, h1, h2, k _ h3, k _ h4, r⟩
def isOw : Slot → Bool
  | .ow _ => true
  | _ => false
/-- where a def stands: H0, S0 its entry (the heap; what of it is known), S, H now -/
structure Ok (K : PySem.W.Frag) (H0 S0 S H : Hp) (σ : St) (γ : Gm) : Prop where
  h0 : Ex H0 H
  s0 : Ex S0 S
  sh : Sub S H
  nw : ∀ b o, S b = some o → S0 b = none → H0 b = none
  len : σ.length = γ.length
  en : ∀ (i : Nat) (s : Slot), γ[i]? = some s → SlotOk K H0 S H σ i s
  ds : ∀ (i j : Nat) (d e : D) (l : Addr), γ[i]? = some (.ow d) → γ[j]? = some (.ow e) → σ[i]? = some (some (.ref l)) → σ[j]? = some (some (.ref l)) → i = j
theorem SlotOk.grow {K : PySem.W.Frag} {H0 S H S' H' : Hp} {σ : St} {i : Nat} {s : Slot} (h : SlotOk K H0 S H σ i s) (g : Gr S H S' H') : SlotOk K H0 S' H' σ i s := by
  cases s with
  | un => trivial
  | tw ks d => trivial
  | sh d => obtain ⟨v, e, h⟩ := h; exact ⟨v, e, h.ex g.ss⟩
  | ow d =>
    obtain ⟨l, e, h1, h2, h⟩ := h
    obtain ⟨o, ho⟩ := h.there
    exact ⟨l, e, g.out h1 ho, h2, h.mono g.ss fun o q => g.hh l o q⟩
theorem Ok.grow {K : PySem.W.Frag} {H0 S0 S H S' H' : Hp} {σ : St} {γ : Gm} (k : Ok K H0 S0 S H σ γ) (g : Gr S H S' H') (s : Sub S' H') : Ok K H0 S0 S' H' σ γ where
  h0 := Same.trans k.h0 g.hh
  s0 := Same.trans k.s0 g.ss
  sh := s
  nw := fun b o h n => by
    cases q : S b with
    | some u => exact k.nw b u q n
    | none => exact Ex.back k.h0 (g.nw b o h q)
  len := k.len
  en := fun i s h => (k.en i s h).grow g
  ds := k.ds

/-! ### results -/
def ResOk (K : PySem.W.Frag) (S' H H' : Hp) (v : V) : Slot → Prop
  | .un => True
  | .sh d => Dat K S' v d
  | .ow d => ∃ l, v = .ref l ∧ S' l = none ∧ H l = none ∧ OwnAt K S' H' l d
  | .tw ks d => TwAt K S' H' v ks d fun a => S' a = none ∧ H a = none
/-- what an expression comes to -/
def EvD (K : PySem.W.Frag) (te : TE) (γ : Gm) (r : Slot) : Prop := ∀ (H0 S0 S H : Hp) (σ : St), Ok K H0 S0 S H σ γ → ∀ Q : VK,
  (∀ v S' H', Gr S H S' H' → Sub S' H' → ResOk K S' H H' v r → Q v H') → te σ H Q
def EvT (K : PySem.W.Frag) (tt : TT) (γ : Gm) (b : Bool) : Prop := ∀ (H0 S0 S H : Hp) (σ : St), Ok K H0 S0 S H σ γ → ∀ Q : Bool → Hp → Prop,
  (∀ S' H', Gr S H S' H' → Sub S' H' → Q b H') → tt σ H Q
def EvA (K : PySem.W.Frag) (ta : TA) (γ : Gm) (ds : List D) : Prop := ∀ (H0 S0 S H : Hp) (σ : St), Ok K H0 S0 S H σ γ → ∀ Q : List V → Hp → Prop,
  (∀ vs S' H', Gr S H S' H' → Sub S' H' → Dats K S' vs ds → Q vs H') → ta σ H Q
section
variable {K : PySem.W.Frag} {te : TE} {γ : Gm} {r : Slot} {d : D}
/-- a new object may be shared -/
theorem ResOk.share {S' H H' : Hp} {v : V} (h : ResOk K S' H H' v (.ow d)) (s : Sub S' H') {S : Hp} (g : Gr S H S' H') : ∃ S2, Gr S H S2 H' ∧ Sub S2 H' ∧ Dat K S2 v d := by
  obtain ⟨l, rfl, h1, h2, h⟩ := h
  obtain ⟨o, ho, a, b, c⟩ := h.froze s h1
  refine ⟨upd S' l o, ⟨Same.trans g.ss b, g.hh, fun b u q n => ?_⟩, a, c⟩
  by_cases e : b = l
  · subst e; exact h2
  · rw [upd_ne e] at q; exact g.nw b u q n
theorem EvD.share (h : EvD K te γ (.ow d)) : EvD K te γ (.sh d) := fun H0 S0 S H σ k Q q => h H0 S0 S H σ k Q fun v S' H' g s r => by
  obtain ⟨S2, g2, s2, x⟩ := r.share s g
  exact q v S2 H' g2 s2 x
theorem EvD.drop (h : EvD K te γ r) : EvD K te γ .un := fun H0 S0 S H σ k Q q => h H0 S0 S H σ k Q fun v S' H' g s _ => q v S' H' g s trivial
end
end Wd
set_option Elab.async false
set_option linter.all false
set_option maxRecDepth 100000
set_option maxHeartbeats 1000000
/-! Rules over data: judgements of a family of contexts (a def's body; a comprehension's blocks). -/
namespace Wd
open PySem PySem.Spec L2
open PyProof.Rows hiding St

structure Fx {ι : Type} (Xs : ι → Cx) (P : Program) (w : World) (K : PySem.W.Frag) (mg : Str → Option Value) (base : Heap) (N : List Str) (k : Nat) : Prop where
  hP : ∀ i, (Xs i).prog = P
  hw : ∀ i, (Xs i).w = w
  hK : ∀ i, (Xs i).K = K
  hmg : ∀ i, (Xs i).mg = mg
  hb : ∀ i, (Xs i).base = base
  hN : ∀ i, (Xs i).N = N
  nd : N.Nodup
  calm : ∀ i, (Xs i).calm = true
  room : ∀ i, Room k (Xs i).A

section
variable {ι : Type} (Xs : ι → Cx)
def anyE (e : Expr) : TE := fun σ H Q => ∃ t, (∀ i, PE (Xs i) e t) ∧ t σ H Q
def anyT (e : Expr) : TT := fun σ H Q => ∃ t, (∀ i, PT (Xs i) e t) ∧ t σ H Q
def anyA (es : List Expr) : TA := fun σ H Q => ∃ t, (∀ i, PA (Xs i) es t) ∧ t σ H Q
def anyG (e : Expr) : TG := fun v σ H Q => ∃ t, (∀ i, PG (Xs i) e t) ∧ t v σ H Q
def anyS (s : Stmt) : TS := fun D σ H => ∃ t, (∀ i, PS (Xs i) s t) ∧ t D σ H
def anySs (s : List Stmt) : TS := fun D σ H => ∃ t, (∀ i, PSs (Xs i) s t) ∧ t D σ H
end
section
variable {ι : Type} {Xs : ι → Cx}
theorem pe_any (e : Expr) (i : ι) : PE (Xs i) e (anyE Xs e) := ⟨fun pins s σ H Q I ⟨t, h, q⟩ => (h i).run pins s σ H Q I q⟩
theorem pt_any (e : Expr) (i : ι) : PT (Xs i) e (anyT Xs e) := ⟨fun pins s σ H Q I ⟨t, h, q⟩ => (h i).run pins s σ H Q I q⟩
theorem pa_any (e : List Expr) (i : ι) : PA (Xs i) e (anyA Xs e) := ⟨fun pos pins s σ H Q I ⟨t, h, q⟩ => (h i).run pos pins s σ H Q I q⟩
theorem pg_any (e : Expr) (i : ι) : PG (Xs i) e (anyG Xs e) := ⟨fun pins s σ H v u Q I r ⟨t, h, q⟩ => (h i).run pins s σ H v u Q I r q⟩
theorem ps_any (e : Stmt) (i : ι) : PS (Xs i) e (anyS Xs e) := ⟨fun pins s σ H D I ⟨t, h, q⟩ => (h i).run pins s σ H D I q⟩
theorem pss_any (e : List Stmt) (i : ι) : PSs (Xs i) e (anySs Xs e) := ⟨fun pins s σ H D I ⟨t, h, q⟩ => (h i).run pins s σ H D I q⟩
end

def PED (K : PySem.W.Frag) {ι : Type} (Xs : ι → Cx) (e : Expr) (γ : Gm) (r : Slot) : Prop := EvD K (anyE Xs e) γ r
def PTD (K : PySem.W.Frag) {ι : Type} (Xs : ι → Cx) (e : Expr) (γ : Gm) (b : Bool) : Prop := EvT K (anyT Xs e) γ b
def PAD (K : PySem.W.Frag) {ι : Type} (Xs : ι → Cx) (es : List Expr) (γ : Gm) (ds : List D) : Prop := EvA K (anyA Xs es) γ ds
/-- two values of such data come to such a result -/
def RD (K : PySem.W.Frag) (r : R2) (d1 d2 : D) (rs : Slot) : Prop := ∀ (S H : Hp) (x y : V), Sub S H → Dat K S x d1 → Dat K S y d2 → ∀ Q : VK,
  (∀ v S' H', Gr S H S' H' → Sub S' H' → ResOk K S' H H' v rs → Q v H') → r x y H Q
def RU (K : PySem.W.Frag) (r : V → Hp → VK → Prop) (d1 : D) (rs : Slot) : Prop := ∀ (S H : Hp) (x : V), Sub S H → Dat K S x d1 → ∀ Q : VK,
  (∀ v S' H', Gr S H S' H' → Sub S' H' → ResOk K S' H H' v rs → Q v H') → r x H Q
def RC (K : PySem.W.Frag) (r : List V → Hp → VK → Prop) (ds : List D) (rs : Slot) : Prop := ∀ (S H : Hp) (xs : List V), Sub S H → Dats K S xs ds → ∀ Q : VK,
  (∀ v S' H', Gr S H S' H' → Sub S' H' → ResOk K S' H H' v rs → Q v H') → r xs H Q

section
variable {K : PySem.W.Frag} {S S' H H1 H' : Hp} {v : V} {d d1 d2 : D} {rs : Slot} {γ : Gm} {p : Addr} {o : HO}
theorem ResOk.back (h : ResOk K S' H1 H' v rs) (e : Ex H H1) : ResOk K S' H H' v rs := by
  cases rs with
  | un => trivial
  | sh d => exact h
  | ow d => obtain ⟨l, a, b, c, z⟩ := h; exact ⟨l, a, b, Ex.back e c, z⟩
  | tw ks d => exact TwAt.mono h fun a z => ⟨z.1, Ex.back e z.2⟩
theorem Sub.out (s : Sub S H) (h : H p = none) : S p = none := by
  cases q : S p with
  | none => rfl
  | some o =>
    rcases s p o q with z | ⟨ob, z, _⟩ <;> (rw [h] at z; cases z)
/-- a new object that the def alone holds -/
theorem new_ow (s : Sub S H) (hp : H p = none) (ho : OwnAt K S (upd H p o) p d) {Q : VK} (q : ∀ v S' H', Gr S H S' H' → Sub S' H' → ResOk K S' H H' v (.ow d) → Q v H') : Q (.ref p) (upd H p o) :=
  q _ S _ ⟨Same.refl _, Ex.new hp, fun b u h n => by rw [n] at h; cases h⟩ (s.ex (Ex.new hp)) ⟨p, rfl, s.out hp, hp, ho⟩
/-- a new object that stays -/
theorem new_sh (s : Sub S H) (hp : H p = none) (ho : Dat K (upd S p o) (.ref p) d) {Q : VK} (q : ∀ v S' H', Gr S H S' H' → Sub S' H' → ResOk K S' H H' v (.sh d) → Q v H') : Q (.ref p) (upd H p o) :=
  q _ (upd S p o) _ ⟨Ex.new (s.out hp), Ex.new hp, fun b u h n => by
    by_cases e : b = p
    · subst e; exact hp
    · rw [upd_ne e, n] at h; cases h⟩ s.upd ho
theorem new_tup (s : Sub S H) {xs : List V} {ds : List D} (hp : H p = none) (hd : Dats K S xs ds) {Q : VK} (q : ∀ v S' H', Gr S H S' H' → Sub S' H' → ResOk K S' H H' v (.sh (.tup ds)) → Q v H') : Q (.ref p) (upd H p (.tup xs)) :=
  new_sh s hp (.tup upd_same (hd.ex (Ex.new (s.out hp)))) q
theorem new_lst (s : Sub S H) {xs : List V} {ds : List D} (hp : H p = none) (hd : Dats K S xs ds) {Q : VK} (q : ∀ v S' H', Gr S H S' H' → Sub S' H' → ResOk K S' H H' v (.ow (.lst ds)) → Q v H') : Q (.ref p) (upd H p (.lst xs)) :=
  new_ow (d := .lst ds) s hp (show OwnAt K S (upd H p (.lst xs)) p (.lst ds) from ⟨xs, upd_same, hd⟩) q
/-- nothing is made -/
theorem here (s : Sub S H) (h : Dat K S v d) {Q : VK} (q : ∀ v S' H', Gr S H S' H' → Sub S' H' → ResOk K S' H H' v (.sh d) → Q v H') : Q v H := q v S H (Gr.refl _ _) s h
end

/-! ### combination -/
section
variable {K : PySem.W.Frag} {ta tb te : TE} {tl : TA} {tt tu : TT} {γ : Gm} {d d1 d2 : D} {ds : List D} {rs : Slot} {r : R2} {b c : Bool}
theorem evd_op (ha : EvD K ta γ (.sh d1)) (hb : EvD K tb γ (.sh d2)) (hr : RD K r d1 d2 rs) : EvD K (tOp r ta tb) γ rs := fun H0 S0 S H σ k Q q =>
  ha _ _ _ _ σ k _ fun x S1 H1 g1 s1 r1 => hb _ _ _ _ σ (k.grow g1 s1) _ fun y S2 H2 g2 s2 r2 =>
    hr S2 H2 x y s2 (Dat.ex g2.ss r1) r2 Q fun v S3 H3 g3 s3 r3 => q v S3 H3 ((g1.trans g2).trans g3) s3 (r3.back (g1.trans g2).hh)
theorem evd_un {r : V → Hp → VK → Prop} (ha : EvD K ta γ (.sh d1)) (hr : RU K r d1 rs) : EvD K (tUn r ta) γ rs := fun H0 S0 S H σ k Q q =>
  ha _ _ _ _ σ k _ fun x S1 H1 g1 s1 r1 => hr S1 H1 x s1 r1 Q fun v S3 H3 g3 s3 r3 => q v S3 H3 (g1.trans g3) s3 (r3.back g1.hh)
theorem evd_cb {r : List V → Hp → VK → Prop} (ha : EvA K tl γ ds) (hr : RC K r ds rs) : EvD K (tCB r tl) γ rs := fun H0 S0 S H σ k Q q =>
  ha _ _ _ _ σ k _ fun x S1 H1 g1 s1 r1 => hr S1 H1 x s1 r1 Q fun v S3 H3 g3 s3 r3 => q v S3 H3 (g1.trans g3) s3 (r3.back g1.hh)
theorem evd_c {v : V} (h : ∀ S, Dat K S v d) : EvD K (tC v) γ (.sh d) := fun H0 S0 S H σ k Q q => q v S H (Gr.refl _ _) k.sh (h S)
theorem eva_nil : EvA K tNil γ [] := fun H0 S0 S H σ k Q q => q [] S H (Gr.refl _ _) k.sh .nil
theorem eva_cons (ha : EvD K ta γ (.sh d)) (hb : EvA K tl γ ds) : EvA K (tCons ta tl) γ (d :: ds) := fun H0 S0 S H σ k Q q =>
  ha _ _ _ _ σ k _ fun x S1 H1 g1 s1 r1 => hb _ _ _ _ σ (k.grow g1 s1) _ fun xs S2 H2 g2 s2 r2 => q (x :: xs) S2 H2 (g1.trans g2) s2 (.cons (Dat.ex g2.ss r1) r2)
theorem evt_test (ha : EvD K ta γ (.sh (.bl b))) : EvT K (tTest ta) γ b := fun H0 S0 S H σ k Q q => ha _ _ _ _ σ k _ fun x S1 H1 g1 s1 r1 => by
  cases r1; exact ⟨b, rfl, q S1 H1 g1 s1⟩
theorem evt_B (ha : EvD K ta γ (.sh (.bl b))) : EvT K (tB ta) γ b := fun H0 S0 S H σ k Q q => ha _ _ _ _ σ k _ fun x S1 H1 g1 s1 r1 => by
  cases r1; exact ⟨b, rfl, q S1 H1 g1 s1⟩
theorem evt_not (ha : EvT K tt γ b) : EvT K (tNot tt) γ (!b) := fun H0 S0 S H σ k Q q => ha _ _ _ _ σ k _ fun S1 H1 g1 s1 => q S1 H1 g1 s1
theorem evt_and (ha : EvT K tt γ b) (hb : b = true → EvT K tu γ c) : EvT K (tAnd tt tu) γ (b && c) := fun H0 S0 S H σ k Q q => ha _ _ _ _ σ k _ fun S1 H1 g1 s1 => by
  cases b with
  | true => exact iteT (hb rfl _ _ _ _ σ (k.grow g1 s1) _ fun S2 H2 g2 s2 => q S2 H2 (g1.trans g2) s2)
  | false => exact iteF (q S1 H1 g1 s1)
theorem evt_or (ha : EvT K tt γ b) (hb : b = false → EvT K tu γ c) : EvT K (tOr tt tu) γ (b || c) := fun H0 S0 S H σ k Q q => ha _ _ _ _ σ k _ fun S1 H1 g1 s1 => by
  cases b with
  | true => exact iteT (q S1 H1 g1 s1)
  | false => exact iteF (hb rfl _ _ _ _ σ (k.grow g1 s1) _ fun S2 H2 g2 s2 => q S2 H2 (g1.trans g2) s2)
theorem evd_if (ha : EvT K tt γ b) (h1 : b = true → EvD K ta γ rs) (h2 : b = false → EvD K tb γ rs) : EvD K (tIf tt ta tb) γ rs := fun H0 S0 S H σ k Q q => ha _ _ _ _ σ k _ fun S1 H1 g1 s1 => by
  cases b with
  | true => exact iteT (h1 rfl _ _ _ _ σ (k.grow g1 s1) _ fun v S2 H2 g2 s2 r => q v S2 H2 (g1.trans g2) s2 (r.back g1.hh))
  | false => exact iteF (h2 rfl _ _ _ _ σ (k.grow g1 s1) _ fun v S2 H2 g2 s2 r => q v S2 H2 (g1.trans g2) s2 (r.back g1.hh))
theorem evd_andV (ha : EvD K ta γ (.sh (.bl b))) (hb : b = true → EvD K tb γ (.sh (.bl c))) : EvD K (tAndV ta tb) γ (.sh (.bl (b && c))) := fun H0 S0 S H σ k Q q => ha _ _ _ _ σ k _ fun x S1 H1 g1 s1 r1 => by
  cases r1
  refine ⟨b, rfl, ?_⟩
  cases b with
  | true => exact iteT (hb rfl _ _ _ _ σ (k.grow g1 s1) _ fun v S2 H2 g2 s2 r => q v S2 H2 (g1.trans g2) s2 r)
  | false => exact iteF (q _ S1 H1 g1 s1 .bl)
theorem evd_orV (ha : EvD K ta γ (.sh (.bl b))) (hb : b = false → EvD K tb γ (.sh (.bl c))) : EvD K (tOrV ta tb) γ (.sh (.bl (b || c))) := fun H0 S0 S H σ k Q q => ha _ _ _ _ σ k _ fun x S1 H1 g1 s1 r1 => by
  cases r1
  refine ⟨b, rfl, ?_⟩
  cases b with
  | true => exact iteT (q _ S1 H1 g1 s1 .bl)
  | false => exact iteF (hb rfl _ _ _ _ σ (k.grow g1 s1) _ fun v S2 H2 g2 s2 r => q v S2 H2 (g1.trans g2) s2 r)
theorem evd_tup (ha : EvA K tl γ ds) (hl : ds.length ≤ sizeLine) : EvD K (tTup tl) γ (.sh (.tup ds)) := fun H0 S0 S H σ k Q q => ha _ _ _ _ σ k _ fun xs S1 H1 g1 s1 r1 =>
  ⟨by rw [r1.length]; exact hl, fun p hp => new_tup s1 hp r1 (Q := Q) fun v S' H' g s r => q v S' H' (g1.trans g) s (r.back g1.hh)⟩
theorem evd_lst (ha : EvA K tl γ ds) (hl : ds.length ≤ sizeLine) : EvD K (tLst tl) γ (.ow (.lst ds)) := fun H0 S0 S H σ k Q q => ha _ _ _ _ σ k _ fun xs S1 H1 g1 s1 r1 =>
  ⟨by rw [r1.length]; exact hl, fun p hp => new_lst s1 hp r1 (Q := Q) fun v S' H' g s r => q v S' H' (g1.trans g) s (r.back g1.hh)⟩
end

/-! ### expressions -/
section
variable {ι : Type} {Xs : ι → Cx} {P : Program} {w : World} {K : PySem.W.Frag} {mg : Str → Option Value} {base : Heap} {N : List Str} {k : Nat} {γ : Gm} {d d1 d2 : D} {ds : List D} {rs : Slot} {e a b c : Expr} {es : List Expr} {pos : Pos} {x : Str} {tv tw : Bool}
theorem PED.of {t : TE} (h : ∀ i, PE (Xs i) e t) (ev : EvD K t γ rs) : PED K Xs e γ rs := fun H0 S0 S H σ k Q q => ⟨t, h, ev H0 S0 S H σ k Q q⟩
theorem PTD.of {t : TT} (h : ∀ i, PT (Xs i) e t) (ev : EvT K t γ tv) : PTD K Xs e γ tv := fun H0 S0 S H σ k Q q => ⟨t, h, ev H0 S0 S H σ k Q q⟩
theorem PAD.of {t : TA} (h : ∀ i, PA (Xs i) es t) (ev : EvA K t γ ds) : PAD K Xs es γ ds := fun H0 S0 S H σ k Q q => ⟨t, h, ev H0 S0 S H σ k Q q⟩
theorem PED.share (h : PED K Xs e γ (.ow d)) : PED K Xs e γ (.sh d) := EvD.share h
theorem pd_var (fx : Fx Xs P w K mg base N k) (i : Nat) (hN : N[i]? = some x := by rfl) (hg : γ[i]? = some (.sh d) := by rfl) (hv : ∀ j, Vis (Xs j).env.scope x := by first | exact fun _ => Or.inl rfl | exact fun _ => Or.inr (Or.inl rfl) | exact fun _ => Or.inr (Or.inr rfl))
    (hd : (x == ("__debug__" : Str)) = false := by decide) (hcd : (x == ("__classdict__" : Str)) = false := by decide) : PED K Xs (.Name x pos) γ (.sh d) :=
  .of (fun j => pe_var (by rw [fx.hN]; exact hN) (hv j) hd hcd) fun H0 S0 S H σ k Q q => by
    obtain ⟨v, e, h⟩ := k.en i _ hg
    exact ⟨v, e, q v S H (Gr.refl _ _) k.sh h⟩
theorem pd_int {i : Int} {j} : PED K Xs (.Constant (.int i) j pos) γ (.sh (.int i)) := .of (fun _ => pe_int) (evd_c fun _ => .int)
theorem pd_str {z : Str} {j} : PED K Xs (.Constant (.str z) j pos) γ (.sh (.str z)) := .of (fun _ => pe_str) (evd_c fun _ => .str)
theorem pd_bl {z : Bool} {j} : PED K Xs (.Constant (.bool z) j pos) γ (.sh (.bl z)) := .of (fun _ => pe_bl) (evd_c fun _ => .bl)
theorem pd_non {j} : PED K Xs (.Constant .none j pos) γ (.sh .non) := .of (fun _ => pe_non) (evd_c fun _ => .non)
theorem pd_op {op : Operator} {r : R2} (ho : ∀ i, OpR (Xs i) (binaryOp op) r) (ha : PED K Xs a γ (.sh d1)) (hb : PED K Xs b γ (.sh d2)) (hr : RD K r d1 d2 rs) : PED K Xs (.BinOp a op b pos) γ rs :=
  .of (fun i => pe_op (ho i) (pe_any a i) (pe_any b i)) (evd_op ha hb hr)
theorem pd_un {op : UnaryOp} {r : V → Hp → VK → Prop} (ho : ∀ i, UnR (Xs i) (unaryOp op) r) (ha : PED K Xs a γ (.sh d1)) (hr : RU K r d1 rs) : PED K Xs (.UnaryOp op a pos) γ rs :=
  .of (fun i => pe_un (ho i) (pe_any a i)) (evd_un ha hr)
theorem pd_cmp {op : CmpOp} {r : R2} (ho : ∀ i, OpR (Xs i) (compareOp op) r) (hm : behindInMarks op b = false) (ha : PED K Xs a γ (.sh d1)) (hb : PED K Xs b γ (.sh d2)) (hr : RD K r d1 d2 rs) : PED K Xs (.Compare a [op] [b] pos) γ rs :=
  .of (fun i => pe_cmpR (ho i) (pe_any a i) (pe_any b i) hm) (evd_op ha hb hr)
theorem ptd_cmp {op : CmpOp} {r : R2} (ho : ∀ i, OpR (Xs i) (compareOp op) r) (hm : behindInMarks op b = false) (ha : PED K Xs a γ (.sh d1)) (hb : PED K Xs b γ (.sh d2)) (hr : RD K r d1 d2 (.sh (.bl tv))) : PTD K Xs (.Compare a [op] [b] pos) γ tv :=
  .of (fun i => pt_cmpR (ho i) (pe_any a i) (pe_any b i) hm) (evt_test (evd_op ha hb hr))
theorem pad_nil : PAD K Xs [] γ [] := .of (fun _ => pa_nil) eva_nil
theorem pad_cons (ha : PED K Xs e γ (.sh d)) (hr : PAD K Xs es γ ds) (hs : ∀ i, starEach (e :: es) (Xs i).env = (false, eval e (Xs i).env) :: starEach es (Xs i).env := by exact fun _ => rfl) : PAD K Xs (e :: es) γ (d :: ds) :=
  .of (fun i => pa_cons (pe_any e i) (pa_any es i) (hs i)) (eva_cons ha hr)
end
end Wd
set_option Elab.async false
set_option linter.all false
set_option maxRecDepth 100000
set_option maxHeartbeats 1000000
/-! Operators, comparisons, subscripts, displays, fields over data. -/
namespace Wd
open PySem PySem.Spec L2
open PyProof.Rows hiding St

theorem OpR.or {X : Cx} {f : Value → Value → Sem Value} {r r' : R2} (h : OpR X f r) (h' : OpR X f r') : OpR X f (fun x y H Q => r x y H Q ∨ r' x y H Q) := fun pins s σ H x y v u Q I rx ry q =>
  q.elim (fun q => h pins s σ H x y v u Q I rx ry q) fun q => h' pins s σ H x y v u Q I rx ry q
theorem pe_or2 {X : Cx} {e : Expr} {t u : TE} (h : PE X e t) (h' : PE X e u) : PE X e (fun σ H Q => t σ H Q ∨ u σ H Q) := ⟨fun pins s σ H Q I q => q.elim (fun q => h.run pins s σ H Q I q) fun q => h'.run pins s σ H Q I q⟩

/-! ### data: keys, look-ups -/
def keyD : Key → D
  | .inl i => .int i
  | .inr x => .str x
def getK {κ α : Type} [DecidableEq κ] : List (κ × α) → κ → Option α
  | [], _ => none
  | p :: r, k => if p.1 = k then some p.2 else getK r k
def putG {κ α : Type} [DecidableEq κ] : List (κ × α) → κ → α → List (κ × α)
  | [], k, v => [(k, v)]
  | p :: r, k, v => if p.1 = k then (k, v) :: r else p :: putG r k v
section
variable {κ α : Type} [DecidableEq κ]
theorem getK_put (l : List (κ × α)) (k j : κ) (v : α) : getK (putG l k v) j = if k = j then some v else getK l j := by
  induction l with
  | nil => simp [putG, getK]
  | cons p r ih =>
    unfold putG
    by_cases e : p.1 = k
    · rw [if_pos e]
      unfold getK
      by_cases h : k = j
      · simp [h]
      · simp [h, e]
    · rw [if_neg e]
      unfold getK
      by_cases h : p.1 = j
      · rw [if_pos h, if_pos h, if_neg (fun z => e (h.trans z.symm))]
      · rw [if_neg h, if_neg h, ih]
theorem keys_put (l : List (κ × α)) (k : κ) (v : α) : (putG l k v).map (·.1) = if k ∈ l.map (·.1) then l.map (·.1) else l.map (·.1) ++ [k] := by
  induction l with
  | nil => simp [putG]
  | cons p r ih =>
    unfold putG
    by_cases e : p.1 = k
    · rw [if_pos e]; simp [e]
    · rw [if_neg e, List.map_cons, ih]
      by_cases h : k ∈ r.map (·.1)
      · rw [if_pos h, if_pos (by rw [List.map_cons]; exact List.mem_cons_of_mem _ h)]; rfl
      · rw [if_neg h, if_neg (by rw [List.map_cons, List.mem_cons]; exact fun z => z.elim (fun z => e z.symm) h)]; rfl
end
section
variable {K : PySem.W.Frag} {S H : Hp} {κ : Type} [DecidableEq κ]
theorem getV_of : ∀ {kvs : List (κ × V)} {ds : List (κ × D)} {k : κ} {d : D}, kvs.map (·.1) = ds.map (·.1) → Dats K S (kvs.map (·.2)) (ds.map (·.2)) → getK ds k = some d → ∃ v, valV kvs k = some v ∧ Dat K S v d
  | [], [], _, _, _, _, h => nomatch h
  | [], _ :: _, _, _, h, _, _ => nomatch h
  | _ :: _, [], _, _, h, _, _ => nomatch h
  | (a, v) :: kvs, (b, e) :: ds, k, d, h, t, g => by
    have h1 : a = b := (List.cons.inj h).1
    have h2 := (List.cons.inj h).2
    cases t with
    | cons t1 t2 =>
      unfold getK at g
      by_cases c : b = k
      · rw [if_pos c] at g; cases g
        exact ⟨v, valV_pos (p := (a, v)) (h1.trans c), t1⟩
      · rw [if_neg c] at g
        obtain ⟨x, hx, hd⟩ := getV_of h2 t2 g
        exact ⟨x, (valV_neg (p := (a, v)) (fun z => c (h1.symm.trans z))).trans hx, hd⟩
theorem getV_none : ∀ {kvs : List (κ × V)} {ds : List (κ × D)} {k : κ}, kvs.map (·.1) = ds.map (·.1) → getK ds k = none → valV kvs k = none
  | [], [], _, _, _ => rfl
  | [], _ :: _, _, h, _ => nomatch h
  | _ :: _, [], _, h, _ => nomatch h
  | (a, v) :: kvs, (b, e) :: ds, k, h, g => by
    have h1 : a = b := (List.cons.inj h).1
    have h2 := (List.cons.inj h).2
    unfold getK at g
    by_cases c : b = k
    · rw [if_pos c] at g; cases g
    · rw [if_neg c] at g
      exact (valV_neg (p := (a, v)) (fun z => c (h1.symm.trans z))).trans (getV_none h2 g)
theorem getV_isSome {kvs : List (κ × V)} {ds : List (κ × D)} {k : κ} (h : kvs.map (·.1) = ds.map (·.1)) (t : Dats K S (kvs.map (·.2)) (ds.map (·.2))) : (valV kvs k).isSome = (getK ds k).isSome := by
  cases e : getK ds k with
  | none => rw [getV_none h e]; rfl
  | some d => obtain ⟨v, hv, _⟩ := getV_of h t e; rw [hv]; rfl
/-- putK and putG: the same where no key stands twice -/
theorem putV_of : ∀ {kvs : List (κ × V)} {ds : List (κ × D)} {k : κ} {v : V} {d : D}, kvs.map (·.1) = ds.map (·.1) → (ds.map (·.1)).Nodup → Dats K S (kvs.map (·.2)) (ds.map (·.2)) → Dat K S v d →
    (putK kvs k v).map (·.1) = (putG ds k d).map (·.1) ∧ Dats K S ((putK kvs k v).map (·.2)) ((putG ds k d).map (·.2)) := by
  intro kvs ds k v d h nd t hv
  by_cases hk : k ∈ ds.map (·.1)
  · have e : putK kvs k v = kvs.map (fun kv => if kv.1 = k then (kv.1, v) else kv) := by
      unfold putK
      rw [if_pos]
      rw [List.any_eq_true]
      rw [← h] at hk
      obtain ⟨p, hp, e⟩ := List.mem_map.mp hk
      exact ⟨p, hp, decide_eq_true e⟩
    rw [e]
    clear e
    induction kvs generalizing ds with
    | nil =>
      cases ds with
      | nil => cases hk
      | cons p r => cases h
    | cons p kvs ih =>
      cases ds with
      | nil => cases h
      | cons q ds =>
        obtain ⟨a, x⟩ := p
        obtain ⟨b, y⟩ := q
        have h1 : a = b := (List.cons.inj h).1
        have h2 := (List.cons.inj h).2
        have nd2 : b ∉ ds.map (·.1) ∧ (ds.map (·.1)).Nodup := List.nodup_cons.mp nd
        cases t with
        | cons t1 t2 =>
          subst h1
          unfold putG
          rw [List.map_cons]
          by_cases c : a = k
          · subst c
            simp only [if_true]
            have e2 : kvs.map (fun kv => if kv.1 = a then (kv.1, v) else kv) = kvs := by
              have : ∀ p ∈ kvs, (if p.1 = a then (p.1, v) else p) = p := fun p hp => if_neg fun z => nd2.1 (by rw [← h2, ← z]; exact List.mem_map_of_mem hp)
              rw [List.map_congr_left this]; simp
            rw [e2]
            exact ⟨by simp only [List.map_cons]; rw [h2], .cons hv t2⟩
          · simp only [if_neg c]
            have hk2 : k ∈ ds.map (·.1) := by
              rcases List.mem_cons.mp hk with z | z
              · exact absurd z.symm c
              · exact z
            obtain ⟨i1, i2⟩ := ih h2 nd2.2 t2 hk2
            exact ⟨by simp only [List.map_cons]; rw [i1], .cons t1 i2⟩
  · have e : putK kvs k v = kvs ++ [(k, v)] := by
      unfold putK
      rw [if_neg]
      rw [List.any_eq_true]
      rintro ⟨p, hp, e⟩
      exact hk (by rw [← h, ← of_decide_eq_true e]; exact List.mem_map_of_mem hp)
    have e2 : ∀ ds : List (κ × D), k ∉ ds.map (·.1) → putG ds k d = ds ++ [(k, d)] := by
      intro ds
      induction ds with
      | nil => intro _; rfl
      | cons p r ih =>
        intro hn
        unfold putG
        rw [if_neg (fun z => hn (by rw [List.map_cons, z]; exact List.mem_cons_self)), ih (fun z => hn (by rw [List.map_cons]; exact List.mem_cons_of_mem _ z))]
        rfl
    rw [e, e2 ds hk]
    exact ⟨by rw [List.map_append, List.map_append, h]; rfl, by rw [List.map_append, List.map_append]; exact t.snoc hv⟩
end

/-! ### + -/
inductive AddD : D → D → Slot → Prop
  | int {i j} : AddD (.int i) (.int j) (.sh (.int (i + j)))
  | str {x y} : x.length + y.length ≤ sizeLine → AddD (.str x) (.str y) (.sh (.str (x ++ y)))
  | lst {x y} : x.length + y.length ≤ sizeLine → AddD (.lst x) (.lst y) (.ow (.lst (x ++ y)))
  | tup {x y} : x.length + y.length ≤ sizeLine → AddD (.tup x) (.tup y) (.sh (.tup (x ++ y)))
def rAddU (K : PySem.W.Frag) : R2 := fun x y H Q => rI0 (fun i j => .int (i + j)) x y H Q ∨ (fun x y H Q => (fun x y H Q => ∃ i j, x = .str i ∧ y = .str j ∧ i.length + j.length ≤ sizeLine ∧ Q (.str (i ++ j)) H : R2) x y H Q ∨ (fun x y H Q => rCat x y H Q ∨ rCatA K x y H Q : R2) x y H Q : R2) x y H Q
theorem op_addU {X : Cx} : OpR X (binaryOp .Add) (rAddU X.K) := OpR.or op_add (OpR.or op_add_str (OpR.or op_cat op_catA))
theorem rd_add {K : PySem.W.Frag} {d1 d2 : D} {rs : Slot} (h : AddD d1 d2 rs) : RD K (rAddU K) d1 d2 rs := by
  intro S H x y s h1 h2 Q q
  cases h with
  | int => cases h1; cases h2; exact .inl ⟨_, _, rfl, rfl, here s .int q⟩
  | str hl => cases h1; cases h2; exact .inr (.inl ⟨_, _, rfl, rfl, hl, here s .str q⟩)
  | lst hl =>
    cases h1 with
    | lst a1 t1 =>
      cases h2 with
      | lst a2 t2 => exact .inr (.inr (.inl ⟨_, _, _, _, rfl, rfl, s.lst a1, s.lst a2, by rw [t1.length, t2.length]; exact hl, fun p hp => new_lst s hp (t1.append t2) q⟩))
  | tup hl =>
    cases h1 with
    | tup a1 t1 =>
      cases h2 with
      | tup a2 t2 =>
        refine .inr (.inr (.inr ⟨_, _, _, _, rfl, rfl, .of (s.tup a1), .of (s.tup a2), by rw [t1.length, t2.length]; exact hl, fun e => ?_, fun _ e => ?_, fun _ _ p hp => new_tup s hp (t1.append t2) q⟩))
        · subst e; cases t1; exact here s (.tup a2 t2) q
        · subst e; cases t2; rw [List.append_nil] at q; exact here s (.tup a1 t1) q
theorem rd_sub {K : PySem.W.Frag} {i j : Int} : RD K (rI0 fun i j => .int (i - j)) (.int i) (.int j) (.sh (.int (i - j))) := fun S H x y s h1 h2 Q q => by cases h1; cases h2; exact ⟨_, _, rfl, rfl, here s .int q⟩
theorem rd_mul {K : PySem.W.Frag} {i j : Int} (h : CMul i j) : RD K (rI CMul fun i j => .int (i * j)) (.int i) (.int j) (.sh (.int (i * j))) := fun S H x y s h1 h2 Q q => by cases h1; cases h2; exact ⟨_, _, rfl, rfl, h, here s .int q⟩
theorem rd_fdiv {K : PySem.W.Frag} {i j : Int} (h : CDiv i j) : RD K (rI CDiv fun i j => .int (i / j)) (.int i) (.int j) (.sh (.int (i / j))) := fun S H x y s h1 h2 Q q => by cases h1; cases h2; exact ⟨_, _, rfl, rfl, h, here s .int q⟩
theorem rd_fdivN {K : PySem.W.Frag} {i j : Int} (h : CDivN i j) : RD K (rI CDivN fun i j => .int (i.fdiv j)) (.int i) (.int j) (.sh (.int (i.fdiv j))) := fun S H x y s h1 h2 Q q => by cases h1; cases h2; exact ⟨_, _, rfl, rfl, h, here s .int q⟩
theorem rd_mod {K : PySem.W.Frag} {i j : Int} (h : 0 < j) : RD K (rI (fun _ j => 0 < j) fun i j => .int (i % j)) (.int i) (.int j) (.sh (.int (i % j))) := fun S H x y s h1 h2 Q q => by cases h1; cases h2; exact ⟨_, _, rfl, rfl, h, here s .int q⟩
theorem rd_pow {K : PySem.W.Frag} {i j : Int} (h : CPow i j) : RD K (rI CPow fun i j => .int (i ^ j.toNat)) (.int i) (.int j) (.sh (.int (i ^ j.toNat))) := fun S H x y s h1 h2 Q q => by cases h1; cases h2; exact ⟨_, _, rfl, rfl, h, here s .int q⟩

/-! ### comparisons -/
inductive CmpI : CmpOp → Int → Int → Bool → Prop
  | lt {i j} : CmpI .Lt i j (decide (i < j))
  | le {i j} : CmpI .LtE i j (decide (i ≤ j))
  | gt {i j} : CmpI .Gt i j (decide (j < i))
  | ge {i j} : CmpI .GtE i j (decide (j ≤ i))
/-- flat data as values -/
def dV : D → Option V
  | .non => some .non
  | .bl b => some (.bl b)
  | .int i => some (.int i)
  | .str x => some (.str x)
  | _ => none
theorem dV_of {K : PySem.W.Frag} {S : Hp} {v x : V} {d : D} (h : Dat K S v d) (e : dV d = some x) : v = x ∧ flatV x = true := by
  cases h <;> (first | (cases e; exact ⟨rfl, rfl⟩) | cases e)
theorem dVs_of {K : PySem.W.Frag} {S : Hp} : ∀ {vs xs : List V} {ds : List D}, Dats K S vs ds → ds.map dV = xs.map some → vs = xs ∧ xs.all flatV = true
  | _, [], _, .nil, _ => ⟨rfl, rfl⟩
  | _, _ :: _, _, .nil, e => nomatch e
  | _, [], _, .cons _ _, e => nomatch e
  | _, x :: xs, _, .cons h t, e => by
    rw [List.map_cons, List.map_cons] at e
    obtain ⟨e1, e2⟩ := List.cons.inj e
    obtain ⟨rfl, f⟩ := dV_of h e1
    obtain ⟨rfl, g⟩ := dVs_of t e2
    exact ⟨rfl, by rw [List.all_cons, f, g] <;> rfl⟩
/-- lists to be read -/
inductive IsL : D → List D → Prop
  | lst {ds} : IsL (.lst ds) ds
  | ro {ds} : IsL (.ro ds) ds
inductive IsT : D → List D → Prop
  | tup {ds} : IsT (.tup ds) ds
  | rot {ds} : IsT (.rot ds) ds
theorem isL_of {K : PySem.W.Frag} {S H : Hp} {v : V} {d : D} {ds : List D} (h : IsL d ds) (x : Dat K S v d) (s : Sub S H) : ∃ a xs, v = .ref a ∧ SqL K H a xs ∧ Dats K S xs ds := by
  cases h with
  | lst => cases x with | lst a t => exact ⟨_, _, rfl, SqL.of (s.lst a), t⟩
  | ro => cases x with | ro a t => exact ⟨_, _, rfl, s.seqL a, t⟩
theorem isT_of {K : PySem.W.Frag} {S H : Hp} {v : V} {d : D} {ds : List D} (h : IsT d ds) (x : Dat K S v d) (s : Sub S H) : ∃ a xs, v = .ref a ∧ SqT K H a xs ∧ Dats K S xs ds := by
  cases h with
  | tup => cases x with | tup a t => exact ⟨_, _, rfl, SqT.of (s.tup a), t⟩
  | rot => cases x with | rot a t => exact ⟨_, _, rfl, s.seqT a, t⟩

/-! ### a[b] -/
theorem atI_map {α β : Type} {xs : List α} {ys : List β} {i : Int} {y : β} (hl : xs.length = ys.length) (h : atI ys i = some y) : ∃ j : Nat, ys[j]? = some y ∧ ∀ x, xs[j]? = some x → atI xs i = some x := by
  unfold atI at h
  cases e : ixN ys.length i with
  | none => rw [e] at h; cases h
  | some j =>
    rw [e] at h
    exact ⟨j, h, fun x hx => by unfold atI; rw [hl, e]; exact hx⟩
inductive IxD : D → D → D → Prop
  | lst {c ds i d} : IsL c ds → atI ds i = some d → IxD c (.int i) d
  | tup {c ds i d} : IsT c ds → atI ds i = some d → IxD c (.int i) d
  | str {z : Str} {i c} : z.length ≤ sizeLine → atI z.cps.toList i = some c → IxD (.str z) (.int i) (.str ⟨#[c]⟩)
  | dki {ds i d} : getK ds (Sum.inl i : Key) = some d → IxD (.dk ds) (.int i) d
  | dks {ds x d} : getK ds (Sum.inr x : Key) = some d → IxD (.dk ds) (.str x) d
  | dt {ds ks d} {k : List Key} : ks = k.map keyD → getK ds k = some d → IxD (.dt ds) (.tup ks) d
theorem keys_of {K : PySem.W.Frag} {S : Hp} : ∀ {xs : List V} {k : List Key}, Dats K S xs (k.map keyD) → xs = k.map kV
  | [], [], _ => rfl
  | [], _ :: _, h => nomatch h
  | _ :: _, [], h => nomatch h
  | _ :: _, .inl i :: k, .cons h t => by cases h; rw [List.map_cons, keys_of t]; rfl
  | _ :: _, .inr i :: k, .cons h t => by cases h; rw [List.map_cons, keys_of t]; rfl
theorem kV_of {K : PySem.W.Frag} {S : Hp} {v : V} {k : Key} (h : Dat K S v (keyD k)) : v = kV k := by
  cases k <;> (cases h; rfl)
section
variable {ι : Type} {Xs : ι → Cx} {P : Program} {w : World} {K : PySem.W.Frag} {mg : Str → Option Value} {base : Heap} {N : List Str} {k : Nat} {γ : Gm} {d d1 d2 : D} {ds : List D} {rs : Slot} {e a b c : Expr} {es : List Expr} {pos : Pos} {x : Str} {tv tw : Bool}
theorem evd_or {t u : TE} (h : EvD K t γ rs ∨ EvD K u γ rs) : EvD K (fun σ H Q => t σ H Q ∨ u σ H Q) γ rs := fun H0 S0 S H σ k Q q => h.elim (fun h => .inl (h H0 S0 S H σ k Q q)) fun h => .inr (h H0 S0 S H σ k Q q)
theorem Fx.hu (fx : Fx Xs P w K mg base N k) (i : ι) : (Xs i).A.units + 1 < cLine := hu_of (fx.room i)
theorem Fx.hu64 (fx : Fx Xs P w K mg base N k) (i : ι) : (Xs i).A.units + 64 < cLine := (fx.room i).units
theorem pd_sub (fx : Fx Xs P w K mg base N k) (ha : PED K Xs a γ (.sh d1)) (hb : PED K Xs b γ (.sh d2)) (h : IxD d1 d2 d) (hs : PlainIx b := by exact fun _ _ => rfl) : PED K Xs (.Subscript a b pos) γ (.sh d) := by
  refine .of (t := fun σ H Q => tOp (rIx K) (anyE Xs a) (anyE Xs b) σ H Q ∨ tDGet (anyE Xs a) (anyE Xs b) σ H Q) (fun i => pe_or2 ?_ (pe_dget (fx.hu i) (pe_any a i) (pe_any b i) hs)) (evd_or ?_)
  · have z := pe_ix (pos := pos) (ix_seq (X := Xs i)) (pe_any a i) (pe_any b i) hs
    rw [fx.hK i] at z
    exact z
  · have dg : ∀ {y : V} {v : V} {S H : Hp} {p : Addr} {ob : HO}, True → True := fun _ => trivial
    cases h with
    | lst hl hi =>
      refine .inl (evd_op ha hb fun S H x y s h1 h2 Q q => .inl ?_)
      obtain ⟨p, xs, rfl, hq, t⟩ := isL_of hl h1 s
      cases h2
      obtain ⟨j, e1, e2⟩ := atI_map t.length hi
      obtain ⟨v, hv, hd⟩ := t.get e1
      exact ⟨p, xs, _, v, rfl, rfl, hq, e2 v hv, here s hd q⟩
    | tup hl hi =>
      refine .inl (evd_op ha hb fun S H x y s h1 h2 Q q => .inr (.inl ?_))
      obtain ⟨p, xs, rfl, hq, t⟩ := isT_of hl h1 s
      cases h2
      obtain ⟨j, e1, e2⟩ := atI_map t.length hi
      obtain ⟨v, hv, hd⟩ := t.get e1
      exact ⟨p, xs, _, v, rfl, rfl, hq, e2 v hv, here s hd q⟩
    | str hl hi =>
      refine .inl (evd_op ha hb fun S H x y s h1 h2 Q q => .inr (.inr ?_))
      cases h1; cases h2
      exact ⟨_, _, _, rfl, rfl, hl, hi, here s .str q⟩
    | dki hg =>
      refine .inr (show EvD K (tOp (fun x y H2 Q => ∃ a v, x = .ref a ∧ DGet H2 a y (some v) ∧ Q v H2) (anyE Xs a) (anyE Xs b)) γ (.sh d) from evd_op ha hb fun S H x y s h1 h2 Q q => ?_)
      cases h1 with
      | dk a1 k1 t1 =>
        cases h2
        obtain ⟨v, hv, hd⟩ := getV_of k1 t1 hg
        exact ⟨_, v, rfl, .inl ⟨_, _, s.rd (.inl a1), rfl, hv.symm⟩, here s hd q⟩
    | dks hg =>
      refine .inr (show EvD K (tOp (fun x y H2 Q => ∃ a v, x = .ref a ∧ DGet H2 a y (some v) ∧ Q v H2) (anyE Xs a) (anyE Xs b)) γ (.sh d) from evd_op ha hb fun S H x y s h1 h2 Q q => ?_)
      cases h1 with
      | dk a1 k1 t1 =>
        cases h2
        obtain ⟨v, hv, hd⟩ := getV_of k1 t1 hg
        exact ⟨_, v, rfl, .inl ⟨_, _, s.rd (.inl a1), rfl, hv.symm⟩, here s hd q⟩
    | dt hk hg =>
      refine .inr (show EvD K (tOp (fun x y H2 Q => ∃ a v, x = .ref a ∧ DGet H2 a y (some v) ∧ Q v H2) (anyE Xs a) (anyE Xs b)) γ (.sh d) from evd_op ha hb fun S H x y s h1 h2 Q q => ?_)
      cases h1 with
      | dt a1 k1 t1 =>
        subst hk
        cases h2 with
        | tup a2 t2 =>
          obtain ⟨v, hv, hd⟩ := getV_of k1 t1 hg
          have e2 := keys_of t2
          subst e2
          exact ⟨_, v, rfl, .inr ⟨_, _, _, s.rd (.inl a1), rfl, s.tup a2, hv.symm⟩, here s hd q⟩
end
end Wd
set_option Elab.async false
set_option linter.all false
set_option maxRecDepth 100000
set_option maxHeartbeats 1000000
/-! Calls, fields, built-ins over data. -/
namespace Wd
open PySem PySem.Spec L2
open PyProof.Rows hiding St

/-! ### promises -/
/-- a def's promise by data: P tells for which arguments, and what comes out -/
def spD (K : PySem.W.Frag) (Pr : List D → Slot → Prop) : Sp := fun vs H Q _ => ∃ (S : Hp) (ds : List D) (r : Slot), Sub S H ∧ Dats K S vs ds ∧ Pr ds r ∧ ∀ v S' H', Gr S H S' H' → Sub S' H' → ResOk K S' H H' v r → Q v H'
/-- the promise of an __init__: the new object's fields -/
def spI (K : PySem.W.Frag) (c : Str) (Pr : List D → List (Str × D) → Prop) : Sp := fun vs H Q _ => ∃ (S : Hp) (x dx : Addr) (us : List V) (ds : List D) (fs : List (Str × D)), vs = .ref x :: us ∧ Sub S H ∧ S x = none ∧ H x = some (.ins (He.ga K c) dx []) ∧ Dats K S us ds ∧ Pr ds fs ∧
  ∀ S' H', Ex S S' → (∀ b o, H b = some o → b ≠ x → H' b = some o) → (∀ b o, S' b = some o → S b = none → H b = none) → Sub S' H' → OwnAt K S' H' x (.obj c fs) → Q .non H'

section
variable {ι : Type} {Xs : ι → Cx} {P : Program} {w : World} {K : PySem.W.Frag} {mg : Str → Option Value} {base : Heap} {N : List Str} {k j : Nat} {γ : Gm} {d d1 d2 : D} {ds dd : List D} {rs : Slot} {e a b c o : Expr} {es : List Expr} {pos apos p : Pos} {x m : Str} {tv tw : Bool} {f : Addr} {fd : FuncData} {ps : List Str} {Pr : List D → Slot → Prop} {dvs : List V} {dus : List Value}
theorem Fx.fn (fx : Fx Xs P w K mg base N k) {sp : Sp} (G : FnOk P w K mg base (L2.CX P w) j f fd ps sp) (i : ι) : FnOk (Xs i).prog (Xs i).w (Xs i).K (Xs i).mg (Xs i).base (L2.CX (Xs i).prog (Xs i).w) j f fd ps sp := by
  rw [fx.hP i, fx.hw i, fx.hK i, fx.hmg i, fx.hb i]
  exact G
theorem Fx.binds (fx : Fx Xs P w K mg base N k) (B : Binds K fd ps dus) (i : ι) : Binds (Xs i).K fd ps dus := by rw [fx.hK i]; exact B
theorem evd_call {tl : TA} (ha : EvA K tl γ ds) (hd : ∀ S, Dats K S dvs dd) (h : Pr (ds ++ dd) rs) : EvD K (tCall (spD K Pr) dvs E0 tl) γ rs := fun H0 S0 S H σ k Q q =>
  ha _ _ _ _ σ k _ fun vs S1 H1 g1 s1 r1 => ⟨S1, ds ++ dd, rs, s1, r1.append (hd S1), h, fun v S2 H2 g2 s2 r2 => q v S2 H2 (g1.trans g2) s2 (r2.back g1.hh)⟩
/-- f(e, ..) -/
theorem pd_call (fx : Fx Xs P w K mg base N k) (G : FnOk P w K mg base (L2.CX P w) j f fd ps (spD K Pr)) (hm : mg x = some (.ref f)) (hk : PySem.W.keepIn K (.ref f) = true) (B : Binds K fd ps dus) (hv : Vals dvs dus) (hd : ∀ S, Dats K S dvs dd)
    (ha : PAD K Xs (e :: es) γ ds) (h : Pr (ds ++ dd) rs) (hj : j ≤ k := by decide) (hg : ∀ i, Gl (Xs i) x := by exact fun _ => rfl) (hdb : (x == ("__debug__" : Str)) = false := by decide)
    (he : ∀ i, starEach (e :: es) (Xs i).env = (false, eval e (Xs i).env) :: starEach es (Xs i).env := by exact fun _ => rfl) (hpl : ∀ i, (backTo pos (starEach es (Xs i).env)).any (·.1) = false := by exact fun _ => rfl) : PED K Xs (.Call (.Name x p) (e :: es) [] pos) γ rs :=
  .of (fun i => pe_call (fx.fn G i) ((fx.room i).mono hj) (hg i) (by rw [fx.hmg i]; exact hm) (by rw [fx.hK i]; exact hk) (fx.binds B i) hv passL (pa_any (e :: es) i) hdb (he i) (hpl i)) (evd_call ha hd h)
/-- f() -/
theorem pd_call0 (fx : Fx Xs P w K mg base N k) (G : FnOk P w K mg base (L2.CX P w) j f fd ps (spD K Pr)) (hm : mg x = some (.ref f)) (hk : PySem.W.keepIn K (.ref f) = true) (B : Binds K fd ps dus) (hv : Vals dvs dus) (hd : ∀ S, Dats K S dvs dd)
    (h : Pr dd rs) (hj : j ≤ k := by decide) (hg : ∀ i, Gl (Xs i) x := by exact fun _ => rfl) (hdb : (x == ("__debug__" : Str)) = false := by decide) : PED K Xs (.Call (.Name x p) [] [] pos) γ rs :=
  .of (fun i => pe_call0 (fx.fn G i) ((fx.room i).mono hj) (hg i) (by rw [fx.hmg i]; exact hm) (by rw [fx.hK i]; exact hk) (fx.binds B i) hv passL hdb) (evd_call (ds := []) eva_nil hd h)
theorem lookup_map {α β : Type} {f : Str} : ∀ {xs : List (Str × α)} {ys : List (Str × β)}, xs.map (·.1) = ys.map (·.1) → ys.lookup f = none → xs.lookup f = none
  | [], _, _, _ => rfl
  | _ :: _, [], h, _ => nomatch h
  | (a, u) :: xs, (b, v) :: ys, h, g => by
    have h1 : a = b := (List.cons.inj h).1
    have h2 := (List.cons.inj h).2
    subst h1
    unfold List.lookup at g ⊢
    cases e : f == a with
    | true => rw [e] at g; cases g
    | false => rw [e] at g; exact lookup_map h2 g
theorem lookup_dat {S : Hp} {f : Str} {d : D} : ∀ {xs : List (Str × V)} {ys : List (Str × D)}, xs.map (·.1) = ys.map (·.1) → Dats K S (xs.map (·.2)) (ys.map (·.2)) → ys.lookup f = some d → ∃ v, xs.lookup f = some v ∧ Dat K S v d
  | [], [], _, _, g => nomatch g
  | [], _ :: _, h, _, _ => nomatch h
  | _ :: _, [], h, _, _ => nomatch h
  | (a, u) :: xs, (b, v) :: ys, h, t, g => by
    have h1 : a = b := (List.cons.inj h).1
    have h2 := (List.cons.inj h).2
    subst h1
    cases t with
    | cons t1 t2 =>
      unfold List.lookup at g ⊢
      cases e : f == a with
      | true => rw [e] at g; cases g; exact ⟨u, rfl, t1⟩
      | false => rw [e] at g; exact lookup_dat h2 t2 g
/-- o.f -/
theorem pd_fld (fx : Fx Xs P w K mg base N k) {cn f : Str} {fs : List (Str × D)} (ho : PED K Xs o γ (.sh (.obj cn fs))) (hc : Cls K (He.ga K cn)) (hn : NoAttr K (He.ga K cn) f) (hl : fs.lookup f = some d)
    (hb : ∀ i, attributeBase o f (Xs i).env (eval o (Xs i).env) = eval o (Xs i).env := by exact fun _ => rfl) : PED K Xs (.Attribute o f pos) γ (.sh d) := by
  refine .of (t := tFld K (anyE Xs o) f) (fun i => ?_) fun H0 S0 S H σ k Q q => ho H0 S0 S H σ k _ fun v S1 H1 g1 s1 r1 => ?_
  · have z := pe_fld (pos := pos) (pe_any o i) (hb i)
    rw [fx.hK i] at z
    exact z
  · cases r1 with
    | obj a1 k1 t1 =>
      obtain ⟨v, hv, hd⟩ := lookup_dat k1 t1 hl
      exact ⟨_, _, _, _, v, rfl, s1.ins a1, hc, hn, hv, q v S1 H1 g1 s1 hd⟩
/-- o.m(e, ..), an own method -/
theorem pd_meth (fx : Fx Xs P w K mg base N k) {cn : Str} {fs : List (Str × D)} {pl : ι → Sem Bool} (ho : PED K Xs o γ (.sh (.obj cn fs))) (hc : Cls K (He.ga K cn)) (hm : Meth K (He.ga K cn) m f) (G : FnOk P w K mg base (L2.CX P w) j f fd ps (spD K Pr)) (B : Binds K fd ps dus) (hv : Vals dvs dus) (hd : ∀ S, Dats K S dvs dd)
    (ha : PAD K Xs (e :: es) γ ds) (hl : fs.lookup m = none) (h : Pr (.obj cn fs :: (ds ++ dd)) rs) (hj : j ≤ k := by decide) (he : ∀ i, starEach (e :: es) (Xs i).env = (false, eval e (Xs i).env) :: starEach es (Xs i).env := by exact fun _ => rfl) (hpl : ∀ i, (backTo pos (starEach es (Xs i).env)).any (·.1) = false := by exact fun _ => rfl)
    (ht : ∀ i, eval (.Call (.Attribute o m apos) (e :: es) [] pos) (Xs i).env = (do
      let ov ← eval o (Xs i).env
      standAt apos.atName
      let (f, first) ← holding [ov] (getMethod ov m (pl i))
      callWith pos f first (backTo pos (starEach (e :: es) (Xs i).env)) (backToKw pos (keywordEach [] (Xs i).env))) := by exact fun _ => rfl) : PED K Xs (.Call (.Attribute o m apos) (e :: es) [] pos) γ rs := by
  refine .of (t := tMeth (He.ga K cn) m (spD K Pr) dvs E0 (anyE Xs o) (anyA Xs (e :: es))) (fun i => ?_) fun H0 S0 S H σ k Q q => ho H0 S0 S H σ k _ fun v S1 H1 g1 s1 r1 => ?_
  · have hK := fx.hK i
    exact pe_meth (pl := pl i) (pe_any o i) (by rw [hK]; exact hc) (by rw [hK]; exact hm) (fx.fn G i) ((fx.room i).mono hj) (fx.binds B i) hv passL (pa_any (e :: es) i) (he i) (hpl i) (ht i)
  · cases id r1 with
    | obj a1 k1 t1 =>
      refine ⟨_, _, _, rfl, s1.ins a1, lookup_map k1 hl, ha H0 S0 S1 H1 σ (k.grow g1 s1) _ fun vs S2 H2 g2 s2 r2 => ?_⟩
      exact ⟨S2, _, rs, s2, .cons (Dat.ex g2.ss r1) (r2.append (hd S2)), h, fun v S3 H3 g3 s3 r3 => q v S3 H3 ((g1.trans g2).trans g3) s3 (r3.back (g1.trans g2).hh)⟩
theorem pd_meth0 (fx : Fx Xs P w K mg base N k) {cn : Str} {fs : List (Str × D)} {pl : ι → Sem Bool} (ho : PED K Xs o γ (.sh (.obj cn fs))) (hc : Cls K (He.ga K cn)) (hm : Meth K (He.ga K cn) m f) (G : FnOk P w K mg base (L2.CX P w) j f fd ps (spD K Pr)) (B : Binds K fd ps dus) (hv : Vals dvs dus) (hd : ∀ S, Dats K S dvs dd)
    (hl : fs.lookup m = none) (h : Pr (.obj cn fs :: dd) rs) (hj : j ≤ k := by decide)
    (ht : ∀ i, eval (.Call (.Attribute o m apos) [] [] pos) (Xs i).env = (do
      let ov ← eval o (Xs i).env
      standAt apos.atName
      let (f, first) ← holding [ov] (getMethod ov m (pl i))
      callWith pos f first (backTo pos (starEach [] (Xs i).env)) (backToKw pos (keywordEach [] (Xs i).env))) := by exact fun _ => rfl) : PED K Xs (.Call (.Attribute o m apos) [] [] pos) γ rs := by
  refine .of (t := tMeth (He.ga K cn) m (spD K Pr) dvs E0 (anyE Xs o) tNil) (fun i => ?_) fun H0 S0 S H σ k Q q => ho H0 S0 S H σ k _ fun v S1 H1 g1 s1 r1 => ?_
  · have hK := fx.hK i
    exact pe_meth0 (pl := pl i) (pe_any o i) (by rw [hK]; exact hc) (by rw [hK]; exact hm) (fx.fn G i) ((fx.room i).mono hj) (fx.binds B i) hv passL (ht i)
  · cases id r1 with
    | obj a1 k1 t1 =>
      refine ⟨_, _, _, rfl, s1.ins a1, lookup_map k1 hl, ?_⟩
      exact ⟨S1, _, rs, s1, .cons r1 (hd S1), h, fun v S3 H3 g3 s3 r3 => q v S3 H3 (g1.trans g3) s3 (r3.back g1.hh)⟩
/-- C(e, ..), a new object -/
theorem pd_make (fx : Fx Xs P w K mg base N k) {cn : Str} {fs : List (Str × D)} {Pi : List D → List (Str × D) → Prop} (M : Mk K (He.ga K cn) f) (G : FnOk P w K mg base (L2.CX P w) j f fd ps (spI K cn Pi)) (hm : mg x = some (.ref (He.ga K cn))) (B : Binds K fd ps dus) (hv : Vals dvs dus) (hd : ∀ S, Dats K S dvs dd)
    (ha : PAD K Xs (e :: es) γ ds) (h : Pi (ds ++ dd) fs) (hj : j + 1 ≤ k := by decide) (hg : ∀ i, Gl (Xs i) x := by exact fun _ => rfl) (hdb : (x == ("__debug__" : Str)) = false := by decide)
    (he : ∀ i, starEach (e :: es) (Xs i).env = (false, eval e (Xs i).env) :: starEach es (Xs i).env := by exact fun _ => rfl) (hpl : ∀ i, (backTo pos (starEach es (Xs i).env)).any (·.1) = false := by exact fun _ => rfl) : PED K Xs (.Call (.Name x p) (e :: es) [] pos) γ (.ow (.obj cn fs)) := by
  refine .of (t := tMake (He.ga K cn) (spI K cn Pi) dvs E0 (anyA Xs (e :: es))) (fun i => ?_) fun H0 S0 S H σ k Q q => ha H0 S0 S H σ k _ fun vs S1 H1 g1 s1 r1 y dx hy hdx hne => ?_
  · have hK := fx.hK i
    exact pe_make (by rw [hK]; exact M) (fx.fn G i) ((fx.room i).mono hj) (hg i) (by rw [fx.hmg i]; exact hm) (fx.binds B i) hv passL (pa_any (e :: es) i) hdb (he i) (hpl i)
  · have e1 : Ex H1 (upd H1 dx (.own y)) := Ex.new hdx
    have hy2 : (upd H1 dx (.own y)) y = none := by rw [upd_ne (fun z => hne z.symm)]; exact hy
    have e2 : Ex H1 (upd (upd H1 dx (.own y)) y (.ins (He.ga K cn) dx [])) := Same.trans e1 (Ex.new hy2)
    refine ⟨S1, y, dx, _, ds ++ dd, fs, rfl, s1.ex e2, s1.out hy, upd_same, r1.append (hd S1), h, fun S' H' es' keep nw s' ow => ⟨rfl, ?_⟩⟩
    have nwS : ∀ b o, S' b = some o → S1 b = none → H1 b = none := fun b o hb hn => Ex.back e2 (nw b o hb hn)
    have g2 : Gr S1 H1 S' H' := ⟨es', fun b o hb => keep b o (e2 b o hb) (fun z => by subst z; rw [hy] at hb; cases hb), nwS⟩
    have hys : S' y = none := by
      cases z : S' y with
      | none => rfl
      | some u =>
        have := nw y u z (s1.out hy)
        rw [upd_same] at this
        cases this
    exact q _ S' H' (g1.trans g2) s' ⟨y, rfl, hys, Ex.back g1.hh hy, ow⟩

/-! ### tests, and, or, not, a choice -/
theorem ptd_val (h : PED K Xs e γ (.sh (.bl tv))) (he : ∀ i, ∀ whole, isTrue e (Xs i).env whole = (do let v ← whole; standAt e.pos; holding [v] (truthy v)) := by exact fun _ _ => rfl) : PTD K Xs e γ tv :=
  .of (fun i => pt_val (pe_any e i) (he i)) (evt_B h)
theorem ptd_not (h : PTD K Xs a γ tv) : PTD K Xs (.UnaryOp .Not a pos) γ (!tv) := .of (fun i => pt_not (pt_any a i)) (evt_not h)
def anyW (Xs : ι → Cx) (e : Expr) : TT := fun σ H Q => ∃ t, (∀ i, PW (Xs i) e t) ∧ t σ H Q
theorem pw_any (e : Expr) (i : ι) : PW (Xs i) e (anyW Xs e) := ⟨fun whole pins s σ H Q I ⟨t, h, q⟩ => (h i).run whole pins s σ H Q I q⟩
def PWD (K : PySem.W.Frag) (Xs : ι → Cx) (e : Expr) (γ : Gm) (b : Bool) : Prop := EvT K (anyW Xs e) γ b
theorem PWD.of {t : TT} (h : ∀ i, PW (Xs i) e t) (ev : EvT K t γ tv) : PWD K Xs e γ tv := fun H0 S0 S H σ k Q q => ⟨t, h, ev H0 S0 S H σ k Q q⟩
theorem PWD.t (h : PWD K Xs e γ tv) : PTD K Xs e γ tv := .of (fun i => (pw_any e i).pt) h
theorem pwd_and1 (ha : PTD K Xs a γ tv) : PWD K Xs (.BoolOp .And [a] pos) γ tv := .of (fun i => pw_and1 (pt_any a i)) ha
theorem pwd_or1 (ha : PTD K Xs a γ tv) : PWD K Xs (.BoolOp .Or [a] pos) γ tv := .of (fun i => pw_or1 (pt_any a i)) ha
theorem pwd_and (ha : PTD K Xs a γ tv) (hb : tv = true → PWD K Xs (.BoolOp .And (b :: es) pos) γ tw) : PWD K Xs (.BoolOp .And (a :: b :: es) pos) γ (tv && tw) :=
  .of (fun i => pw_and (pt_any a i) (pw_any _ i)) (evt_and ha hb)
theorem pwd_or (ha : PTD K Xs a γ tv) (hb : tv = false → PWD K Xs (.BoolOp .Or (b :: es) pos) γ tw) : PWD K Xs (.BoolOp .Or (a :: b :: es) pos) γ (tv || tw) :=
  .of (fun i => pw_or (pt_any a i) (pw_any _ i)) (evt_or ha hb)
theorem pd_one {op : BoolOp} (ha : PED K Xs a γ rs) : PED K Xs (.BoolOp op [a] pos) γ rs := .of (fun i => pe_one (pe_any a i)) ha
theorem pd_and (ha : PED K Xs a γ (.sh (.bl tv))) (hb : tv = true → PED K Xs (.BoolOp .And (b :: es) pos) γ (.sh (.bl tw))) : PED K Xs (.BoolOp .And (a :: b :: es) pos) γ (.sh (.bl (tv && tw))) :=
  .of (fun i => pe_and (pe_any a i) (pe_any _ i)) (evd_andV ha hb)
theorem pd_or (ha : PED K Xs a γ (.sh (.bl tv))) (hb : tv = false → PED K Xs (.BoolOp .Or (b :: es) pos) γ (.sh (.bl tw))) : PED K Xs (.BoolOp .Or (a :: b :: es) pos) γ (.sh (.bl (tv || tw))) :=
  .of (fun i => pe_or (pe_any a i) (pe_any _ i)) (evd_orV ha hb)
theorem pd_if (ht : PTD K Xs c γ tv) (h1 : tv = true → PED K Xs a γ rs) (h2 : tv = false → PED K Xs b γ rs) : PED K Xs (.IfExp c a b pos) γ rs := .of (fun i => pe_ifExp (pt_any c i) (pe_any a i) (pe_any b i)) (evd_if ht h1 h2)
theorem pd_tup {z} (h : PAD K Xs es γ ds) (hl : ds.length ≤ sizeLine := by exact Nat.le_of_ble_eq_true rfl) : PED K Xs (.Tuple es z pos) γ (.sh (.tup ds)) := .of (fun i => pe_tup (pa_any es i)) (evd_tup h hl)
theorem pd_lst (h : PAD K Xs es γ ds) (hl : ds.length ≤ sizeLine := by exact Nat.le_of_ble_eq_true rfl) : PED K Xs (.List es pos) γ (.ow (.lst ds)) := .of (fun i => pe_lst (pa_any es i)) (evd_lst h hl)

/-! ### built-ins by name -/
theorem pd_blt (fx : Fx Xs P w K mg base N k) {id : String} {r : List V → Hp → VK → Prop} (hc : ∀ i, CallR (Xs i) (.builtin id) r) (hm : mg x = none) (ha : PAD K Xs (e :: es) γ ds) (h : RC K r ds rs) (hv : bootBuiltins x = some (.builtin id) := by decide +kernel) (hg : ∀ i, Gl (Xs i) x := by exact fun _ => rfl) (hn : x ≠ "__name__" := by decide) (hdb : (x == ("__debug__" : Str)) = false := by decide)
    (he : ∀ i, starEach (e :: es) (Xs i).env = (false, eval e (Xs i).env) :: starEach es (Xs i).env := by exact fun _ => rfl) (hpl : ∀ i, (backTo pos (starEach es (Xs i).env)).any (·.1) = false := by exact fun _ => rfl) : PED K Xs (.Call (.Name x p) (e :: es) [] pos) γ rs :=
  .of (fun i => pe_callB (hc i) (hg i) (by rw [fx.hmg i]; exact hm) hv (pa_any (e :: es) i) hn hdb (he i) (hpl i)) (evd_cb ha h)
theorem pd_bty (fx : Fx Xs P w K mg base N k) {id : String} {r : List V → Hp → VK → Prop} (hc : ∀ i, CallR (Xs i) (.type id) r) (hm : mg x = none) (ha : PAD K Xs (e :: es) γ ds) (h : RC K r ds rs) (hv : bootBuiltins x = some (.type id) := by decide +kernel) (hg : ∀ i, Gl (Xs i) x := by exact fun _ => rfl) (hn : x ≠ "__name__" := by decide) (hdb : (x == ("__debug__" : Str)) = false := by decide)
    (he : ∀ i, starEach (e :: es) (Xs i).env = (false, eval e (Xs i).env) :: starEach es (Xs i).env := by exact fun _ => rfl) (hpl : ∀ i, (backTo pos (starEach es (Xs i).env)).any (·.1) = false := by exact fun _ => rfl) : PED K Xs (.Call (.Name x p) (e :: es) [] pos) γ rs :=
  .of (fun i => pe_callTy (hc i) (hg i) (by rw [fx.hmg i]; exact hm) hv (pa_any (e :: es) i) hn hdb (he i) (hpl i)) (evd_cb ha h)
theorem Fx.cast (fx : Fx Xs P w K mg base N k) {α : PySem.W.Frag → Prop} (i : ι) (h : α (Xs i).K) : α K := by rw [← fx.hK i]; exact h
end

/-- len -/
inductive LenD : D → Nat → Prop
  | lst {c ds} : IsL c ds → LenD c ds.length
  | tup {c ds} : IsT c ds → LenD c ds.length
  | str {z : Str} : z.length ≤ sizeLine → LenD (.str z) z.length
  | dk {ds} : LenD (.dk ds) ds.length
def rLenU (K : PySem.W.Frag) : List V → Hp → VK → Prop := fun xs H Q => (∃ p ys, xs = [.ref p] ∧ (SqL K H p ys ∨ SqT K H p ys) ∧ Q (.int ys.length) H) ∨ ((∃ z, xs = [.str z] ∧ z.length ≤ sizeLine ∧ Q (.int z.length) H) ∨ ∃ a kvs, xs = [.ref a] ∧ Rd H a (.dK kvs) ∧ Q (.int kvs.length) H)
theorem call_lenU {X : Cx} : CallR X (.builtin "len") (rLenU X.K) := CallR.or call_len_seq (CallR.or call_len_str fun pins s σ H xs us Q I r h => by
  obtain ⟨a, kvs, rfl, hd, q⟩ := h
  obtain ⟨u, rfl, rx⟩ := vals1 r
  cases rx
  exact d_len I hd fun t s' I' => ⟨.int kvs.length, H, I', ⟨t, rfl⟩, q⟩)
theorem rc_len {K : PySem.W.Frag} {d : D} {n : Nat} (h : LenD d n) : RC K (rLenU K) [d] (.sh (.int n)) := by
  intro S H xs s t Q q
  cases t with
  | cons t1 t2 =>
    cases t2
    cases h with
    | lst hl =>
      obtain ⟨a, ys, rfl, hq, t⟩ := isL_of hl t1 s
      exact .inl ⟨a, ys, rfl, .inl hq, by rw [t.length]; exact here s .int q⟩
    | tup hl =>
      obtain ⟨a, ys, rfl, hq, t⟩ := isT_of hl t1 s
      exact .inl ⟨a, ys, rfl, .inr hq, by rw [t.length]; exact here s .int q⟩
    | str hz => cases t1; exact .inr (.inl ⟨_, rfl, hz, here s .int q⟩)
    | @dk ds =>
      cases t1 with
      | @dk a kvs _ a1 k1 t1 =>
        have e : kvs.length = ds.length := by have := congrArg List.length k1; simpa using this
        exact .inr (.inr ⟨_, _, rfl, s.rd (.inl a1), by rw [e]; exact here s .int q⟩)
/-- list(..) -/
def rListU (K : PySem.W.Frag) : List V → Hp → VK → Prop := fun xs H Q => ∃ p ys, xs = [.ref p] ∧ (SqL K H p ys ∨ SqT K H p ys) ∧ ∀ l, H l = none → Q (.ref l) (upd H l (.lst ys))
theorem call_listU {X : Cx} : CallR X (.type "list") (rListU X.K) := call_list_of
theorem rc_list {K : PySem.W.Frag} {d : D} {ds : List D} (h : IsL d ds ∨ IsT d ds) : RC K (rListU K) [d] (.ow (.lst ds)) := by
  intro S H xs s t Q q
  cases t with
  | cons t1 t2 =>
    cases t2
    rcases h with h | h
    · obtain ⟨a, ys, rfl, hq, t⟩ := isL_of h t1 s
      exact ⟨a, ys, rfl, .inl hq, fun l hl => new_lst s hl t q⟩
    · obtain ⟨a, ys, rfl, hq, t⟩ := isT_of h t1 s
      exact ⟨a, ys, rfl, .inr hq, fun l hl => new_lst s hl t q⟩
/-- tuple(list) -/
def rTupU (K : PySem.W.Frag) : List V → Hp → VK → Prop := fun xs H Q => ∃ p ys, xs = [.ref p] ∧ ((SqL K H p ys ∧ ∀ l, H l = none → Q (.ref l) (upd H l (.tup ys))) ∨ (SqT K H p ys ∧ Q (.ref p) H))
theorem rc_tuple {K : PySem.W.Frag} {d : D} {ds : List D} (h : IsL d ds) : RC K (rTupU K) [d] (.sh (.tup ds)) := by
  intro S H xs s t Q q
  cases t with
  | cons t1 t2 =>
    cases t2
    obtain ⟨a, ys, rfl, hq, t⟩ := isL_of h t1 s
    exact ⟨a, ys, rfl, .inl ⟨hq, fun l hl => new_tup s hl t q⟩⟩
theorem rc_all {K : PySem.W.Frag} {d : D} {bs : List Bool} (h : IsL d (bs.map D.bl)) : RC K (rAll K) [d] (.sh (.bl (bs.all id))) := by
  intro S H xs s t Q q
  cases t with
  | cons t1 t2 =>
    cases t2
    obtain ⟨a, ys, rfl, hq, t⟩ := isL_of h t1 s
    exact ⟨a, bs, rfl, by rw [← t.bls]; exact hq, here s .bl q⟩
theorem rc_any {K : PySem.W.Frag} {d : D} {bs : List Bool} (h : IsL d (bs.map D.bl)) : RC K (rAny K) [d] (.sh (.bl (bs.any id))) := by
  intro S H xs s t Q q
  cases t with
  | cons t1 t2 =>
    cases t2
    obtain ⟨a, ys, rfl, hq, t⟩ := isL_of h t1 s
    exact ⟨a, bs, rfl, by rw [← t.bls]; exact hq, here s .bl q⟩
theorem rc_sum {K : PySem.W.Frag} {d : D} {ns : List Int} (h : IsL d (ns.map D.int)) : RC K (rSum K) [d] (.sh (.int ns.sum)) := by
  intro S H xs s t Q q
  cases t with
  | cons t1 t2 =>
    cases t2
    obtain ⟨a, ys, rfl, hq, t⟩ := isL_of h t1 s
    exact ⟨a, ns, rfl, by rw [← t.ints]; exact hq, here s .int q⟩
theorem rc_max {K : PySem.W.Frag} {d : D} {ns : List Int} {m : Int} (h : IsL d (ns.map D.int)) (h1 : m ∈ ns) (h2 : ∀ y ∈ ns, y ≤ m) : RC K (rMax K) [d] (.sh (.int m)) := by
  intro S H xs s t Q q
  cases t with
  | cons t1 t2 =>
    cases t2
    obtain ⟨a, ys, rfl, hq, t⟩ := isL_of h t1 s
    refine ⟨a, ns, rfl, by rw [← t.ints]; exact hq, List.length_pos_of_mem h1, fun m' hm hle => ?_⟩
    have e : m' = m := Int.le_antisymm (h2 m' hm) (hle m h1)
    rw [e]
    exact here s .int q
/-- dict(d) -/
def rDictD : List V → Hp → VK → Prop := fun xs H Q => ∃ (a : Addr) (kvs : List (Key × V)), xs = [.ref a] ∧ Rd H a (.dK kvs) ∧ ∀ p, H p = none → Q (.ref p) (upd H p (.dK kvs))
theorem rc_dict {K : PySem.W.Frag} {ds : List (Key × D)} : RC K rDictD [.dk ds] (.ow (.dk ds)) := by
  intro S H xs s t Q q
  cases t with
  | cons t1 t2 =>
    cases t2
    cases t1 with
    | @dk a kvs _ a1 k1 t1 => exact ⟨a, kvs, rfl, s.rd (.inl a1), fun p hp => new_ow (d := .dk ds) s hp (show OwnAt K S _ p (.dk ds) from ⟨kvs, upd_same, k1, t1⟩) q⟩
end Wd
set_option Elab.async false
set_option linter.all false
set_option maxRecDepth 100000
set_option maxHeartbeats 1000000
/-! Names stored, targets, statements, loops, comprehensions over data. -/
namespace Wd
open PySem PySem.Spec L2
open PyProof.Rows hiding St

/-! ### the names' state, changed -/
section
variable {K : PySem.W.Frag} {H0 S0 S H : Hp} {σ : St} {γ : Gm} {v : V} {d : D} {i : Nat} {p : Addr} {o : HO}
theorem Ok.put (k : Ok K H0 S0 S H σ γ) {s : Slot} {ov : Option V} (hi : i < γ.length) (hs : SlotOk K H0 S H (σ.set i ov) i s) (hd : ∀ (j : Nat) (e d' : D) (l : Addr), s = .ow d' → ov = some (.ref l) → γ[j]? = some (.ow e) → σ[j]? = some (some (.ref l)) → j = i) : Ok K H0 S0 S H (σ.set i ov) (γ.set i s) where
  h0 := k.h0
  s0 := k.s0
  sh := k.sh
  nw := k.nw
  len := by rw [List.length_set, List.length_set]; exact k.len
  en := fun j t h => by
    by_cases e : j = i
    · subst e
      rw [List.getElem?_set_self hi] at h
      cases h
      exact hs
    · rw [List.getElem?_set_ne (fun z => e z.symm)] at h
      have q := k.en j t h
      cases t with
      | un => trivial
      | tw _ _ => trivial
      | sh d => obtain ⟨v, a, b⟩ := q; exact ⟨v, by rw [List.getElem?_set_ne (fun z => e z.symm)]; exact a, b⟩
      | ow d => obtain ⟨l, a, b⟩ := q; exact ⟨l, by rw [List.getElem?_set_ne (fun z => e z.symm)]; exact a, b⟩
  ds := fun a b da db l ha hb hla hlb => by
    have hil : i < σ.length := by rw [k.len]; exact hi
    by_cases ea : a = i
    · subst ea
      by_cases eb : b = a
      · exact eb.symm
      · rw [List.getElem?_set_self hi] at ha
        rw [List.getElem?_set_self hil] at hla
        rw [List.getElem?_set_ne (fun z => eb z.symm)] at hb hlb
        exact (hd b db da l (Option.some.inj ha) (Option.some.inj hla) hb hlb).symm
    · by_cases eb : b = i
      · subst eb
        rw [List.getElem?_set_self hi] at hb
        rw [List.getElem?_set_self hil] at hlb
        rw [List.getElem?_set_ne (fun z => ea z.symm)] at ha hla
        exact hd a da db l (Option.some.inj hb) (Option.some.inj hlb) ha hla
      · rw [List.getElem?_set_ne (fun z => ea z.symm)] at ha hla
        rw [List.getElem?_set_ne (fun z => eb z.symm)] at hb hlb
        exact k.ds a b da db l ha hb hla hlb
theorem Ok.sh_ (k : Ok K H0 S0 S H σ γ) (hi : i < γ.length) (h : Dat K S v d) : Ok K H0 S0 S H (σ.set i (some v)) (γ.set i (.sh d)) :=
  k.put hi ⟨v, by rw [List.getElem?_set_self (by rw [k.len]; exact hi)], h⟩ fun j e d' l z => nomatch z
theorem Ok.un_ (k : Ok K H0 S0 S H σ γ) (hi : i < γ.length) {ov : Option V} : Ok K H0 S0 S H (σ.set i ov) (γ.set i .un) :=
  k.put hi trivial fun j e d' l z => nomatch z
/-- a result is stored at a name -/
theorem Ok.res {S' H' : Hp} {r : Slot} (k : Ok K H0 S0 S H σ γ) (g : Gr S H S' H') (s : Sub S' H') (h : ResOk K S' H H' v r) (hi : i < γ.length) : Ok K H0 S0 S' H' (σ.set i (some v)) (γ.set i r) := by
  have k' := k.grow g s
  cases r with
  | un => exact k'.un_ hi
  | tw _ _ => exact k'.put hi trivial fun j e d' l z => nomatch z
  | sh d => exact k'.sh_ hi h
  | ow d =>
    obtain ⟨l, rfl, h1, h2, h3⟩ := h
    refine k'.put hi ⟨l, by rw [List.getElem?_set_self (by rw [k.len]; exact hi)], h1, Ex.back k.h0 h2, h3⟩ fun j e d' l' _ e2 hj hl => ?_
    cases e2
    obtain ⟨l2, q1, _, _, q2⟩ := k.en j _ hj
    rw [hl] at q1
    cases q1
    obtain ⟨o, ho⟩ := q2.there
    rw [h2] at ho
    cases ho
/-- an object that no name holds, and that is not known, is changed -/
theorem Ok.mut (k : Ok K H0 S0 S H σ γ) (h0 : H0 p = none) (hs : S p = none) (no : ∀ (i : Nat) (d : D), γ[i]? = some (.ow d) → σ[i]? ≠ some (some (.ref p))) : Ok K H0 S0 S (upd H p o) σ γ where
  h0 := Ex.mut k.h0 h0
  s0 := k.s0
  sh := k.sh.mut hs
  nw := k.nw
  len := k.len
  en := fun j t h => by
    have q := k.en j t h
    cases t with
    | un => trivial
    | tw _ _ => trivial
    | sh d => exact q
    | ow d =>
      obtain ⟨l, a, b, c, z⟩ := q
      refine ⟨l, a, b, c, z.mono (Same.refl _) fun o ho => ?_⟩
      rw [upd_ne]
      · exact ho
      · rintro rfl
        exact no j d h a
  ds := k.ds
/-- an object that a name holds is changed -/
theorem Ok.own {o : HO} (k : Ok K H0 S0 S H σ γ) {l : Addr} {d d' : D} (hg : γ[i]? = some (.ow d)) (hl : σ[i]? = some (some (.ref l))) (h : OwnAt K S (upd H l o) l d') : Ok K H0 S0 S (upd H l o) σ (γ.set i (.ow d')) := by
  obtain ⟨l', e, h1, h2, _⟩ := k.en i _ hg
  rw [hl] at e
  cases e
  have hi : i < γ.length := (List.getElem?_eq_some_iff.mp hg).1
  refine ⟨Ex.mut k.h0 h2, k.s0, k.sh.mut h1, k.nw, by rw [List.length_set]; exact k.len, fun j t hj => ?_, fun a b da db m ha hb hla hlb => ?_⟩
  · by_cases ej : j = i
    · subst ej
      rw [List.getElem?_set_self hi] at hj
      cases hj
      exact ⟨l, hl, h1, h2, h⟩
    · rw [List.getElem?_set_ne (fun z => ej z.symm)] at hj
      have q := k.en j t hj
      cases t with
      | un => trivial
      | tw _ _ => trivial
      | sh d => exact q
      | ow e =>
        obtain ⟨m, a, b, c, z⟩ := q
        refine ⟨m, a, b, c, z.mono (Same.refl _) fun o ho => ?_⟩
        rw [upd_ne]
        · exact ho
        · rintro rfl
          exact ej (k.ds j i e d _ hj hg a hl)
  · have fx : ∀ (c : Nat) (x : D), (γ.set i (.ow d'))[c]? = some (.ow x) → ∃ y, γ[c]? = some (.ow y) := fun c x hc => by
      by_cases ec : c = i
      · subst ec; exact ⟨d, hg⟩
      · rw [List.getElem?_set_ne (fun z => ec z.symm)] at hc; exact ⟨x, hc⟩
    obtain ⟨x, hx⟩ := fx a da ha
    obtain ⟨y, hy⟩ := fx b db hb
    exact k.ds a b x y m hx hy hla hlb
/-- an object that a name holds is known from now on -/
theorem Ok.freeze (k : Ok K H0 S0 S H σ γ) (hg : γ[i]? = some (.ow d)) : ∃ S', Ex S S' ∧ Ok K H0 S0 S' H σ (γ.set i (.sh d)) := by
  obtain ⟨l, e, h1, h2, h⟩ := k.en i _ hg
  obtain ⟨o, ho, a, b, c⟩ := h.froze k.sh h1
  have hi : i < γ.length := (List.getElem?_eq_some_iff.mp hg).1
  refine ⟨upd S l o, b, k.h0, Same.trans k.s0 b, a, fun c u hc hn => ?_, by rw [List.length_set]; exact k.len, fun j t hj => ?_, fun a b da db m ha hb hla hlb => ?_⟩
  · by_cases ec : c = l
    · subst ec; exact h2
    · rw [upd_ne ec] at hc; exact k.nw c u hc hn
  · by_cases ej : j = i
    · subst ej
      rw [List.getElem?_set_self hi] at hj
      cases hj
      exact ⟨_, e, c⟩
    · rw [List.getElem?_set_ne (fun z => ej z.symm)] at hj
      have q := k.en j t hj
      cases t with
      | un => trivial
      | tw _ _ => trivial
      | sh d => obtain ⟨v, x, y⟩ := q; exact ⟨v, x, y.ex b⟩
      | ow e2 =>
        obtain ⟨m, x, y, z, w'⟩ := q
        refine ⟨m, x, ?_, z, w'.mono b fun _ q => q⟩
        rw [upd_ne]
        · exact y
        · rintro rfl
          exact ej (k.ds j i e2 d _ hj hg x e)
  · have fx : ∀ (c : Nat) (x : D), (γ.set i (.sh d))[c]? = some (.ow x) → γ[c]? = some (.ow x) := fun c x hc => by
      by_cases ec : c = i
      · subst ec; rw [List.getElem?_set_self hi] at hc; cases hc
      · rw [List.getElem?_set_ne (fun z => ec z.symm)] at hc; exact hc
    exact k.ds a b da db m (fx a da ha) (fx b db hb) hla hlb
/-- names may be forgotten -/
def Wk (γ γ' : Gm) : Prop := γ.length = γ'.length ∧ ∀ (i : Nat) (s : Slot), γ'[i]? = some s → s = .un ∨ γ[i]? = some s
theorem Wk.refl (γ : Gm) : Wk γ γ := ⟨rfl, fun _ _ h => .inr h⟩
theorem Ok.wk {γ' : Gm} (k : Ok K H0 S0 S H σ γ) (h : Wk γ γ') : Ok K H0 S0 S H σ γ' where
  h0 := k.h0
  s0 := k.s0
  sh := k.sh
  nw := k.nw
  len := k.len.trans h.1
  en := fun i s q => by
    rcases h.2 i s q with e | e
    · subst e; trivial
    · exact k.en i s e
  ds := fun i j d e l h1 h2 h3 h4 => by
    rcases h.2 i _ h1 with z | z
    · cases z
    · rcases h.2 j _ h2 with z2 | z2
      · cases z2
      · exact k.ds i j d e l z z2 h3 h4
/-- the entry set anew -/
theorem Ok.base (k : Ok K H0 S0 S H σ γ) : Ok K H0 S S H σ γ := ⟨k.h0, Same.refl _, k.sh, fun b o h n => (by rw [n] at h; cases h), k.len, k.en, k.ds⟩
theorem Ok.over {S1 H1 : Hp} {σ1 : St} {γ1 : Gm} (k : Ok K H0 S0 S H σ γ) (k1 : Ok K H0 S S1 H1 σ1 γ1) : Ok K H0 S0 S1 H1 σ1 γ1 :=
  ⟨k1.h0, Same.trans k.s0 k1.s0, k1.sh, fun b o h n => by
    cases q : S b with
    | some u => exact k.nw b u q n
    | none => exact k1.nw b o h q, k1.len, k1.en, k1.ds⟩
end

/-! ### outcomes -/
inductive Out where
  | nx (γ : Gm) | rt (r : Slot) | bk (γ : Gm) | ct (γ : Gm)
def ResR (K : PySem.W.Frag) (H0 S' H' : Hp) (v : V) : Slot → Prop
  | .un => True
  | .sh d => Dat K S' v d
  | .ow d => ∃ l, v = .ref l ∧ S' l = none ∧ H0 l = none ∧ OwnAt K S' H' l d
  | .tw ks d => TwAt K S' H' v ks d fun a => S' a = none ∧ H0 a = none
def OutOk (K : PySem.W.Frag) (D : Ends) (H0 S0 : Hp) : Out → Prop
  | .nx γ => ∀ S H σ, Ok K H0 S0 S H σ γ → D.nx σ H
  | .rt r => ∀ v S H, Ex H0 H → Ex S0 S → Sub S H → (∀ b o, S b = some o → S0 b = none → H0 b = none) → ResR K H0 S H v r → D.rt v H
  | .bk γ => ∀ S H σ, Ok K H0 S0 S H σ γ → D.bk σ H
  | .ct γ => ∀ S H σ, Ok K H0 S0 S H σ γ → D.ct σ H
def StD (K : PySem.W.Frag) (ts : TS) (γ : Gm) (o : Out) : Prop := ∀ (H0 S0 S H : Hp) (σ : St) (D : Ends), Ok K H0 S0 S H σ γ → OutOk K D H0 S0 o → ts D σ H
theorem OutOk.base {K : PySem.W.Frag} {D : Ends} {H0 S0 S H : Hp} {σ : St} {γ : Gm} {o : Out} (k : Ok K H0 S0 S H σ γ) (h : OutOk K D H0 S0 o) : OutOk K D H0 S o := by
  cases o with
  | nx γ => exact fun S1 H1 σ1 k1 => h S1 H1 σ1 (k.over k1)
  | bk γ => exact fun S1 H1 σ1 k1 => h S1 H1 σ1 (k.over k1)
  | ct γ => exact fun S1 H1 σ1 k1 => h S1 H1 σ1 (k.over k1)
  | rt r => exact fun v S1 H1 h1 h2 h3 h4 h5 => h v S1 H1 h1 (Same.trans k.s0 h2) h3 (fun b o hb hn => by
      cases q : S b with
      | some u => exact k.nw b u q hn
      | none => exact h4 b o hb q) h5
def PSD (K : PySem.W.Frag) {ι : Type} (Xs : ι → Cx) (st : Stmt) (γ : Gm) (o : Out) : Prop := StD K (anyS Xs st) γ o
def PSsD (K : PySem.W.Frag) {ι : Type} (Xs : ι → Cx) (st : List Stmt) (γ : Gm) (o : Out) : Prop := StD K (anySs Xs st) γ o
def TgD (K : PySem.W.Frag) {ι : Type} (Xs : ι → Cx) (tg : Expr) (γ : Gm) (d : D) (γ' : Gm) (is : List Nat) : Prop := ∀ (H0 S0 S H : Hp) (σ : St) (v : V), Ok K H0 S0 S H σ γ → Dat K S v d → ∀ Q : St → Hp → Prop,
  (∀ σ', Ok K H0 S0 S H σ' γ' → σ'.length = σ.length → (∀ j, j ∉ is → σ'[j]? = σ[j]?) → Q σ' H) → anyG Xs tg v σ H Q
def TgsD (K : PySem.W.Frag) {ι : Type} (Xs : ι → Cx) (ts : List Expr) (γ : Gm) (ds : List D) (γ' : Gm) (is : List Nat) : Prop := ∀ (H0 S0 S H : Hp) (σ : St) (vs : List V), Ok K H0 S0 S H σ γ → Dats K S vs ds → ∀ Q : St → Hp → Prop,
  (∀ σ', Ok K H0 S0 S H σ' γ' → σ'.length = σ.length → (∀ j, j ∉ is → σ'[j]? = σ[j]?) → Q σ' H) → ∃ t : TGs, (∀ i, PGs (Xs i) ts t) ∧ t vs σ H Q
/-- a block's tests -/
def PTsD (K : PySem.W.Frag) {ι : Type} (Xs : ι → Cx) (ifs : List Expr) (γ : Gm) (b : Bool) : Prop := EvT K (fun σ H Q => ∃ t, (∀ i, PTs (Xs i) ifs t) ∧ t σ H Q) γ b
def anyTs {ι : Type} (Xs : ι → Cx) (ifs : List Expr) : TT := fun σ H Q => ∃ t, (∀ i, PTs (Xs i) ifs t) ∧ t σ H Q
theorem pts_any {ι : Type} {Xs : ι → Cx} (ifs : List Expr) (i : ι) : PTs (Xs i) ifs (anyTs Xs ifs) := ⟨fun pins s σ H Q I ⟨t, h, q⟩ => (h i).run pins s σ H Q I q⟩
def anyI {ι : Type} (Xs : ι → Cx) (tg e : Expr) : TI := fun σ H R => ∃ t, (∀ i, PI (Xs i) tg e t) ∧ t σ H R
theorem pi_any {ι : Type} {Xs : ι → Cx} (tg e : Expr) (i : ι) : PI (Xs i) tg e (anyI Xs tg e) := ⟨fun pins s σ H R I ⟨t, h, q⟩ => (h i).run pins s σ H R I q⟩
/-- what a walk gives -/
structure ItD (K : PySem.W.Frag) (J : It) (S1 : Hp) (ds : List D) : Prop where
  go : ∀ i S H, Ex S1 S → Sub S H → i < ds.length → J.go i H
  stop : ∀ S H, Ex S1 S → Sub S H → J.stop ds.length H
  yld : ∀ i S H x H' d, Ex S1 S → Sub S H → ds[i]? = some d → J.yld i H x H' → ∃ S', Gr S H S' H' ∧ Sub S' H' ∧ Dat K S' x d
def WkD (K : PySem.W.Frag) (wi : TI) (γ : Gm) (ds : List D) : Prop := ∀ (H0 S0 S H : Hp) (σ : St), Ok K H0 S0 S H σ γ → ∀ R : It → Hp → Prop,
  (∀ J S' H', Gr S H S' H' → Sub S' H' → ItD K J S' ds → R J H') → wi σ H R
def PID (K : PySem.W.Frag) {ι : Type} (Xs : ι → Cx) (tg e : Expr) (γ : Gm) (ds : List D) : Prop := WkD K (anyI Xs tg e) γ ds

section
variable {ι : Type} {Xs : ι → Cx} {P : Program} {w : World} {K : PySem.W.Frag} {mg : Str → Option Value} {base : Heap} {N : List Str} {k : Nat} {γ γ' γ1 γ2 : Gm} {d d1 d2 : D} {ds : List D} {rs : Slot} {e a b c : Expr} {es : List Expr} {pos pos' : Pos} {x : Str} {tv tw : Bool} {st : Stmt} {sts sts' : List Stmt} {o : Out} {is js : List Nat} {tg : Expr} {tgs : List Expr}
theorem PSD.of {t : TS} (h : ∀ i, PS (Xs i) st t) (ev : StD K t γ o) : PSD K Xs st γ o := fun H0 S0 S H σ D k q => ⟨t, h, ev H0 S0 S H σ D k q⟩
theorem PSsD.of {t : TS} (h : ∀ i, PSs (Xs i) sts t) (ev : StD K t γ o) : PSsD K Xs sts γ o := fun H0 S0 S H σ D k q => ⟨t, h, ev H0 S0 S H σ D k q⟩
theorem pssd_nil : PSsD K Xs [] γ (.nx γ) := .of (fun _ => pss_nil) fun H0 S0 S H σ D k q => q S H σ k
theorem pssd_cons (h1 : PSD K Xs st γ (.nx γ1)) (h2 : PSsD K Xs sts γ1 o) : PSsD K Xs (st :: sts) γ o :=
  .of (t := tSeq (anyS Xs st) (anySs Xs sts)) (fun i => pss_cons (ps_any st i) (pss_any sts i)) fun H0 S0 S H σ D k q =>
    h1 H0 S0 S H σ { D with nx := anySs Xs sts D } k fun S1 H1 σ1 k1 => h2 H0 S0 S1 H1 σ1 D k1 q
/-- the block ends here -/
theorem pssd_end (h1 : PSD K Xs st γ o) (ho : ∀ γ', o ≠ .nx γ') : PSsD K Xs (st :: sts) γ o :=
  .of (t := tSeq (anyS Xs st) tNever) (fun i => pss_cons (ps_any st i) pss_never) fun H0 S0 S H σ D k q =>
    h1 H0 S0 S H σ { D with nx := tNever D } k (by
      cases o with
      | nx γ' => exact absurd rfl (ho γ')
      | rt r => exact q
      | bk γ' => exact q
      | ct γ' => exact q)
theorem pssd_rt {r : Slot} (h1 : PSD K Xs st γ (.rt r)) : PSsD K Xs (st :: sts) γ (.rt r) := pssd_end h1 fun _ z => nomatch z
theorem pssd_one (h1 : PSD K Xs st γ o) : PSsD K Xs [st] γ o := .of (fun i => pss_one (ps_any st i)) h1
/-- a name's object is known from here on -/
theorem pssd_freeze (i : Nat) (hg : γ[i]? = some (.ow d)) (h : PSsD K Xs sts (γ.set i (.sh d)) o) : PSsD K Xs sts γ o := fun H0 S0 S H σ D k q => by
  obtain ⟨S', e, k'⟩ := k.freeze hg
  exact h H0 S0 S' H σ D k' q
theorem pssd_wk (hw : Wk γ γ') (h : PSsD K Xs sts γ' o) : PSsD K Xs sts γ o := fun H0 S0 S H σ D k q => h H0 S0 S H σ D (k.wk hw) q
theorem pssd_nxwk (h : PSsD K Xs sts γ (.nx γ1)) (hw : Wk γ1 γ') : PSsD K Xs sts γ (.nx γ') := fun H0 S0 S H σ D k q => h H0 S0 S H σ D k fun S1 H1 σ1 k1 => q S1 H1 σ1 (k1.wk hw)
theorem psd_nxwk (h : PSD K Xs st γ (.nx γ1)) (hw : Wk γ1 γ') : PSD K Xs st γ (.nx γ') := fun H0 S0 S H σ D k q => h H0 S0 S H σ D k fun S1 H1 σ1 k1 => q S1 H1 σ1 (k1.wk hw)
theorem psd_wk (hw : Wk γ γ') (h : PSD K Xs st γ' o) : PSD K Xs st γ o := fun H0 S0 S H σ D k q => h H0 S0 S H σ D (k.wk hw) q
theorem psd_freeze (i : Nat) (hg : γ[i]? = some (.ow d)) (h : PSD K Xs st (γ.set i (.sh d)) o) : PSD K Xs st γ o := fun H0 S0 S H σ D k q => by
  obtain ⟨S', e, k'⟩ := k.freeze hg
  exact h H0 S0 S' H σ D k' q
/-- x = e -/
theorem psd_set (fx : Fx Xs P w K mg base N k) (i : Nat) (he : PED K Xs e γ rs) (hN : N[i]? = some x := by rfl) (hi : i < γ.length := by exact Nat.le_of_ble_eq_true rfl) (hx : ∀ j, Loc (Xs j).env.scope x := by first | exact fun _ => Or.inl rfl | exact fun _ => Or.inr rfl)
    (hs : ∀ j, swapsWith e (some (.Name x pos')) pos.line (Xs j).env = pure false := by exact fun _ => rfl) (hf : ∀ j, (Xs j).fn x = true ∨ (Xs j).env.scope.names.lookup x = some .local := by first | exact fun _ => Or.inl rfl | exact fun _ => Or.inr rfl) : PSD K Xs (.Assign [.Name x pos'] e pos) γ (.nx (γ.set i rs)) :=
  .of (fun j => ps_set (i := i) (by rw [fx.hN j]; exact fx.nd) (by rw [fx.hN j]; exact hN) (hx j) (pe_any e j) (hs j) (hf j)) fun H0 S0 S H σ D k q => he H0 S0 S H σ k _ fun v S' H' g s r => q S' H' _ (k.res g s r hi)
/-- e -/
theorem psd_expr (he : PED K Xs e γ rs) (hs : ∀ j, swapsWith e none pos.line (Xs j).env = pure false := by exact fun _ => rfl) : PSD K Xs (.Expr e pos) γ (.nx γ) :=
  .of (fun j => ps_expr (pe_any e j) (hs j)) fun H0 S0 S H σ D k q => he H0 S0 S H σ k _ fun v S' H' g s r => q S' H' _ (k.grow g s)
theorem psd_ret (he : PED K Xs e γ rs) : PSD K Xs (.Return (some e) pos) γ (.rt rs) :=
  .of (fun j => ps_ret (pe_any e j)) fun H0 S0 S H σ D k q => he H0 S0 S H σ k _ fun v S' H' g s r => by
    have k' := k.grow g s
    refine q v S' H' k'.h0 k'.s0 s k'.nw ?_
    cases rs with
    | un => trivial
    | tw _ _ => exact TwAt.mono r fun a z => ⟨z.1, Ex.back k.h0 z.2⟩
    | sh d => exact r
    | ow d => obtain ⟨l, h1, h2, h3, h4⟩ := r; exact ⟨l, h1, h2, Ex.back k.h0 h3, h4⟩
theorem psd_retN : PSD K Xs (.Return none pos) γ (.rt (.sh .non)) := .of (fun _ => ps_retN) fun H0 S0 S H σ D k q => q .non S H k.h0 k.s0 k.sh k.nw .non
theorem psd_pass : PSD K Xs (.Pass pos) γ (.nx γ) := .of (fun _ => ps_pass) fun H0 S0 S H σ D k q => q S H σ k
theorem psd_break : PSD K Xs (.Break pos) γ (.bk γ) := .of (fun _ => ps_break) fun H0 S0 S H σ D k q => q S H σ k
theorem psd_continue : PSD K Xs (.Continue pos) γ (.ct γ) := .of (fun _ => ps_continue) fun H0 S0 S H σ D k q => q S H σ k
theorem psd_ifT (hc : PTD K Xs c γ true) (ha : PSsD K Xs sts γ o) : PSD K Xs (.If c sts sts' pos) γ o :=
  .of (fun i => ps_if (pt_any c i) (pss_any sts i) pss_never) fun H0 S0 S H σ D k q => hc H0 S0 S H σ k _ fun S' H' g s => iteT (ha H0 S0 S' H' σ D (k.grow g s) q)
theorem psd_ifF (hc : PTD K Xs c γ false) (ha : PSsD K Xs sts' γ o) : PSD K Xs (.If c sts sts' pos) γ o :=
  .of (fun i => ps_if (pt_any c i) pss_never (pss_any sts' i)) fun H0 S0 S H σ D k q => hc H0 S0 S H σ k _ fun S' H' g s => iteF (ha H0 S0 S' H' σ D (k.grow g s) q)
theorem psd_if (hc : PTD K Xs c γ tv) (ha : tv = true → PSsD K Xs sts γ o) (hb : tv = false → PSsD K Xs sts' γ o) : PSD K Xs (.If c sts sts' pos) γ o := by
  cases tv with
  | true => exact psd_ifT hc (ha rfl)
  | false => exact psd_ifF hc (hb rfl)

/-! ### targets -/
theorem tgd_name (fx : Fx Xs P w K mg base N k) (i : Nat) (hN : N[i]? = some x := by rfl) (hi : i < γ.length := by exact Nat.le_of_ble_eq_true rfl) (hx : ∀ j, Loc (Xs j).env.scope x := by first | exact fun _ => Or.inl rfl | exact fun _ => Or.inr rfl)
    (hf : ∀ j, (Xs j).fn x = true ∨ (Xs j).env.scope.names.lookup x = some .local := by first | exact fun _ => Or.inl rfl | exact fun _ => Or.inr rfl) : TgD K Xs (.Name x pos) γ d (γ.set i (.sh d)) [i] := fun H0 S0 S H σ v k h Q q =>
  ⟨gName i, fun j => pg_name (by rw [fx.hN j]; exact fx.nd) (by rw [fx.hN j]; exact hN) (hx j) (hf j), q _ (k.sh_ hi h) (List.length_set ..) fun j hj => List.getElem?_set_ne (fun z => hj (by rw [z]; exact List.mem_singleton.mpr rfl))⟩
theorem tgsd_nil : TgsD K Xs [] γ [] γ [] := fun H0 S0 S H σ vs k h Q q => ⟨gNil, fun _ => pgs_nil, by cases h; rfl, q σ k rfl fun _ _ => rfl⟩
theorem tgsd_cons (h1 : TgD K Xs tg γ d γ1 is) (h2 : TgsD K Xs tgs γ1 ds γ2 js) (hs : ∀ i, (assignEach (tg :: tgs) (Xs i).env).map (·.2) = assign tg (Xs i).env :: (assignEach tgs (Xs i).env).map (·.2) := by exact fun _ => rfl) : TgsD K Xs (tg :: tgs) γ (d :: ds) γ2 (is ++ js) := fun H0 S0 S H σ vs k h Q q => by
  cases h with
  | cons t1 t2 =>
    refine ⟨gCons (anyG Xs tg) (fun vs σ H Q => ∃ t : TGs, (∀ i, PGs (Xs i) tgs t) ∧ t vs σ H Q), fun i => pgs_cons (pg_any tg i) ⟨fun pins s σ H vs us Q I r ⟨t, h, q⟩ => (h i).run pins s σ H vs us Q I r q⟩ (hs i), _, _, rfl, h1 H0 S0 S H σ _ k t1 _ fun σ1 k1 l1 e1 => h2 H0 S0 S H σ1 _ k1 t2 _ fun σ2 k2 l2 e2 => q σ2 k2 (l2.trans l1) fun j hj => ?_⟩
    rw [List.mem_append] at hj
    exact (e2 j fun z => hj (.inr z)).trans (e1 j fun z => hj (.inl z))
theorem tgd_tup (fx : Fx Xs P w K mg base N k) {z : Nat} (hd : IsT d ds) (h : TgsD K Xs tgs γ ds γ' is) (hn : ∀ i, (assignEach tgs (Xs i).env).length = ds.length := by exact fun _ => rfl) (hst : ∀ i, (assignEach tgs (Xs i).env).findIdx? (·.1) = none := by exact fun _ => rfl) : TgD K Xs (.Tuple tgs z pos) γ d γ' is := fun H0 S0 S H σ v k hv Q q => by
  obtain ⟨p, xs, rfl, hq, t⟩ := isT_of hd hv k.sh
  obtain ⟨u, hu, q2⟩ := h H0 S0 S H σ xs k t Q q
  refine ⟨gTup K ds.length u, fun i => ?_, p, xs, rfl, hq, t.length, q2⟩
  have y := pg_tup (k := z) (pos := pos) (fx.calm i) (hu i) (hn i) (hst i)
  rw [fx.hK i] at y
  exact y
/-- targets = e -/
theorem psd_asg (fx : Fx Xs P w K mg base N k) (he : PED K Xs e γ (.sh d)) (ht : TgD K Xs tg γ d γ' is) (hs : ∀ j, swapsWithSole [tg] e pos.line (Xs j).env = pure false := by exact fun _ => rfl) (hw : ∀ j, swappedStores [tg] e (Xs j).env = pure none := by exact fun _ => rfl)
    (h1 : ∀ j, (assignEach [tg] (Xs j).env).map (·.2) = [assign tg (Xs j).env] := by exact fun _ => rfl) : PSD K Xs (.Assign [tg] e pos) γ (.nx γ') :=
  .of (fun i => ps_asg (pe_any e i) (pg_any tg i) (hs i) (hw i) (h1 i)) fun H0 S0 S H σ D k q => he H0 S0 S H σ k _ fun v S' H' g s r => ht H0 S0 S' H' σ v (k.grow g s) r _ fun σ' k' _ _ => q S' H' σ' k'

/-! ### walks -/
theorem itl_d {S1 : Hp} {a : Addr} {xs : List V} (h : ∀ S H, Ex S1 S → Sub S H → SqL K H a xs) (t : Dats K S1 xs ds) : ItD K (Itl K a) S1 ds where
  go := fun i S H e s hi => ⟨xs, xs[i]'(by rw [t.length]; exact hi), h S H e s, by simp⟩
  stop := fun S H e s => ⟨xs, h S H e s, Nat.le_of_eq t.length⟩
  yld := fun i S H x H' d e s hd y => by
    obtain ⟨rfl, y⟩ := y
    obtain ⟨v, hv, hd'⟩ := t.get hd
    rw [y xs (h S H' e s)] at hv
    cases hv
    exact ⟨S, Gr.refl _ _, s, hd'.ex e⟩
theorem itt_d {S1 : Hp} {a : Addr} {xs : List V} (h : ∀ S H, Ex S1 S → Sub S H → SqT K H a xs) (t : Dats K S1 xs ds) : ItD K (Itt K a) S1 ds where
  go := fun i S H e s hi => ⟨xs, xs[i]'(by rw [t.length]; exact hi), h S H e s, by simp⟩
  stop := fun S H e s => ⟨xs, h S H e s, Nat.le_of_eq t.length⟩
  yld := fun i S H x H' d e s hd y => by
    obtain ⟨rfl, y⟩ := y
    obtain ⟨v, hv, hd'⟩ := t.get hd
    rw [y xs (h S H' e s)] at hv
    cases hv
    exact ⟨S, Gr.refl _ _, s, hd'.ex e⟩
/-- over a list -/
theorem pid_list (fx : Fx Xs P w K mg base N k) (hd : IsL d ds) (he : PED K Xs e γ (.sh d)) : PID K Xs tg e γ ds := fun H0 S0 S H σ k R q =>
  ⟨iList K (anyE Xs e), fun i => by have z := pi_list (tg := tg) (pe_any (Xs := Xs) e i); rw [fx.hK i] at z; exact z, he H0 S0 S H σ k _ fun v S' H' g s r => by
    cases hd with
    | lst => cases r with | lst a1 t1 => exact ⟨_, rfl, ⟨_, SqL.of (s.lst a1)⟩, q _ S' H' g s (itl_d (fun S2 H2 e2 s2 => SqL.of (s2.lst (e2 _ _ a1))) t1)⟩
    | ro => cases r with | ro a1 t1 => exact ⟨_, rfl, ⟨_, s.seqL a1⟩, q _ S' H' g s (itl_d (fun S2 H2 e2 s2 => s2.seqL (Ex.seqL e2 a1)) t1)⟩⟩
/-- over a tuple -/
theorem pid_tup (fx : Fx Xs P w K mg base N k) (hd : IsT d ds) (he : PED K Xs e γ (.sh d)) : PID K Xs tg e γ ds := fun H0 S0 S H σ k R q =>
  ⟨iTup K (anyE Xs e), fun i => by have z := pi_tup (tg := tg) (pe_any (Xs := Xs) e i); rw [fx.hK i] at z; exact z, he H0 S0 S H σ k _ fun v S' H' g s r => by
    cases hd with
    | tup => cases r with | tup a1 t1 => exact ⟨_, rfl, ⟨_, SqT.of (s.tup a1)⟩, q _ S' H' g s (itt_d (fun S2 H2 e2 s2 => SqT.of (s2.tup (e2 _ _ a1))) t1)⟩
    | rot => cases r with | rot a1 t1 => exact ⟨_, rfl, ⟨_, s.seqT a1⟩, q _ S' H' g s (itt_d (fun S2 H2 e2 s2 => s2.seqT (Ex.seqT e2 a1)) t1)⟩⟩
theorem itr_d {S1 : Hp} (lo : Int) (n : Nat) : ItD K (Itr lo n) S1 ((List.range n).map fun i : Nat => D.int (lo + (i : Int))) where
  go := fun i S H e s hi => by
    have : i < n := by simpa using hi
    exact this
  stop := fun S H e s => by
    show n ≤ _
    simp
  yld := fun i S H x H' d e s hd y => by
    obtain ⟨rfl, rfl⟩ := y
    rw [List.getElem?_map, List.getElem?_range] at hd
    · cases hd; exact ⟨S, Gr.refl _ _, s, .int⟩
    · by_cases h : i < n
      · exact h
      · rw [List.getElem?_eq_none (by simp; omega)] at hd; cases hd
theorem pid_range1 (fx : Fx Xs P w K mg base N k) {p : Pos} {j : Int} (ha : PAD K Xs [a] γ [.int j]) (hm : mg "range" = none) (h1 : -(2 ^ 62) ≤ j ∧ j < 2 ^ 62) (hg : ∀ i, Gl (Xs i) "range" := by exact fun _ => rfl) (hs : ∀ i, starEach [a] (Xs i).env = [(false, eval a (Xs i).env)] := by exact fun _ => rfl) :
    PID K Xs tg (.Call (.Name "range" p) [a] [] pos) γ ((List.range j.toNat).map fun i : Nat => D.int (0 + (i : Int))) := fun H0 S0 S H σ k R q =>
  ⟨iRng1 (anyA Xs [a]), fun i => pi_range1 (hg i) (by rw [fx.hmg i]; exact hm) (pa_any [a] i) (hs i), ha H0 S0 S H σ k _ fun vs S' H' g s r => by
    cases r with
    | cons r1 r2 => cases r1; cases r2; exact ⟨j, rfl, h1.1, h1.2, q _ S' H' g s (itr_d 0 j.toNat)⟩⟩
theorem pid_range2 (fx : Fx Xs P w K mg base N k) {p : Pos} {i j : Int} (ha : PAD K Xs [a, b] γ [.int i, .int j]) (hm : mg "range" = none) (h1 : -(2 ^ 62) ≤ i ∧ i < 2 ^ 62 ∧ -(2 ^ 62) ≤ j ∧ j < 2 ^ 62) (hg : ∀ i, Gl (Xs i) "range" := by exact fun _ => rfl)
    (hs : ∀ i, starEach [a, b] (Xs i).env = [(false, eval a (Xs i).env), (false, eval b (Xs i).env)] := by exact fun _ => rfl) (hs2 : ∀ i, starEach [b] (Xs i).env = [(false, eval b (Xs i).env)] := by exact fun _ => rfl) :
    PID K Xs tg (.Call (.Name "range" p) [a, b] [] pos) γ ((List.range (j - i).toNat).map fun n : Nat => D.int (i + (n : Int))) := fun H0 S0 S H σ k R q =>
  ⟨iRng2 (anyA Xs [a, b]), fun i => pi_range2 (hg i) (by rw [fx.hmg i]; exact hm) (pa_any [a, b] i) (hs i) (hs2 i), ha H0 S0 S H σ k _ fun vs S' H' g s r => by
    cases r with
    | cons r1 r2 => cases r1; cases r2 with | cons r3 r4 => cases r3; cases r4; exact ⟨i, j, rfl, h1, q _ S' H' g s (itr_d i (j - i).toNat)⟩⟩

/-! ### for -/
/-- each turn goes on -/
theorem psd_for (fx : Fx Xs P w K mg base N k) {α : Type} (xs : List α) (enc : α → D) (γs : Nat → Gm) (hi : PID K Xs tg a γ (xs.map enc)) (h0 : Wk γ (γs 0))
    (turn : ∀ (i : Nat) (x : α), xs[i]? = some x → ∃ γt is γb, TgD K Xs tg (γs i) (enc x) γt is ∧ (PSsD K Xs sts γt (.nx γb) ∨ PSsD K Xs sts γt (.ct γb)) ∧ Wk γb (γs (i + 1)))
    (hp : ∀ i, PassesOwn (model (Xs i).prog (Xs i).w) (Xs i).A (Xs i).env (Xs i).xe := by first | exact fun _ => PassesOwn.never | exact fun _ => passes_of rfl)
    (hs : ∀ i, ∀ x, foldedSetIterable a (Xs i).env x = pure x := by exact fun _ _ => rfl) : PSD K Xs (.For tg a sts [] pos) γ (.nx (γs xs.length)) := by
  refine .of (t := tFor (anyI Xs tg a) (anyG Xs tg) (anySs Xs sts)) (fun i => ps_for (hp i) (fx.calm i) (pi_any tg a i) (pg_any tg i) (pss_any sts i) (hs i)) fun H0 S0 S H σ D k q => ?_
  refine hi H0 S0 S H σ k _ fun J S1 H1 g1 s1 it => ?_
  refine ⟨fun i m σ H => m = xs.length - i ∧ i ≤ xs.length ∧ ∃ S, Ok K H0 S0 S H σ (γs i) ∧ Ex S1 S, ⟨_, rfl, Nat.zero_le _, S1, (k.grow g1 s1).wk h0, Same.refl _⟩, ?_⟩
  rintro i m σ H ⟨rfl, hle, S, k', e1⟩
  by_cases hlt : i < xs.length
  · refine .inr ⟨it.go i S H e1 k'.sh (by rw [List.length_map]; exact hlt), fun σ' H' => ∃ S', Ok K H0 S0 S' H' σ' (γs (i + 1)) ∧ Ex S1 S', fun σ' H' ⟨S', k2, e2⟩ => ⟨xs.length - (i + 1), by omega, rfl, hlt, S', k2, e2⟩, fun x H' y => ?_⟩
    obtain ⟨γt, is, γb, ht, hb, hw⟩ := turn i xs[i] (by simp [hlt])
    obtain ⟨S2, g2, s2, hd⟩ := it.yld i S H x H' (enc xs[i]) e1 k'.sh (by rw [List.getElem?_map]; simp [hlt]) y
    have k2 := k'.grow g2 s2
    refine ht H0 S0 S2 H' σ x k2 hd _ fun σ' k3 _ _ => ?_
    rcases hb with hb | hb
    · exact hb H0 S2 S2 H' σ' _ k3.base fun S4 H4 σ4 k4 => ⟨S4, (k3.over k4).wk hw, Same.trans e1 (Same.trans g2.ss k4.s0)⟩
    · exact hb H0 S2 S2 H' σ' _ k3.base fun S4 H4 σ4 k4 => ⟨S4, (k3.over k4).wk hw, Same.trans e1 (Same.trans g2.ss k4.s0)⟩
  · have e : i = xs.length := by omega
    subst e
    refine .inl ⟨?_, q S H σ k'⟩
    have z := it.stop S H e1 k'.sh
    rw [List.length_map] at z
    exact z
/-- a turn hands back -/
theorem psd_forR (fx : Fx Xs P w K mg base N k) {α : Type} (xs : List α) (enc : α → D) (γs : Nat → Gm) (n : Nat) (r : Slot) (hi : PID K Xs tg a γ (xs.map enc)) (h0 : Wk γ (γs 0)) (hn : n < xs.length)
    (turn : ∀ (i : Nat) (x : α), i < n → xs[i]? = some x → ∃ γt is γb, TgD K Xs tg (γs i) (enc x) γt is ∧ (PSsD K Xs sts γt (.nx γb) ∨ PSsD K Xs sts γt (.ct γb)) ∧ Wk γb (γs (i + 1)))
    (last : ∀ x : α, xs[n]? = some x → ∃ γt is, TgD K Xs tg (γs n) (enc x) γt is ∧ PSsD K Xs sts γt (.rt r))
    (hp : ∀ i, PassesOwn (model (Xs i).prog (Xs i).w) (Xs i).A (Xs i).env (Xs i).xe := by first | exact fun _ => PassesOwn.never | exact fun _ => passes_of rfl)
    (hs : ∀ i, ∀ x, foldedSetIterable a (Xs i).env x = pure x := by exact fun _ _ => rfl) : PSD K Xs (.For tg a sts [] pos) γ (.rt r) := by
  refine .of (t := tFor (anyI Xs tg a) (anyG Xs tg) (anySs Xs sts)) (fun i => ps_for (hp i) (fx.calm i) (pi_any tg a i) (pg_any tg i) (pss_any sts i) (hs i)) fun H0 S0 S H σ D k q => ?_
  refine hi H0 S0 S H σ k _ fun J S1 H1 g1 s1 it => ?_
  refine ⟨fun i m σ H => m = xs.length - i ∧ i ≤ n ∧ ∃ S, Ok K H0 S0 S H σ (γs i) ∧ Ex S1 S, ⟨_, rfl, Nat.zero_le _, S1, (k.grow g1 s1).wk h0, Same.refl _⟩, ?_⟩
  rintro i m σ H ⟨rfl, hle, S, k', e1⟩
  have hlt : i < xs.length := by omega
  refine .inr ⟨it.go i S H e1 k'.sh (by rw [List.length_map]; exact hlt), fun σ' H' => i < n ∧ ∃ S', Ok K H0 S0 S' H' σ' (γs (i + 1)) ∧ Ex S1 S', fun σ' H' ⟨hin, S', k2, e2⟩ => ⟨xs.length - (i + 1), by omega, rfl, hin, S', k2, e2⟩, fun x H' y => ?_⟩
  obtain ⟨S2, g2, s2, hd⟩ := it.yld i S H x H' (enc xs[i]) e1 k'.sh (by rw [List.getElem?_map]; simp [hlt]) y
  have k2 := k'.grow g2 s2
  by_cases hin : i < n
  · obtain ⟨γt, is, γb, ht, hb, hw⟩ := turn i xs[i] hin (by simp [hlt])
    refine ht H0 S0 S2 H' σ x k2 hd _ fun σ' k3 _ _ => ?_
    rcases hb with hb | hb
    · exact hb H0 S2 S2 H' σ' _ k3.base fun S4 H4 σ4 k4 => ⟨hin, S4, (k3.over k4).wk hw, Same.trans e1 (Same.trans g2.ss k4.s0)⟩
    · exact hb H0 S2 S2 H' σ' _ k3.base fun S4 H4 σ4 k4 => ⟨hin, S4, (k3.over k4).wk hw, Same.trans e1 (Same.trans g2.ss k4.s0)⟩
  · have e : i = n := by omega
    subst e
    obtain ⟨γt, is, ht, hb⟩ := last xs[i] (by simp [hlt])
    exact ht H0 S0 S2 H' σ x k2 hd _ fun σ' k3 _ _ => hb H0 S0 S2 H' σ' _ k3 q
end
end Wd
set_option Elab.async false
set_option linter.all false
set_option maxRecDepth 100000
set_option maxHeartbeats 1000000
/-! Comprehensions; a def's promise by its body; stores into own lists and dicts. -/
namespace Wd
open PySem PySem.Spec L2
open PyProof.Rows hiding St

/-! ### a block's names -/
theorem allLt {l : List Nat} {n : Nat} (h : (l.all fun v => Nat.blt v n) = true) : ∀ v ∈ l, v < n := fun v hv => Nat.le_of_ble_eq_true (List.all_eq_true.mp h v hv)
def wipeG (γ : Gm) : List Nat → Gm
  | [] => γ
  | v :: vs => (wipeG γ vs).set v .un
theorem wipeG_length (γ : Gm) : ∀ vs, (wipeG γ vs).length = γ.length
  | [] => rfl
  | v :: vs => by unfold wipeG; rw [List.length_set, wipeG_length γ vs]
theorem wipe_at (σ : St) (j : Nat) : ∀ vs : List Nat, (wipe σ vs)[j]? = if j ∈ vs then (if j < σ.length then some none else none) else σ[j]?
  | [] => by simp [wipe]
  | v :: vs => by
    unfold wipe
    by_cases e : j = v
    · subst e
      rw [if_pos List.mem_cons_self]
      by_cases h : j < σ.length
      · rw [if_pos h, List.getElem?_set_self (by rw [wipe_length]; exact h)]
      · rw [if_neg h]
        exact List.getElem?_eq_none (by rw [List.length_set, wipe_length]; omega)
    · rw [List.getElem?_set_ne (fun z => e z.symm), wipe_at σ j vs]
      by_cases h : j ∈ vs
      · rw [if_pos h, if_pos (List.mem_cons_of_mem _ h)]
      · rw [if_neg h, if_neg (fun z => (List.mem_cons.mp z).elim e h)]
theorem wipe_eq {σ σ' : St} {vs is : List Nat} (hl : σ'.length = σ.length) (h : ∀ j, j ∉ is → σ'[j]? = (wipe σ vs)[j]?) (hi : ∀ j ∈ is, j ∈ vs) : wipe σ' vs = wipe σ vs := by
  apply List.ext_getElem?
  intro j
  rw [wipe_at, wipe_at]
  by_cases hj : j ∈ vs
  · rw [if_pos hj, if_pos hj, hl]
  · rw [if_neg hj, if_neg hj, h j (fun z => hj (hi j z)), wipe_at, if_neg hj]
section
variable {K : PySem.W.Frag} {H0 S0 S H : Hp} {σ : St} {γ : Gm}
theorem Ok.wipe (k : Ok K H0 S0 S H σ γ) : ∀ vs : List Nat, (∀ v ∈ vs, v < γ.length) → Ok K H0 S0 S H (L2.wipe σ vs) (wipeG γ vs)
  | [], _ => k
  | v :: vs, h => (Ok.wipe k vs fun u hu => h u (List.mem_cons_of_mem _ hu)).un_ (by rw [wipeG_length]; exact h v List.mem_cons_self)
end

abbrev Bk : Type := Shared × Hp × Addr × List (Str × Addr) × List Addr
/-- the contexts of a comprehension's block -/
abbrev blkF {ι : Type} (Xs : ι → Cx) (scope : Scope) : ι × Bk → Cx := fun j => (Xs j.1).blk j.2.1 j.2.2.1 scope (compEnvC scope j.2.2.2.2.1 j.2.2.2.1 (Xs j.1).env) j.2.2.2.2.2
section
variable {ι : Type} {Xs : ι → Cx} {P : Program} {w : World} {K : PySem.W.Frag} {mg : Str → Option Value} {base : Heap} {N : List Str} {k : Nat} {γ γ' γ1 γ2 : Gm} {d d1 d2 : D} {ds : List D} {rs : Slot} {e a b c : Expr} {es : List Expr} {pos pos' : Pos} {x : Str} {tv tw : Bool} {st : Stmt} {sts sts' : List Stmt} {o : Out} {is js : List Nat} {tg : Expr} {tgs : List Expr}
theorem Fx.blk (fx : Fx Xs P w K mg base N k) (scope : Scope) : Fx (blkF Xs scope) P w K mg base N k :=
  ⟨fun i => fx.hP i.1, fun i => fx.hw i.1, fun i => fx.hK i.1, fun i => fx.hmg i.1, fun i => fx.hb i.1, fun i => fx.hN i.1, fx.nd, fun i => fx.calm i.1, fun i => fx.room i.1⟩
theorem ptsd_nil : PTsD K Xs [] γ true := fun H0 S0 S H σ k Q q => ⟨tYes, fun _ => pts_nil, q S H (Gr.refl _ _) k.sh⟩
theorem ptsd_one (h : PTD K Xs c γ tv) : PTsD K Xs [c] γ tv := fun H0 S0 S H σ k Q q => ⟨anyT Xs c, fun i => pts_one (pt_any c i), h H0 S0 S H σ k Q q⟩

/-- the reading of a comprehension, by data -/
theorem evd_lc {elt : Expr} {ifs : List Expr} {scope : Scope} {α : Type} (xs : List α) (enc : α → D) (f : α → Bool) (v : α → D) (vs : List Nat) (hi : PID K Xs tg a γ (xs.map enc)) (hvs : ∀ v ∈ vs, v < γ.length) (hl : xs.length < sizeLine)
    (turn : ∀ x ∈ xs, ∃ γt is, TgD K (blkF Xs scope) tg (wipeG γ vs) (enc x) γt is ∧ (∀ j ∈ is, j ∈ vs) ∧ PTsD K (blkF Xs scope) ifs γt (f x) ∧ (f x = true → PED K (blkF Xs scope) elt γt (.sh (v x)))) :
    EvD K (tLc (anyI Xs tg a) (anyG (blkF Xs scope) tg) (anyTs (blkF Xs scope) ifs) (anyE (blkF Xs scope) elt) vs) γ (.ow (.lst ((xs.filter f).map v))) := by
  intro H0 S0 S H σ k Q q
  refine hi H0 S0 S H σ k _ fun J S1 H1 g1 s1 it L hL => ?_
  have k1 := k.grow g1 s1
  have kw := k1.wipe vs hvs
  have hS1 : S1 L = none := s1.out hL
  have no : ∀ (i : Nat) (d : D), (wipeG γ vs)[i]? = some (.ow d) → (wipe σ vs)[i]? ≠ some (some (.ref L)) := fun i d hi hr => by
    obtain ⟨l, e1, _, _, e2⟩ := kw.en i _ hi
    rw [hr] at e1
    cases e1
    obtain ⟨o, ho⟩ := e2.there
    rw [hL] at ho
    cases ho
  have h0L : H0 L = none := Ex.back k1.h0 hL
  -- the turns' state: a region, the list so far
  refine ⟨fun i m H' => m = xs.length - i ∧ i ≤ xs.length ∧ ∃ (S' : Hp) (acc : List V), Ok K H0 S0 S' H' (wipe σ vs) (wipeG γ vs) ∧ Ex S1 S' ∧ (∀ b o, H1 b = some o → H' b = some o) ∧ (∀ b o, S' b = some o → S1 b = none → H1 b = none) ∧ S' L = none ∧ H' L = some (.lst acc) ∧ Dats K S' acc (((xs.take i).filter f).map v),
    ⟨_, rfl, Nat.zero_le _, S1, [], kw.mut h0L hS1 no, Same.refl _, Ex.new hL, fun b o h n => (by rw [n] at h; cases h), hS1, upd_same, .nil⟩, ?_⟩
  rintro i m H' ⟨rfl, hle, S', acc, k2, e2, hh, nw, hSL, hHL, hd⟩
  by_cases hlt : i < xs.length
  · refine .inr ⟨it.go i S' H' e2 k2.sh (by rw [List.length_map]; exact hlt), fun H'' => ∃ (S'' : Hp) (acc' : List V), Ok K H0 S0 S'' H'' (wipe σ vs) (wipeG γ vs) ∧ Ex S1 S'' ∧ (∀ b o, H1 b = some o → H'' b = some o) ∧ (∀ b o, S'' b = some o → S1 b = none → H1 b = none) ∧ S'' L = none ∧ H'' L = some (.lst acc') ∧ Dats K S'' acc' (((xs.take (i + 1)).filter f).map v), fun H'' z => ⟨xs.length - (i + 1), by omega, rfl, hlt, z⟩, fun y H2 yl => ?_⟩
    have hx : xs[i]? = some xs[i] := by simp [hlt]
    obtain ⟨γt, is, ht, his, htt, hel⟩ := turn xs[i] (List.getElem_mem hlt)
    obtain ⟨S2, g2, s2, hy⟩ := it.yld i S' H' y H2 (enc xs[i]) e2 k2.sh (by rw [List.getElem?_map, hx]; rfl) yl
    have k3 := k2.grow g2 s2
    have nw2 : ∀ b o, S2 b = some o → S1 b = none → H1 b = none := fun b o hb hn => by
      cases z : S' b with
      | some u => exact nw b u z hn
      | none =>
        cases z1 : H1 b with
        | none => rfl
        | some u =>
          have := g2.nw b o hb z
          rw [hh b u z1] at this
          cases this
    have hS2 : S2 L = none := g2.out hSL hHL
    refine ht H0 S0 S2 H2 (wipe σ vs) y k3 hy _ fun σ' k4 l4 e4 => ?_
    refine ⟨wipe_eq (l4.trans (wipe_length σ vs)) e4 his, ?_⟩
    have etk : xs.take (i + 1) = xs.take i ++ [xs[i]] := by rw [List.take_add_one, hx]; rfl
    refine htt H0 S0 S2 H2 σ' k4 _ fun S3 H3 g3 s3 => ?_
    have nw3 : ∀ b o, S3 b = some o → S1 b = none → H1 b = none := fun b o hb hn => by
      cases z : S2 b with
      | some u => exact nw2 b u z hn
      | none =>
        cases z1 : H1 b with
        | none => rfl
        | some u =>
          have := g3.nw b o hb z
          rw [g2.hh b u (hh b u z1)] at this
          cases this
    have hHL3 : H3 L = some (.lst acc) := g3.hh _ _ (g2.hh _ _ hHL)
    have hS3 : S3 L = none := g3.out hS2 (g2.hh _ _ hHL)
    cases hf : f xs[i] with
    | false =>
      refine iteF ?_
      refine ⟨S3, acc, k2.grow (g2.trans g3) s3, Same.trans e2 (Same.trans g2.ss g3.ss), fun b o hb => g3.hh b o (g2.hh b o (hh b o hb)), nw3, hS3, hHL3, ?_⟩
      rw [etk, List.filter_append, List.filter_cons, if_neg (by rw [hf]; decide)]
      show Dats K S3 acc (List.map v (_ ++ []))
      rw [List.append_nil]
      exact hd.ex (Same.trans g2.ss g3.ss)
    | true =>
      refine iteT (hel hf H0 S0 S3 H3 σ' (k4.grow g3 s3) _ fun z S4 H4 g4 s4 r4 => ?_)
      have hHL4 : H4 L = some (.lst acc) := g4.hh _ _ hHL3
      have hS4 : S4 L = none := g4.out hS3 hHL3
      have k5 := k2.grow ((g2.trans g3).trans g4) s4
      have e5 : Ex S1 S4 := Same.trans e2 (Same.trans g2.ss (Same.trans g3.ss g4.ss))
      refine ⟨acc, hHL4, ?_, S4, acc ++ [z], k5.mut h0L hS4 no, e5, fun b o hb => ?_, fun b o hb hn => ?_, hS4, upd_same, ?_⟩
      · have hlen := hd.length
        rw [List.length_map] at hlen
        have h2 : ((xs.take i).filter f).length ≤ xs.length := Nat.le_trans (List.length_filter_le _ _) (by rw [List.length_take]; omega)
        omega
      · rw [upd_ne (ne_of_none hb hL)]
        exact g4.hh b o (g3.hh b o (g2.hh b o (hh b o hb)))
      · cases z : S3 b with
        | some u => exact nw3 b u z hn
        | none =>
          cases z1 : H1 b with
          | none => rfl
          | some u =>
            have := g4.nw b o hb z
            rw [g3.hh b u (g2.hh b u (hh b u z1))] at this
            cases this
      · rw [etk, List.filter_append, List.filter_cons, if_pos hf, List.map_append]
        exact (hd.ex (Same.trans g2.ss (Same.trans g3.ss g4.ss))).snoc r4
  · have e : i = xs.length := by omega
    subst e
    refine .inl ⟨?_, ?_⟩
    · have z := it.stop S' H' e2 k2.sh
      rw [List.length_map] at z
      exact z
    · rw [List.take_length] at hd
      have g5 : Gr S H S' H' := ⟨Same.trans g1.ss e2, fun b o hb => hh b o (g1.hh b o hb), fun b o hb hn => by
        cases z : S1 b with
        | some u => exact g1.nw b u z hn
        | none =>
          cases z1 : H b with
          | none => rfl
          | some u =>
            have := nw b o hb z
            rw [g1.hh b u z1] at this
            cases this⟩
      exact q (.ref L) S' H' g5 k2.sh ⟨L, rfl, hSL, Ex.back g1.hh hL, ⟨acc, hHL, hd⟩⟩
/-- [elt for tg in a if ..] -/
theorem pd_lc (fx : Fx Xs P w K mg base N k) {elt : Expr} {ifs : List Expr} {scope : Scope} (own : List (Str × Nat)) {α : Type} (xs : List α) (enc : α → D) (f : α → Bool) (v : α → D) (hi : PID K Xs tg a γ (xs.map enc)) (hl : xs.length < sizeLine)
    (turn : ∀ x ∈ xs, ∃ γt is, TgD K (blkF Xs scope) tg (wipeG γ (own.map (·.2))) (enc x) γt is ∧ (∀ j ∈ is, j ∈ own.map (·.2)) ∧ PTsD K (blkF Xs scope) ifs γt (f x) ∧ (f x = true → PED K (blkF Xs scope) elt γt (.sh (v x))))
    (ok : ∀ i, BlkOk N (Xs i).env.scope scope own) (hvs : ∀ v ∈ own.map (·.2), v < γ.length := by exact allLt rfl) (hs : ∀ i, ∀ x, foldedSetIterable a (Xs i).env x = pure x := by exact fun _ _ => rfl) :
    PED K Xs (.ListComp elt [⟨tg, a, ifs, 0⟩] scope pos) γ (.ow (.lst ((xs.filter f).map v))) :=
  .of (fun i => pe_lc (fx.calm i) (by rw [fx.hN i]; exact fx.nd) (pi_any tg a i) (by rw [fx.hN i]; exact ok i) (fun s H C cl fp => pg_any (Xs := blkF Xs scope) tg (i, s, H, C, cl, fp)) (fun s H C cl fp => pts_any (Xs := blkF Xs scope) ifs (i, s, H, C, cl, fp)) (fun s H C cl fp => pe_any (Xs := blkF Xs scope) elt (i, s, H, C, cl, fp)) (hs i))
    (evd_lc xs enc f v (own.map (·.2)) hi hvs hl turn)
/-- y = [elt for tg in a if ..] -/
theorem psd_setLc (fx : Fx Xs P w K mg base N k) (i : Nat) {y : Str} {py : Pos} {elt : Expr} {ifs : List Expr} {scope : Scope} (own : List (Str × Nat)) {α : Type} (xs : List α) (enc : α → D) (f : α → Bool) (v : α → D) (hi : PID K Xs tg a γ (xs.map enc)) (hl : xs.length < sizeLine)
    (turn : ∀ x ∈ xs, ∃ γt is, TgD K (blkF Xs scope) tg (wipeG γ (own.map (·.2))) (enc x) γt is ∧ (∀ j ∈ is, j ∈ own.map (·.2)) ∧ PTsD K (blkF Xs scope) ifs γt (f x) ∧ (f x = true → PED K (blkF Xs scope) elt γt (.sh (v x))))
    (ok : ∀ i, BlkOk N (Xs i).env.scope scope own) (hN : N[i]? = some y := by rfl) (hyl : ∀ j, (Xs j).env.scope.names.lookup y = some .local := by exact fun _ => rfl)
    (hsw : ∀ j, swapsWith (.ListComp elt [⟨tg, a, ifs, 0⟩] scope pos) (some (.Name y py)) pos'.line (Xs j).env = pure true := by exact fun _ => sw_true rfl rfl rfl (by decide +kernel)) (hg : i < γ.length := by exact Nat.le_of_ble_eq_true rfl) (hvs : ∀ v ∈ own.map (·.2), v < γ.length := by exact allLt rfl) (hs : ∀ i, ∀ x, foldedSetIterable a (Xs i).env x = pure x := by exact fun _ _ => rfl) :
    PSD K Xs (.Assign [.Name y py] (.ListComp elt [⟨tg, a, ifs, 0⟩] scope pos) pos') γ (.nx (γ.set i (.ow (.lst ((xs.filter f).map v))))) :=
  .of (t := tAsg (tLc (anyI Xs tg a) (anyG (blkF Xs scope) tg) (anyTs (blkF Xs scope) ifs) (anyE (blkF Xs scope) elt) (own.map fun x : Str × Nat => x.2)) (gName i)) (fun j => ps_setLc (i := i) (fx.calm j) (by rw [fx.hN j]; exact fx.nd) (by rw [fx.hN j]; exact hN) (hyl j) (hsw j) (pi_any tg a j) (by rw [fx.hN j]; exact ok j) (fun s H C cl fp => pg_any (Xs := blkF Xs scope) tg (j, s, H, C, cl, fp)) (fun s H C cl fp => pts_any (Xs := blkF Xs scope) ifs (j, s, H, C, cl, fp)) (fun s H C cl fp => pe_any (Xs := blkF Xs scope) elt (j, s, H, C, cl, fp)) (hs j))
    fun H0 S0 S H σ D k q => (show tLc (anyI Xs tg a) (anyG (blkF Xs scope) tg) (anyTs (blkF Xs scope) ifs) (anyE (blkF Xs scope) elt) (own.map fun x : Str × Nat => x.2) σ H (fun x H1 => gName i x σ H1 D.nx) from evd_lc (Xs := Xs) (scope := scope) (ifs := ifs) (elt := elt) xs enc f v (own.map fun x : Str × Nat => x.2) hi hvs hl turn H0 S0 S H σ k (fun x H1 => gName i x σ H1 D.nx) fun v S' H' g s r => q S' H' _ (k.res g s r hg))

/-! ### a def's promise, by its body -/
def γ0 (N : List Str) (ds : List D) : Gm := ds.map .sh ++ List.replicate (N.length - ds.length) .un
/-- how a body's end is a result -/
inductive FinO : Out → Slot → Prop
  | rt {r} : FinO (.rt r) r
  | nx {γ : Gm} : FinO (.nx γ) (.sh .non)
theorem ok_start {vs : List V} {ds : List D} {H S : Hp} (s : Sub S H) (h : Dats K S vs ds) (hl : ds.length ≤ N.length) : Ok K H S S H (L2.start N vs) (γ0 N ds) where
  h0 := Same.refl _
  s0 := Same.refl _
  sh := s
  nw := fun b o h n => by rw [n] at h; cases h
  len := by
    have := h.length
    unfold L2.start γ0
    simp only [List.length_append, List.length_map, List.length_replicate, this]
  en := fun i t ht => by
    unfold γ0 at ht
    by_cases hi : i < ds.length
    · rw [List.getElem?_append_left (by rw [List.length_map]; exact hi), List.getElem?_map] at ht
      cases e : ds[i]? with
      | none => rw [e] at ht; cases ht
      | some d =>
        rw [e] at ht
        cases ht
        obtain ⟨v, hv, hd⟩ := h.get e
        refine ⟨v, ?_, hd⟩
        unfold L2.start
        rw [List.getElem?_append_left (by rw [List.length_map, h.length]; exact hi), List.getElem?_map, hv]
        rfl
    · rw [List.getElem?_append_right (by rw [List.length_map]; omega), List.getElem?_replicate] at ht
      split at ht
      · cases ht; trivial
      · cases ht
  ds := fun i j d e l hi _ _ _ => by
    unfold γ0 at hi
    by_cases h1 : i < ds.length
    · rw [List.getElem?_append_left (by rw [List.length_map]; exact h1), List.getElem?_map] at hi
      cases e : ds[i]? with
      | none => rw [e] at hi; cases hi
      | some d => rw [e] at hi; cases hi
    · rw [List.getElem?_append_right (by rw [List.length_map]; omega), List.getElem?_replicate] at hi
      split at hi <;> cases hi
/-- a def's body's contexts -/
abbrev bodyX (P : Program) (w : World) (K : PySem.W.Frag) (mg : Str → Option Value) (base : Heap) (N : List Str) (qual : Str) (scope : Scope) (f : Addr) (cdv : Value) (A : Around) (outer : List Env) (s : Shared) (H : Hp) (E : XK) : Unit → Cx := fun _ => (cxOf (L2.CX P w) P w K mg base N qual scope f cdv A outer s H E).nox
/-- THE RULE for a def by data -/
theorem fn_data {x qual : Str} {params : Arguments} {body : List Stmt} {scope : Scope} {dvs : List V} {kws : List (Str × V)} {f : Addr} {fd : FuncData} {N ps : List Str} {Pr : List D → Slot → Prop} (F : FunD K x qual params body scope dvs kws f fd) (Sc : FnScope N ps scope) (len : ∀ ds r, Pr ds r → ds.length = ps.length)
    (h : ∀ (cdv : Value) (A : Around) (outer : List Env) (s : Shared) (H : Hp) (E : XK), Fx (bodyX P w K mg base N qual scope f cdv A outer s H E) P w K mg base N k → ∀ ds r, Pr ds r → ∃ o, PSsD K (bodyX P w K mg base N qual scope f cdv A outer s H E) body (γ0 N ds) o ∧ FinO o r) : FnOk P w K mg base (L2.CX P w) (k + 1) f fd ps (spD K Pr) := by
  refine F.ok Sc (fun vs H Q E ⟨S, ds, r, _, hd, hp, _⟩ => hd.length.trans (len ds r hp)) fun cdv A outer s H vs Q E hr ⟨S, ds, r, hs, hd, hp, q⟩ => ?_
  have fx : Fx (bodyX P w K mg base N qual scope f cdv A outer s H E) P w K mg base N k := ⟨fun _ => rfl, fun _ => rfl, fun _ => rfl, fun _ => rfl, fun _ => rfl, fun _ => rfl, Sc.nd, fun _ => rfl, fun _ => hr⟩
  obtain ⟨o, ho, hf⟩ := h cdv A outer s H E fx ds r hp
  have hpl : ds.length ≤ N.length := by
    have h1 := congrArg List.length Sc.pre
    rw [List.length_take] at h1
    have h2 := len ds r hp
    omega
  refine ⟨_, (pss_any (Xs := fun _ : Unit => (cxOf (L2.CX P w) P w K mg base N qual scope f cdv A outer s H E).nox) body ()).nox, ho H S S H _ _ (ok_start hs hd hpl) ?_⟩
  cases hf with
  | rt =>
    refine fun v S' H' h1 h2 h3 h4 h5 => q v S' H' ⟨h2, h1, fun b o hb hn => h4 b o hb hn⟩ h3 ?_
    cases r with
    | un => trivial
    | tw _ _ => exact h5
    | sh d => exact h5
    | ow d => exact h5
  | nx => exact fun S' H' σ' k' => q .non S' H' ⟨k'.s0, k'.h0, k'.nw⟩ k'.sh .non
end
end Wd
namespace Wd
open PySem PySem.Spec L2
open PyProof.Rows hiding St
section
variable {ι : Type} {Xs : ι → Cx} {K : PySem.W.Frag} {γ : Gm} {r : Slot} {c : Expr} {sts rest : List Stmt} {pos : Pos} {tv : Bool}
/-- if c: .. return; rest -/
theorem pssd_ifret (hc : PTD K Xs c γ tv) (h1 : tv = true → PSsD K Xs sts γ (.rt r)) (h2 : tv = false → PSsD K Xs rest γ (.rt r)) : PSsD K Xs (.If c sts [] pos :: rest) γ (.rt r) := by
  cases tv with
  | true => exact pssd_rt (psd_ifT hc (h1 rfl))
  | false => exact pssd_cons (psd_ifF hc pssd_nil) (h2 rfl)
theorem rd_lt {i j : Int} : RD K (rI0 fun i j => .bl (decide (i < j))) (.int i) (.int j) (.sh (.bl (decide (i < j)))) := fun S H x y s h1 h2 Q q => by cases h1; cases h2; exact ⟨_, _, rfl, rfl, here s .bl q⟩
theorem rd_le {i j : Int} : RD K (rI0 fun i j => .bl (decide (i ≤ j))) (.int i) (.int j) (.sh (.bl (decide (i ≤ j)))) := fun S H x y s h1 h2 Q q => by cases h1; cases h2; exact ⟨_, _, rfl, rfl, here s .bl q⟩
theorem rd_gt {i j : Int} : RD K (rI0 fun i j => .bl (decide (j < i))) (.int i) (.int j) (.sh (.bl (decide (j < i)))) := fun S H x y s h1 h2 Q q => by cases h1; cases h2; exact ⟨_, _, rfl, rfl, here s .bl q⟩
theorem rd_ge {i j : Int} : RD K (rI0 fun i j => .bl (decide (j ≤ i))) (.int i) (.int j) (.sh (.bl (decide (j ≤ i)))) := fun S H x y s h1 h2 Q q => by cases h1; cases h2; exact ⟨_, _, rfl, rfl, here s .bl q⟩
end
end Wd
set_option Elab.async false
set_option linter.all false
set_option maxRecDepth 100000
set_option maxHeartbeats 1000000
/-! in, slices, isinstance, texts walked, own objects changed, __init__. -/
namespace Wd
open PySem PySem.Spec L2
open PyProof.Rows hiding St

/-- x in a list or tuple of flat data; one sign in a text; a key in a dict -/
inductive InD : D → D → Bool → Prop
  | lst {c ds d v vs} : IsL c ds → ds.map dV = vs.map some → dV d = some v → InD d c (inV v vs)
  | tup {c ds d v vs} : IsT c ds → ds.map dV = vs.map some → dV d = some v → InD d c (inV v vs)
  | sign {c : Nat} {z : Str} : InD (.str ⟨#[c]⟩) (.str z) (decide (c ∈ z.cps.toList))
  | dki {ds i} : InD (.int i) (.dk ds) (getK ds (Sum.inl i : Key)).isSome
  | dks {ds x} : InD (.str x) (.dk ds) (getK ds (Sum.inr x : Key)).isSome
  | dt {ds ks} {k : List Key} : ks = k.map keyD → InD (.tup ks) (.dt ds) (getK ds k).isSome
def cutD {α : Type} (xs : List α) (lo hi : Option Int) : List α := (xs.drop (HT.sIx xs.length 0 lo)).take (HT.sIx xs.length xs.length hi - HT.sIx xs.length 0 lo)
inductive SlD : D → Option Int → Option Int → Slot → Prop
  | lst {c ds lo hi} : IsL c ds → SlD c lo hi (.ow (.lst (cutD ds lo hi)))
  | tup {ds lo hi} : SlD (.tup ds) lo hi (.sh (.tup (cutD ds lo hi)))
section
variable {ι : Type} {Xs : ι → Cx} {P : Program} {w : World} {K : PySem.W.Frag} {mg : Str → Option Value} {base : Heap} {N : List Str} {k : Nat} {γ γ' γ1 γ2 : Gm} {d d1 d2 : D} {ds : List D} {rs r : Slot} {e a b c o : Expr} {es : List Expr} {pos pos' apos : Pos} {x : Str} {tv tw : Bool} {st : Stmt} {sts sts' rest : List Stmt} {ot : Out} {is js : List Nat} {tg : Expr} {tgs : List Expr}

/-! ### in, not in -/
def rInU (K : PySem.W.Frag) : R2 := fun x y H Q => rIn K false x y H Q ∨ ∃ (c : Nat) (z : Str), x = .str ⟨#[c]⟩ ∧ y = .str z ∧ Q (.bl (decide (c ∈ z.cps.toList))) H
def rInD (y x : V) (H2 : Hp) (Q : VK) : Prop := ∃ a o, x = .ref a ∧ DGet H2 a y o ∧ Q (.bl o.isSome) H2
theorem in_reads (h : InD d1 d2 tv) : RD K (rInU K) d1 d2 (.sh (.bl tv)) ∨ RD K rInD d1 d2 (.sh (.bl tv)) := by
  cases h with
  | lst hl hv hd =>
    refine .inl fun S H x y s h1 h2 Q q => .inl ?_
    obtain ⟨p, xs, rfl, hq, t⟩ := isL_of hl h2 s
    obtain ⟨rfl, fx⟩ := dV_of h1 hd
    obtain ⟨rfl, fs⟩ := dVs_of t hv
    exact ⟨p, _, rfl, .inl hq, fx, fs, here s .bl q⟩
  | tup hl hv hd =>
    refine .inl fun S H x y s h1 h2 Q q => .inl ?_
    obtain ⟨p, xs, rfl, hq, t⟩ := isT_of hl h2 s
    obtain ⟨rfl, fx⟩ := dV_of h1 hd
    obtain ⟨rfl, fs⟩ := dVs_of t hv
    exact ⟨p, _, rfl, .inr hq, fx, fs, here s .bl q⟩
  | sign => exact .inl fun S H x y s h1 h2 Q q => .inr (by cases h1; cases h2; exact ⟨_, _, rfl, rfl, here s .bl q⟩)
  | dki =>
    refine .inr fun S H x y s h1 h2 Q q => ?_
    cases h1
    cases h2 with
    | dk a1 k1 t1 => exact ⟨_, _, rfl, .inl ⟨_, Sum.inl _, s.rd (.inl a1), rfl, rfl⟩, by rw [getV_isSome k1 t1]; exact here s .bl q⟩
  | dks =>
    refine .inr fun S H x y s h1 h2 Q q => ?_
    cases h1
    cases h2 with
    | dk a1 k1 t1 => exact ⟨_, _, rfl, .inl ⟨_, Sum.inr _, s.rd (.inl a1), rfl, rfl⟩, by rw [getV_isSome k1 t1]; exact here s .bl q⟩
  | @dt ds ks kk hk =>
    refine .inr fun S H x y s h1 h2 Q q => ?_
    subst hk
    cases h1 with
    | tup a1 t1 =>
      cases h2 with
      | dt a2 k2 t2 =>
        have e := keys_of t1
        subst e
        exact ⟨_, _, rfl, .inr ⟨_, kk, _, s.rd (.inl a2), rfl, s.tup a1, rfl⟩, by rw [getV_isSome k2 t2]; exact here s .bl q⟩
theorem pd_in (fx : Fx Xs P w K mg base N k) (ha : PED K Xs a γ (.sh d1)) (hb : PED K Xs b γ (.sh d2)) (h : InD d1 d2 tv) (hm : behindInMarks .In b = false := by with_unfolding_all rfl) : PED K Xs (.Compare a [.In] [b] pos) γ (.sh (.bl tv)) := by
  refine .of (t := fun σ H Q => tOp (rInU K) (anyE Xs a) (anyE Xs b) σ H Q ∨ tDIn (anyE Xs a) (anyE Xs b) σ H Q) (fun i => pe_or2 ?_ (pe_cmp (pc_din (fx.hu i) (pe_any a i) (pe_any b i)) hm)) (evd_or ?_)
  · have z := pe_cmpR (pos := pos) (OpR.or (op_in_seq (X := Xs i)) op_in_sign) (pe_any a i) (pe_any b i) hm
    rw [fx.hK i] at z
    exact z
  · exact (in_reads h).imp (fun z => evd_op ha hb z) fun z => show EvD K (tOp rInD (anyE Xs a) (anyE Xs b)) γ _ from evd_op ha hb z
theorem ptd_in (fx : Fx Xs P w K mg base N k) (ha : PED K Xs a γ (.sh d1)) (hb : PED K Xs b γ (.sh d2)) (h : InD d1 d2 tv) (hm : behindInMarks .In b = false := by with_unfolding_all rfl) : PTD K Xs (.Compare a [.In] [b] pos) γ tv := by
  refine .of (t := fun σ H Q => tTest (tOp (rInU K) (anyE Xs a) (anyE Xs b)) σ H Q ∨ tB (tDIn (anyE Xs a) (anyE Xs b)) σ H Q) (fun i => ⟨fun pins s σ H Q I q => q.elim (fun q => PT.run ?_ pins s σ H Q I q) fun q => (pt_cmp (pc_din (fx.hu i) (pe_any a i) (pe_any b i)) hm).run pins s σ H Q I q⟩) fun H0 S0 S H σ k Q q => ?_
  · have z := pt_cmpR (pos := pos) (OpR.or (op_in_seq (X := Xs i)) op_in_sign) (pe_any a i) (pe_any b i) hm
    rw [fx.hK i] at z
    exact z
  · rcases in_reads h with z | z
    · exact .inl (evt_test (evd_op ha hb z) H0 S0 S H σ k Q q)
    · exact .inr (evt_B (show EvD K (tOp rInD (anyE Xs a) (anyE Xs b)) γ _ from evd_op ha hb z) H0 S0 S H σ k Q q)
def rNiU (K : PySem.W.Frag) : R2 := fun x y H Q => rIn K true x y H Q ∨ ∃ (c : Nat) (z : Str), x = .str ⟨#[c]⟩ ∧ y = .str z ∧ Q (.bl (!decide (c ∈ z.cps.toList))) H
def rNiD (y x : V) (H2 : Hp) (Q : VK) : Prop := ∃ a o, x = .ref a ∧ DGet H2 a y o ∧ Q (.bl (!o.isSome)) H2
theorem ni_reads (h : InD d1 d2 tv) : RD K (rNiU K) d1 d2 (.sh (.bl (!tv))) ∨ RD K rNiD d1 d2 (.sh (.bl (!tv))) := by
  cases h with
  | lst hl hv hd =>
    refine .inl fun S H x y s h1 h2 Q q => .inl ?_
    obtain ⟨p, xs, rfl, hq, t⟩ := isL_of hl h2 s
    obtain ⟨rfl, fx⟩ := dV_of h1 hd
    obtain ⟨rfl, fs⟩ := dVs_of t hv
    exact ⟨p, _, rfl, .inl hq, fx, fs, here s .bl q⟩
  | tup hl hv hd =>
    refine .inl fun S H x y s h1 h2 Q q => .inl ?_
    obtain ⟨p, xs, rfl, hq, t⟩ := isT_of hl h2 s
    obtain ⟨rfl, fx⟩ := dV_of h1 hd
    obtain ⟨rfl, fs⟩ := dVs_of t hv
    exact ⟨p, _, rfl, .inr hq, fx, fs, here s .bl q⟩
  | sign => exact .inl fun S H x y s h1 h2 Q q => .inr (by cases h1; cases h2; exact ⟨_, _, rfl, rfl, here s .bl q⟩)
  | dki =>
    refine .inr fun S H x y s h1 h2 Q q => ?_
    cases h1
    cases h2 with
    | dk a1 k1 t1 => exact ⟨_, _, rfl, .inl ⟨_, Sum.inl _, s.rd (.inl a1), rfl, rfl⟩, by rw [getV_isSome k1 t1]; exact here s .bl q⟩
  | dks =>
    refine .inr fun S H x y s h1 h2 Q q => ?_
    cases h1
    cases h2 with
    | dk a1 k1 t1 => exact ⟨_, _, rfl, .inl ⟨_, Sum.inr _, s.rd (.inl a1), rfl, rfl⟩, by rw [getV_isSome k1 t1]; exact here s .bl q⟩
  | @dt ds ks kk hk =>
    refine .inr fun S H x y s h1 h2 Q q => ?_
    subst hk
    cases h1 with
    | tup a1 t1 =>
      cases h2 with
      | dt a2 k2 t2 =>
        have e := keys_of t1
        subst e
        exact ⟨_, _, rfl, .inr ⟨_, kk, _, s.rd (.inl a2), rfl, s.tup a1, rfl⟩, by rw [getV_isSome k2 t2]; exact here s .bl q⟩
theorem ptd_ni (fx : Fx Xs P w K mg base N k) (ha : PED K Xs a γ (.sh d1)) (hb : PED K Xs b γ (.sh d2)) (h : InD d1 d2 tv) (hm : behindInMarks .NotIn b = false := by with_unfolding_all rfl) : PTD K Xs (.Compare a [.NotIn] [b] pos) γ (!tv) := by
  refine .of (t := fun σ H Q => tTest (tOp (rNiU K) (anyE Xs a) (anyE Xs b)) σ H Q ∨ tB (tDNotIn (anyE Xs a) (anyE Xs b)) σ H Q) (fun i => ⟨fun pins s σ H Q I q => q.elim (fun q => PT.run ?_ pins s σ H Q I q) fun q => (pt_cmp (pc_dnotin (fx.hu i) (pe_any a i) (pe_any b i)) hm).run pins s σ H Q I q⟩) fun H0 S0 S H σ k Q q => ?_
  · have z := pt_cmpR (pos := pos) (OpR.or (op_notIn_seq (X := Xs i)) op_notIn_sign) (pe_any a i) (pe_any b i) hm
    rw [fx.hK i] at z
    exact z
  · rcases ni_reads h with z | z
    · exact .inl (evt_test (evd_op ha hb z) H0 S0 S H σ k Q q)
    · exact .inr (evt_B (show EvD K (tOp rNiD (anyE Xs a) (anyE Xs b)) γ _ from evd_op ha hb z) H0 S0 S H σ k Q q)

/-! ### a[lo:hi] -/
def EvO (K : PySem.W.Frag) (to : TO) (γ : Gm) (oi : Option Int) : Prop := ∀ (H0 S0 S H : Hp) (σ : L2.St), Ok K H0 S0 S H σ γ → ∀ Q : Option Int → Hp → Prop, (∀ S' H', Gr S H S' H' → Sub S' H' → Q oi H') → to σ H Q
def anyO (Xs : ι → Cx) (e : Option Expr) : TO := fun σ H Q => ∃ t, (∀ i, PO (Xs i) e t) ∧ t σ H Q
theorem po_any (e : Option Expr) (i : ι) : PO (Xs i) e (anyO Xs e) := ⟨fun pins s σ H Q I ⟨t, h, q⟩ => (h i).run pins s σ H Q I q⟩
def POD (K : PySem.W.Frag) (Xs : ι → Cx) (e : Option Expr) (γ : Gm) (oi : Option Int) : Prop := EvO K (anyO Xs e) γ oi
theorem pod_none : POD K Xs none γ none := fun H0 S0 S H σ k Q q => ⟨tNoPart, fun _ => po_none, q S H (Gr.refl _ _) k.sh⟩
theorem pod_some {i : Int} (h : PED K Xs e γ (.sh (.int i))) : POD K Xs (some e) γ (some i) := fun H0 S0 S H σ k Q q => ⟨tPart (anyE Xs e), fun i => po_some (pe_any e i), h H0 S0 S H σ k _ fun v S' H' g s r => by cases r; exact ⟨i, rfl, q S' H' g s⟩⟩
theorem cut_d {S : Hp} {xs : List V} {lo hi : Option Int} (t : Dats K S xs ds) : Dats K S (cutV xs lo hi) (cutD ds lo hi) := by
  unfold cutV cutD
  rw [t.length]
  exact (t.drop _).take _
def rSlU (K : PySem.W.Frag) : V → Option Int → Option Int → Hp → VK → Prop := fun x lo hi H Q => rSlL K x lo hi H Q ∨ rSlA K x lo hi H Q
theorem pd_slice (fx : Fx Xs P w K mg base N k) {lo hi : Option Expr} {l u : Option Int} {p2 : Pos} (ha : PED K Xs a γ (.sh d)) (hl : POD K Xs lo γ l) (hu : POD K Xs hi γ u) (h : SlD d l u r) : PED K Xs (.Subscript a (.Slice lo hi none p2) pos) γ r := by
  refine .of (t := tSl (rSlU K) (anyE Xs a) (anyO Xs lo) (anyO Xs hi)) (fun i => ?_) fun H0 S0 S H σ k Q q => ha H0 S0 S H σ k _ fun v S1 H1 g1 s1 r1 => hl H0 S0 S1 H1 σ (k.grow g1 s1) _ fun S2 H2 g2 s2 => hu H0 S0 S2 H2 σ ((k.grow g1 s1).grow g2 s2) _ fun S3 H3 g3 s3 => ?_
  · have z := pe_slice (pos := pos) (p2 := p2) (SlR.or (sl_list (X := Xs i)) sl_tupA) (pe_any a i) (po_any lo i) (po_any hi i)
    rw [fx.hK i] at z
    exact z
  · have g := (g1.trans g2).trans g3
    have r3 := Dat.ex (Same.trans g2.ss g3.ss) r1
    cases h with
    | lst hl =>
      obtain ⟨p, xs, rfl, hq, t⟩ := isL_of hl r3 s3
      exact .inl ⟨p, xs, rfl, hq, fun p hp => new_lst s3 hp (cut_d t) (Q := Q) fun v S' H' g' s' r' => q v S' H' (g.trans g') s' (r'.back g.hh)⟩
    | @tup ds =>
      cases r3 with
      | tup a1 t1 =>
        refine .inr ⟨_, _, rfl, SqT.of (s3.tup a1), fun hw => ?_, fun _ p hp => new_tup s3 hp (cut_d t1) (Q := Q) fun v S' H' g' s' r' => q v S' H' (g.trans g') s' (r'.back g.hh)⟩
        have e : cutD ds l u = ds := by
          rw [t1.length] at hw
          unfold cutD
          rw [hw.1, hw.2, List.drop_zero, Nat.sub_zero, List.take_length]
        rw [e] at q
        exact q _ S3 H3 g s3 (.tup a1 t1)

/-! ### a text, sign by sign -/
theorem its_d {S1 : Hp} (z : Str) : ItD K (Its z) S1 (z.cps.toList.map fun c => D.str ⟨#[c]⟩) where
  go := fun i S H e s hi => by
    have h : i < z.cps.size := by simpa using hi
    exact h
  stop := fun S H e s => by
    show z.cps.size ≤ _
    simp
  yld := fun i S H x H' d e s hd y => by
    obtain ⟨rfl, c, hc, rfl⟩ := y
    rw [List.getElem?_map, Array.getElem?_toList, hc] at hd
    cases hd
    exact ⟨S, Gr.refl _ _, s, .str⟩
theorem pid_str {z : Str} (he : PED K Xs e γ (.sh (.str z))) : PID K Xs tg e γ (z.cps.toList.map fun c => D.str ⟨#[c]⟩) := fun H0 S0 S H σ k R q =>
  ⟨iStr (anyE Xs e), fun i => pi_str (pe_any e i), he H0 S0 S H σ k _ fun v S' H' g s r => by cases r; exact ⟨z, rfl, q _ S' H' g s (its_d z)⟩⟩

/-! ### names of the module -/
theorem pd_globI (fx : Fx Xs P w K mg base N k) {i : Int} {t : Tok} (hm : mg x = some (.int i t)) (hg : ∀ i, Gl (Xs i) x := by exact fun _ => rfl) (hd : (x == ("__debug__" : Str)) = false := by decide) : PED K Xs (.Name x pos) γ (.sh (.int i)) :=
  .of (fun j => pe_glob (v := .int i) (hg j) (by rw [fx.hmg j]; exact hm) ⟨t, rfl⟩ hd) (evd_c fun _ => .int)
theorem pd_globS (fx : Fx Xs P w K mg base N k) {z : Str} {t : Tok} (hm : mg x = some (.str z t)) (hg : ∀ i, Gl (Xs i) x := by exact fun _ => rfl) (hd : (x == ("__debug__" : Str)) = false := by decide) : PED K Xs (.Name x pos) γ (.sh (.str z)) :=
  .of (fun j => pe_glob (v := .str z) (hg j) (by rw [fx.hmg j]; exact hm) ⟨t, rfl⟩ hd) (evd_c fun _ => .str)
theorem pd_globR (fx : Fx Xs P w K mg base N k) {p : Addr} (hm : mg x = some (.ref p)) (hd' : ∀ S, Dat K S (.ref p) d) (hg : ∀ i, Gl (Xs i) x := by exact fun _ => rfl) (hd : (x == ("__debug__" : Str)) = false := by decide) : PED K Xs (.Name x pos) γ (.sh d) :=
  .of (fun j => pe_glob (v := .ref p) (hg j) (by rw [fx.hmg j]; exact hm) rfl hd) (evd_c hd')
theorem pd_ty (fx : Fx Xs P w K mg base N k) {n : String} (hm : mg x = none) (hv : bootBuiltins x = some (.type n) := by decide +kernel) (hg : ∀ i, Gl (Xs i) x := by exact fun _ => rfl) (hn : x ≠ "__name__" := by decide) (hd : (x == ("__debug__" : Str)) = false := by decide) : PED K Xs (.Name x pos) γ (.sh (.ty n)) :=
  .of (fun j => pe_bltn (v := .ty n) (hg j) (by rw [fx.hmg j]; exact hm) hv rfl hn hd) (evd_c fun _ => .ty)

end
/-! ### isinstance -/
def tyN : D → Option String
  | .non => some "NoneType"
  | .bl _ => some "bool"
  | .int _ => some "int"
  | .str _ => some "str"
  | .lst _ => some "list"
  | .ro _ => none
  | .tup _ => some "tuple"
  | .dk _ => some "dict"
  | _ => none
/-- what isinstance asks of an own class -/
structure OwnC (K : PySem.W.Frag) (C : Addr) : Prop where
  cl : Cls K C
  ha : PySem.W.findIn K (.ref C) "__class__" = some (some (.builtin "object.__class__"))
  hn : PySem.W.specialIn K (.builtin "object.__class__") "__get__" = some (some (.builtin "getset_descriptor.__get__"))
  htk : PySem.W.takesIn K (.builtin "object.__class__") = some true
  hm : PySem.W.mroIn K C (.type "object") = some true
inductive TyD (K : PySem.W.Frag) : D → Value → Prop
  | bt {d n} : tyN d = some n → TyD K d (.type n)
  | own {c fs} : OwnC K (He.ga K c) → TyD K (.obj c fs) (.ref (He.ga K c))
theorem tyx_of {K : PySem.W.Frag} {d : D} {S H : Hp} {v : V} {t : Value} (s : Sub S H) (h : Dat K S v d) (ht : TyD K d t) : TyX K H v t := by
  cases ht with
  | bt e =>
    cases h with
    | non => cases e; exact .base .non
    | bl => cases e; exact .base (.bl _)
    | int => cases e; exact .base (.int _)
    | str => cases e; exact .base (.str _)
    | lst a1 t1 => cases e; exact .base (.lst (s.lst a1))
    | tup a1 t1 => cases e; exact .base (.tup (s.tup a1))
    | dk a1 k1 t1 =>
      cases e
      rcases s _ _ a1 with z | ⟨ob, z, _⟩
      · exact .base (.dK z)
      · exact .fDict z
    | dt a1 k1 t1 => cases e
    | ro a1 t1 => cases e
    | rot a1 t1 => cases e
    | obj a1 k1 t1 => cases e
    | cls => cases e
    | ty => cases e
  | own C =>
    cases h with
    | obj a1 k1 t1 => exact .base (.ins (s.ins a1) C.cl C.ha C.hn C.htk C.hm)
/-- a class as data, as a value -/
def clsD (K : PySem.W.Frag) : D → Option Value
  | .ty n => some (.type n)
  | .cls c => some (.ref (He.ga K c))
  | _ => none
end Wd
set_option Elab.async false
set_option linter.all false
set_option maxRecDepth 100000
set_option maxHeartbeats 1000000
/-! isinstance; own lists and dicts changed; an __init__; a dict walked by its keys. -/
namespace Wd
open PySem PySem.Spec L2
open PyProof.Rows hiding St

theorem clsV_of {K : PySem.W.Frag} {S : Hp} {v : V} {d : D} {u : Value} (h : Dat K S v d) (e : clsD K d = some u) : ClsV v u := by
  cases h <;> (first | (cases e; first | exact .ty _ | exact .own _) | cases e)
theorem clsVs_of {K : PySem.W.Frag} {S : Hp} : ∀ {vs : List V} {ds : List D} {us : List Value}, Dats K S vs ds → ds.map (clsD K) = us.map some → Paired ClsV vs us
  | _, _, [], .nil, _ => .nil
  | _, _, _ :: _, .nil, e => nomatch e
  | _, _, [], .cons _ _, e => nomatch e
  | _, _, u :: us, .cons h t, e => by
    rw [List.map_cons, List.map_cons] at e
    obtain ⟨e1, e2⟩ := List.cons.inj e
    exact .cons (clsV_of h e1) (clsVs_of t e2)
inductive IsiD (K : PySem.W.Frag) : D → D → Bool → Prop
  | one {d c t u b} : TyD K d t → clsD K c = some u → PySem.W.kitOne K t u = some b → IsiD K d c b
  | tup {d cs t us b} : TyD K d t → cs.map (clsD K) = us.map some → PySem.W.kitAny K t us = some b → IsiD K d (.tup cs) b
def rIsiU (K : PySem.W.Frag) : List V → Hp → VK → Prop := fun xs H Q => rIsi K xs H Q ∨ rIsiT K xs H Q
theorem call_isiU {X : Cx} : CallR X (.builtin "isinstance") (rIsiU X.K) := CallR.or call_isi call_isiT
theorem rc_isi {K : PySem.W.Frag} {d c : D} {b : Bool} (h : IsiD K d c b) : RC K (rIsiU K) [d, c] (.sh (.bl b)) := by
  intro S H xs s t Q q
  cases t with
  | cons t1 t2 =>
    cases t2 with
    | cons t2 t3 =>
      cases t3
      cases h with
      | one h1 h2 h3 => exact .inl ⟨_, _, _, _, b, rfl, clsV_of t2 h2, tyx_of s t1 h1, h3, here s .bl q⟩
      | tup h1 h2 h3 =>
        cases t2 with
        | tup a1 t4 => exact .inr ⟨_, _, _, _, _, b, rfl, s.tup a1, clsVs_of t4 h2, tyx_of s t1 h1, h3, here s .bl q⟩

section
variable {ι : Type} {Xs : ι → Cx} {P : Program} {w : World} {K : PySem.W.Frag} {mg : Str → Option Value} {base : Heap} {N : List Str} {k : Nat} {γ γ' γ1 γ2 : Gm} {d d1 d2 : D} {ds : List D} {rs r : Slot} {e a b c o : Expr} {es : List Expr} {pos pos' apos tpos npos : Pos} {x : Str} {tv tw : Bool} {st : Stmt} {sts sts' rest : List Stmt} {ot : Out} {is js : List Nat} {tg : Expr} {tgs : List Expr}
theorem pd_isi (fx : Fx Xs P w K mg base N k) {p : Pos} (ha : PAD K Xs [a, b] γ [d1, d2]) (hm : mg "isinstance" = none) (h : IsiD K d1 d2 tv) (hg : ∀ i, Gl (Xs i) "isinstance" := by exact fun _ => rfl)
    (he : ∀ i, starEach [a, b] (Xs i).env = (false, eval a (Xs i).env) :: starEach [b] (Xs i).env := by exact fun _ => rfl) (hpl : ∀ i, (backTo pos (starEach [b] (Xs i).env)).any (·.1) = false := by exact fun _ => rfl) : PED K Xs (.Call (.Name "isinstance" p) [a, b] [] pos) γ (.sh (.bl tv)) :=
  pd_blt fx (r := rIsiU K) (fun i => by have z := call_isiU (X := Xs i); rw [fx.hK i] at z; exact z) hm ha (rc_isi h) (hg := hg) (he := he) (hpl := hpl)

theorem notIn {l : List Str} {f : Str} (h : l.contains f = false) : f ∉ l := fun z => by rw [List.contains_iff_mem.mpr z] at h; cases h
/-! ### own lists and dicts changed -/
theorem pe_self (i : Nat) (fx : Fx Xs P w K mg base N k) (hN : N[i]? = some x) (hv : ∀ j, Vis (Xs j).env.scope x) (hd : (x == ("__debug__" : Str)) = false) (hcd : (x == ("__classdict__" : Str)) = false) (j : ι) : PE (Xs j) (.Name x pos) (tVar i) := pe_var (by rw [fx.hN j]; exact hN) (hv j) hd hcd
/-- x.append(e) -/
theorem psd_append (fx : Fx Xs P w K mg base N k) (i : Nat) (hg : γ[i]? = some (.ow (.lst ds)) := by rfl) (he : PED K Xs e γ (.sh d)) (hl : ds.length < sizeLine) (hN : N[i]? = some x := by rfl) (hv : ∀ j, Vis (Xs j).env.scope x := by first | exact fun _ => Or.inl rfl | exact fun _ => Or.inr (Or.inl rfl) | exact fun _ => Or.inr (Or.inr rfl))
    (hd : (x == ("__debug__" : Str)) = false := by decide) (hcd : (x == ("__classdict__" : Str)) = false := by decide) (hbase : ∀ j, attributeBase (.Name x npos) "append" (Xs j).env (eval (.Name x npos) (Xs j).env) = eval (.Name x npos) (Xs j).env := by exact fun _ => rfl)
    (hfew : ∀ j, ((backTo pos (starEach [e] (Xs j).env)).all (fun x => !x.1) && (backToKw pos (keywordEach [] (Xs j).env)).all (fun x => x.1.isSome) && decide (([e] : List Expr).length + ([] : List Keyword).length + (if ([] : List Keyword).isEmpty then 0 else 1) < 30)) = true := by exact fun _ => rfl)
    (hline : (apos.endLine == pos.line) = true := by rfl) (hs : ∀ j, starEach [e] (Xs j).env = (false, eval e (Xs j).env) :: starEach [] (Xs j).env := by exact fun _ => rfl) (hplain : ∀ j, (backTo pos (starEach [] (Xs j).env)).any (·.1) = false := by exact fun _ => rfl)
    (hsw : ∀ j, swapsWith (.Call (.Attribute (.Name x npos) "append" apos) [e] [] pos) none pos'.line (Xs j).env = pure false := by exact fun _ => rfl) : PSD K Xs (.Expr (.Call (.Attribute (.Name x npos) "append" apos) [e] [] pos) pos') γ (.nx (γ.set i (.ow (.lst (ds ++ [d]))))) := by
  refine .of (t := tDrop (tBM K "list" rAppend (tVar i) (tCons (anyE Xs e) tNil))) (fun j => ps_expr ?_ (hsw j)) fun H0 S0 S H σ D k q => ?_
  · have z := pe_bm (X := Xs j) (r := rAppend) PySem.F.plainAttrs_list PySem.F.slot_list_append PySem.F.type_list_append mt_append (pe_self i fx hN hv hd hcd j) (pa_cons (pe_any e j) pa_nil (hs j)) (hbase j) (hfew j) hline (hs j) (hplain j)
    rw [fx.hK j] at z
    exact z
  · obtain ⟨l, hl1, h1, h2, xs, hx, t⟩ := k.en i _ hg
    refine ⟨_, hl1, .inl ⟨rfl, xs, SqL.of hx⟩, he H0 S0 S H σ k _ fun v S' H' g s r => ⟨l, xs, v, rfl, rfl, g.hh _ _ hx, by rw [t.length]; exact hl, ?_⟩⟩
    exact q S' _ σ ((k.grow g s).own hg hl1 ⟨xs ++ [v], upd_same, (t.ex g.ss).snoc r⟩)
/-- x[a] = e, x an own dict -/
theorem psd_dput (fx : Fx Xs P w K mg base N k) (i : Nat) {kvs : List (Key × D)} {key : Key} (hg : γ[i]? = some (.ow (.dk kvs)) := by rfl) (he : PED K Xs e γ (.sh d)) (ha : PED K Xs a γ (.sh (keyD key))) (hl : kvs.length < sizeLine) (nd : (kvs.map (·.1)).Nodup) (hN : N[i]? = some x := by rfl) (hv : ∀ j, Vis (Xs j).env.scope x := by first | exact fun _ => Or.inl rfl | exact fun _ => Or.inr (Or.inl rfl) | exact fun _ => Or.inr (Or.inr rfl))
    (hd : (x == ("__debug__" : Str)) = false := by decide) (hcd : (x == ("__classdict__" : Str)) = false := by decide)
    (hs : ∀ j, swapsWith e (some (.Subscript (.Name x npos) a tpos)) pos.line (Xs j).env = pure false := by exact fun _ => rfl) : PSD K Xs (.Assign [.Subscript (.Name x npos) a tpos] e pos) γ (.nx (γ.set i (.ow (.dk (putG kvs key d))))) := by
  refine .of (t := sDPut (tVar i) (anyE Xs a) (anyE Xs e)) (fun j => ps_dput (fx.hu j) (pe_self i fx hN hv hd hcd j) (pe_any a j) (pe_any e j) (hs j)) fun H0 S0 S H σ D k q => ?_
  obtain ⟨l, hl1, h1, h2, kv, hx, hk, t⟩ := k.en i _ hg
  refine he H0 S0 S H σ k _ fun v S1 H1 g1 s1 r1 => ⟨_, hl1, ha H0 S0 S1 H1 σ (k.grow g1 s1) _ fun y S2 H2 g2 s2 r2 => ?_⟩
  have g := g1.trans g2
  have ey := kV_of r2
  subst ey
  have hlen : kv.length = kvs.length := by simpa using congrArg List.length hk
  obtain ⟨e1, e2⟩ := putV_of hk nd (t.ex g.ss) (Dat.ex g2.ss r1)
  exact ⟨l, _, rfl, .k (g.hh _ _ hx) (by rw [hlen]; exact hl), q S2 _ σ ((k.grow g s2).own hg hl1 ⟨_, upd_same, e1, e2⟩)⟩
/-- x[a] = e, x an own dict of tuples' keys -/
theorem psd_dputT (fx : Fx Xs P w K mg base N k) (i : Nat) {kvs : List (List Key × D)} {key : List Key} (hg : γ[i]? = some (.ow (.dt kvs)) := by rfl) (he : PED K Xs e γ (.sh d)) (ha : PED K Xs a γ (.sh (.tup (key.map keyD)))) (hl : kvs.length < sizeLine) (nd : (kvs.map (·.1)).Nodup) (hN : N[i]? = some x := by rfl) (hv : ∀ j, Vis (Xs j).env.scope x := by first | exact fun _ => Or.inl rfl | exact fun _ => Or.inr (Or.inl rfl) | exact fun _ => Or.inr (Or.inr rfl))
    (hd : (x == ("__debug__" : Str)) = false := by decide) (hcd : (x == ("__classdict__" : Str)) = false := by decide)
    (hs : ∀ j, swapsWith e (some (.Subscript (.Name x npos) a tpos)) pos.line (Xs j).env = pure false := by exact fun _ => rfl) : PSD K Xs (.Assign [.Subscript (.Name x npos) a tpos] e pos) γ (.nx (γ.set i (.ow (.dt (putG kvs key d))))) := by
  refine .of (t := sDPut (tVar i) (anyE Xs a) (anyE Xs e)) (fun j => ps_dput (fx.hu j) (pe_self i fx hN hv hd hcd j) (pe_any a j) (pe_any e j) (hs j)) fun H0 S0 S H σ D k q => ?_
  obtain ⟨l, hl1, h1, h2, kv, hx, hk, t⟩ := k.en i _ hg
  refine he H0 S0 S H σ k _ fun v S1 H1 g1 s1 r1 => ⟨_, hl1, ha H0 S0 S1 H1 σ (k.grow g1 s1) _ fun y S2 H2 g2 s2 r2 => ?_⟩
  have g := g1.trans g2
  cases r2 with
  | tup a2 t2 =>
    have ey := keys_of t2
    subst ey
    have hlen : kv.length = kvs.length := by simpa using congrArg List.length hk
    obtain ⟨e1, e2⟩ := putV_of hk nd (t.ex g.ss) (Dat.ex g2.ss r1)
    exact ⟨l, _, rfl, .t (g.hh _ _ hx) (s2.tup a2) (by rw [hlen]; exact hl), q S2 _ σ ((k.grow g s2).own hg hl1 ⟨_, upd_same, e1, e2⟩)⟩
/-- x[a] = e, x an own list -/
theorem psd_lput (fx : Fx Xs P w K mg base N k) (i : Nat) {m : Int} {n : Nat} (hg : γ[i]? = some (.ow (.lst ds)) := by rfl) (he : PED K Xs e γ (.sh d)) (ha : PED K Xs a γ (.sh (.int m))) (hn : ixN ds.length m = some n) (hN : N[i]? = some x := by rfl) (hv : ∀ j, Vis (Xs j).env.scope x := by first | exact fun _ => Or.inl rfl | exact fun _ => Or.inr (Or.inl rfl) | exact fun _ => Or.inr (Or.inr rfl))
    (hd : (x == ("__debug__" : Str)) = false := by decide) (hcd : (x == ("__classdict__" : Str)) = false := by decide)
    (hs : ∀ j, swapsWithSole [.Subscript (.Name x npos) a tpos] e pos.line (Xs j).env = pure false := by exact fun _ => rfl) (hw : ∀ j, swappedStores [.Subscript (.Name x npos) a tpos] e (Xs j).env = pure none := by exact fun _ => rfl)
    (h1 : ∀ j, (assignEach [.Subscript (.Name x npos) a tpos] (Xs j).env).map (·.2) = [assign (.Subscript (.Name x npos) a tpos) (Xs j).env] := by exact fun _ => rfl)
    (h2 : ∀ j, ∀ v, assign (.Subscript (.Name x npos) a tpos) (Xs j).env v = (do
      let ov ← holding [v] (eval (.Name x npos) (Xs j).env)
      let iv ← holding [v, ov] (eval a (Xs j).env)
      standAt tpos
      holding [v, ov, iv] (setItem ov iv v)
      release [v, ov, iv] []) := by exact fun _ _ => rfl) : PSD K Xs (.Assign [.Subscript (.Name x npos) a tpos] e pos) γ (.nx (γ.set i (.ow (.lst (ds.set n d))))) := by
  refine .of (t := tAsg (anyE Xs e) (gSub (tVar i) (anyE Xs a) rSetL)) (fun j => ps_asg (pe_any e j) (pg_sub (pe_self i fx hN hv hd hcd j) (pe_any a j) set_list (h2 j)) (hs j) (hw j) (h1 j)) fun H0 S0 S H σ D k q => ?_
  obtain ⟨l, hl1, h1, h2, xs, hx, t⟩ := k.en i _ hg
  refine he H0 S0 S H σ k _ fun v S1 H1 g1 s1 r1 => ⟨_, hl1, ha H0 S0 S1 H1 σ (k.grow g1 s1) _ fun y S2 H2 g2 s2 r2 => ?_⟩
  have g := g1.trans g2
  cases r2
  exact ⟨l, xs, _, n, rfl, rfl, g.hh _ _ hx, by rw [t.length]; exact hn, q S2 _ σ ((k.grow g s2).own hg hl1 ⟨_, upd_same, Dats.set (Dat.ex g2.ss r1) n (t.ex g.ss)⟩)⟩
/-- x.f = e, x an own object -/
theorem psd_fput (fx : Fx Xs P w K mg base N k) (i : Nat) {cn f : Str} {fs : List (Str × D)} (hg : γ[i]? = some (.ow (.obj cn fs)) := by rfl) (he : PED K Xs e γ (.sh d)) (hc : Cls K (He.ga K cn)) (hn : NoAttr K (He.ga K cn) f) (hl : fs.length < 1000 := by exact Nat.le_of_ble_eq_true rfl) (hnew : f ∉ fs.map (·.1) := by exact notIn rfl) (hN : N[i]? = some x := by rfl) (hv : ∀ j, Vis (Xs j).env.scope x := by first | exact fun _ => Or.inl rfl | exact fun _ => Or.inr (Or.inl rfl) | exact fun _ => Or.inr (Or.inr rfl))
    (hd : (x == ("__debug__" : Str)) = false := by decide) (hcd : (x == ("__classdict__" : Str)) = false := by decide)
    (hs : ∀ j, swapsWith e (some (.Attribute (.Name x npos) f tpos)) pos.line (Xs j).env = pure false := by exact fun _ => rfl) : PSD K Xs (.Assign [.Attribute (.Name x npos) f tpos] e pos) γ (.nx (γ.set i (.ow (.obj cn (fs ++ [(f, d)]))))) := by
  refine .of (t := sFld K (tVar i) (anyE Xs e) f) (fun j => ?_) fun H0 S0 S H σ D k q => ?_
  · have z := ps_fld (pos := pos) (pos' := tpos) (f := f) (pe_self i fx hN hv hd hcd j) (pe_any e j) (hs j)
    rw [fx.hK j] at z
    exact z
  · obtain ⟨l, hl1, h1, h2, dx, xs, hx, hk, t⟩ := k.en i _ hg
    refine he H0 S0 S H σ k _ fun v S1 H1 g s r1 => ⟨_, hl1, l, _, dx, xs, rfl, g.hh _ _ hx, hc, hn, ?_, ?_⟩
    · have : xs.length = fs.length := by simpa using congrArg List.length hk
      omega
    · have e1 : ∀ ys : List (Str × V), f ∉ ys.map (·.1) → putF f v ys = ys ++ [(f, v)] := by
        intro ys
        induction ys with
        | nil => intro _; rfl
        | cons p r ih =>
          intro hn
          obtain ⟨g, y⟩ := p
          rw [List.map_cons, List.mem_cons, not_or] at hn
          show (if g = f then _ else (g, y) :: putF f v r) = _
          rw [if_neg (fun z => hn.1 z.symm), ih hn.2]
          rfl
      rw [e1 xs (by rw [hk]; exact hnew)]
      exact q S1 _ σ ((k.grow g s).own hg hl1 ⟨dx, _, upd_same, by rw [List.map_append, List.map_append, hk]; rfl, by rw [List.map_append, List.map_append]; exact (t.ex g.ss).snoc r1⟩)
/-- a call that changes nothing and gives nothing, in a statement -/
theorem psd_call (h : PED K Xs e γ (.sh .non)) (hs : ∀ j, swapsWith e none pos.line (Xs j).env = pure false := by exact fun _ => rfl) : PSD K Xs (.Expr e pos) γ (.nx γ) := psd_expr h hs
/-- del x[a], x an own list -/
theorem psd_ldel (fx : Fx Xs P w K mg base N k) (i : Nat) {m : Int} {n : Nat} (hg : γ[i]? = some (.ow (.lst ds)) := by rfl) (ha : PED K Xs a γ (.sh (.int m))) (h1 : -(2 ^ 63) ≤ m ∧ m < 2 ^ 63) (hn : seqIndex? m ds.length = some n) (hN : N[i]? = some x := by rfl) (hv : ∀ j, Vis (Xs j).env.scope x := by first | exact fun _ => Or.inl rfl | exact fun _ => Or.inr (Or.inl rfl) | exact fun _ => Or.inr (Or.inr rfl))
    (hd : (x == ("__debug__" : Str)) = false := by decide) (hcd : (x == ("__classdict__" : Str)) = false := by decide) : PSD K Xs (.Delete [.Subscript (.Name x npos) a tpos] pos) γ (.nx (γ.set i (.ow (.lst (ds.eraseIdx n))))) := by
  refine .of (t := tDelL (tVar i) (anyE Xs a)) (fun j => ps_delL (pe_self i fx hN hv hd hcd j) (pe_any a j)) fun H0 S0 S H σ En k q => ?_
  obtain ⟨l, hl1, hs1, hs2, xs, hx, t⟩ := k.en i _ hg
  refine ⟨_, hl1, ha H0 S0 S H σ k _ fun y S1 H1 g s r => ?_⟩
  cases r
  refine ⟨l, xs, m, n, rfl, rfl, g.hh _ _ hx, h1.1, h1.2, by rw [t.length]; exact hn, q S1 _ σ ((k.grow g s).own hg hl1 ⟨_, upd_same, ?_⟩)⟩
  have er : ∀ (n : Nat) (vs : List V) (ds : List D), Dats K S1 vs ds → Dats K S1 (vs.eraseIdx n) (ds.eraseIdx n) := by
    intro n
    induction n with
    | zero => intro vs ds h; cases h with | nil => exact .nil | cons _ t => exact t
    | succ n ih => intro vs ds h; cases h with | nil => exact .nil | cons h t => exact .cons h (ih _ _ t)
  exact er n _ _ (t.ex g.ss)
/-- x.m(e, ..), a list's method that changes x -/
theorem psd_insert (fx : Fx Xs P w K mg base N k) (i : Nat) {m : Nat} (hg : γ[i]? = some (.ow (.lst ds)) := by rfl) (ha : PAD K Xs [a, b] γ [.int m, d]) (hl : ds.length < sizeLine) (hm : (m : Int) < 2 ^ 63) (hN : N[i]? = some x := by rfl) (hv : ∀ j, Vis (Xs j).env.scope x := by first | exact fun _ => Or.inl rfl | exact fun _ => Or.inr (Or.inl rfl) | exact fun _ => Or.inr (Or.inr rfl))
    (hd : (x == ("__debug__" : Str)) = false := by decide) (hcd : (x == ("__classdict__" : Str)) = false := by decide) (hbase : ∀ j, attributeBase (.Name x npos) "insert" (Xs j).env (eval (.Name x npos) (Xs j).env) = eval (.Name x npos) (Xs j).env := by exact fun _ => rfl)
    (hfew : ∀ j, ((backTo pos (starEach [a, b] (Xs j).env)).all (fun x => !x.1) && (backToKw pos (keywordEach [] (Xs j).env)).all (fun x => x.1.isSome) && decide (([a, b] : List Expr).length + ([] : List Keyword).length + (if ([] : List Keyword).isEmpty then 0 else 1) < 30)) = true := by exact fun _ => rfl)
    (hline : (apos.endLine == pos.line) = true := by rfl) (hs : ∀ j, starEach [a, b] (Xs j).env = (false, eval a (Xs j).env) :: starEach [b] (Xs j).env := by exact fun _ => rfl) (hplain : ∀ j, (backTo pos (starEach [b] (Xs j).env)).any (·.1) = false := by exact fun _ => rfl)
    (hsw : ∀ j, swapsWith (.Call (.Attribute (.Name x npos) "insert" apos) [a, b] [] pos) none pos'.line (Xs j).env = pure false := by exact fun _ => rfl) : PSD K Xs (.Expr (.Call (.Attribute (.Name x npos) "insert" apos) [a, b] [] pos) pos') γ (.nx (γ.set i (.ow (.lst (ds.take m ++ [d] ++ ds.drop m))))) := by
  refine .of (t := tDrop (tBM K "list" (fun x vs H Q => ∃ (l : Addr) (xs : List V) (i : Int) (y : V), x = .ref l ∧ vs = [.int i, y] ∧ H l = some (.lst xs) ∧ xs.length < sizeLine ∧ 0 ≤ i ∧ i < 2 ^ 63 ∧ Q .non (upd H l (.lst (xs.take i.toNat ++ [y] ++ xs.drop i.toNat)))) (tVar i) (anyA Xs [a, b]))) (fun j => ps_expr ?_ (hsw j)) fun H0 S0 S H σ D k q => ?_
  · have z := pe_bm (X := Xs j) PySem.F.plainAttrs_list PySem.F.slot_list_insert PySem.F.type_list_insert mt_insert (pe_self i fx hN hv hd hcd j) (pa_any [a, b] j) (hbase j) (hfew j) hline (hs j) (hplain j)
    rw [fx.hK j] at z
    exact z
  · obtain ⟨l, hl1, h1, h2, xs, hx, t⟩ := k.en i _ hg
    refine ⟨_, hl1, .inl ⟨rfl, xs, SqL.of hx⟩, ha H0 S0 S H σ k _ fun vs S' H' g s r => ?_⟩
    cases r with
    | cons r1 r2 =>
      cases r1
      cases r2 with
      | cons r2 r3 =>
        cases r3
        refine ⟨l, xs, m, _, rfl, rfl, g.hh _ _ hx, by rw [t.length]; exact hl, by omega, hm, ?_⟩
        refine q S' _ σ ((k.grow g s).own hg hl1 ⟨_, upd_same, ?_⟩)
        have t' := t.ex g.ss
        rw [Int.toNat_natCast]
        exact ((t'.take m).append (.one r2)).append (t'.drop m)
end

/-! ### an __init__ -/
/-- statements that leave the first slot as it is -/
def StE (K : PySem.W.Frag) (ts : TS) (γ γ' : Gm) : Prop := ∀ (H0 S0 S H : Hp) (σ : L2.St) (En : Ends), Ok K H0 S0 S H σ γ → (∀ S' H' σ', Ok K H0 S0 S' H' σ' γ' → σ'[0]? = σ[0]? → En.nx σ' H') → ts En σ H
def PSE (K : PySem.W.Frag) {ι : Type} (Xs : ι → Cx) (st : Stmt) (γ γ' : Gm) : Prop := StE K (anyS Xs st) γ γ'
def PSsE (K : PySem.W.Frag) {ι : Type} (Xs : ι → Cx) (st : List Stmt) (γ γ' : Gm) : Prop := StE K (anySs Xs st) γ γ'
section
variable {ι : Type} {Xs : ι → Cx} {P : Program} {w : World} {K : PySem.W.Frag} {mg : Str → Option Value} {base : Heap} {N : List Str} {k : Nat} {γ γ' γ1 γ2 : Gm} {d d1 d2 : D} {ds : List D} {rs r : Slot} {e a b c o : Expr} {es : List Expr} {pos pos' apos tpos npos : Pos} {x : Str} {st : Stmt} {sts : List Stmt}
theorem psse_nil : PSsE K Xs [] γ γ := fun H0 S0 S H σ En k q => ⟨tNext, fun _ => pss_nil, q S H σ k rfl⟩
theorem psse_cons (h1 : PSE K Xs st γ γ1) (h2 : PSsE K Xs sts γ1 γ2) : PSsE K Xs (st :: sts) γ γ2 := fun H0 S0 S H σ En k q =>
  ⟨tSeq (anyS Xs st) (anySs Xs sts), fun i => pss_cons (ps_any st i) (pss_any sts i), h1 H0 S0 S H σ { En with nx := anySs Xs sts En } k fun S1 H1 σ1 k1 e1 => h2 H0 S0 S1 H1 σ1 En k1 fun S2 H2 σ2 k2 e2 => q S2 H2 σ2 k2 (e2.trans e1)⟩
theorem pse_expr (he : PED K Xs e γ rs) (hs : ∀ j, swapsWith e none pos.line (Xs j).env = pure false := by exact fun _ => rfl) : PSE K Xs (.Expr e pos) γ γ := fun H0 S0 S H σ En k q =>
  ⟨tDrop (anyE Xs e), fun j => ps_expr (pe_any e j) (hs j), he H0 S0 S H σ k _ fun v S' H' g s r => q S' H' σ (k.grow g s) rfl⟩
theorem pse_set (fx : Fx Xs P w K mg base N k) (i : Nat) (he : PED K Xs e γ rs) (hN : N[i]? = some x := by rfl) (hi : i < γ.length := by exact Nat.le_of_ble_eq_true rfl) (h0 : i ≠ 0 := by decide) (hx : ∀ j, Loc (Xs j).env.scope x := by first | exact fun _ => Or.inl rfl | exact fun _ => Or.inr rfl)
    (hs : ∀ j, swapsWith e (some (.Name x pos')) pos.line (Xs j).env = pure false := by exact fun _ => rfl) (hf : ∀ j, (Xs j).fn x = true ∨ (Xs j).env.scope.names.lookup x = some .local := by first | exact fun _ => Or.inl rfl | exact fun _ => Or.inr rfl) : PSE K Xs (.Assign [.Name x pos'] e pos) γ (γ.set i rs) := fun H0 S0 S H σ En k q =>
  ⟨tAsg (anyE Xs e) (gName i), fun j => ps_set (i := i) (by rw [fx.hN j]; exact fx.nd) (by rw [fx.hN j]; exact hN) (hx j) (pe_any e j) (hs j) (hf j), he H0 S0 S H σ k _ fun v S' H' g s r => q S' H' _ (k.res g s r hi) (List.getElem?_set_ne h0)⟩
theorem pse_fput (fx : Fx Xs P w K mg base N k) {cn f : Str} {fs : List (Str × D)} (hg : γ[0]? = some (.ow (.obj cn fs)) := by rfl) (he : PED K Xs e γ rs) (hr : rs = .sh d ∨ rs = .ow d := by first | exact Or.inl rfl | exact Or.inr rfl) (hc : Cls K (He.ga K cn)) (hn : NoAttr K (He.ga K cn) f) (hl : fs.length < 1000 := by exact Nat.le_of_ble_eq_true rfl) (hnew : f ∉ fs.map (·.1) := by exact notIn rfl) (hN : N[0]? = some x := by rfl) (hv : ∀ j, Vis (Xs j).env.scope x := by first | exact fun _ => Or.inl rfl | exact fun _ => Or.inr (Or.inl rfl) | exact fun _ => Or.inr (Or.inr rfl))
    (hd : (x == ("__debug__" : Str)) = false := by decide) (hcd : (x == ("__classdict__" : Str)) = false := by decide)
    (hs : ∀ j, swapsWith e (some (.Attribute (.Name x npos) f tpos)) pos.line (Xs j).env = pure false := by exact fun _ => rfl) : PSE K Xs (.Assign [.Attribute (.Name x npos) f tpos] e pos) γ (γ.set 0 (.ow (.obj cn (fs ++ [(f, d)])))) := by
  have he' : PED K Xs e γ (.sh d) := by
    rcases hr with z | z
    · rw [z] at he; exact he
    · rw [z] at he; exact he.share
  refine fun H0 S0 S H σ En k q => ⟨sFld K (tVar 0) (anyE Xs e) f, fun j => ?_, ?_⟩
  · have z := ps_fld (pos := pos) (pos' := tpos) (f := f) (pe_self 0 fx hN hv hd hcd j) (pe_any e j) (hs j)
    rw [fx.hK j] at z
    exact z
  · obtain ⟨l, hl1, h1, h2, dx, xs, hx, hk, t⟩ := k.en 0 _ hg
    refine he' H0 S0 S H σ k _ fun v S1 H1 g s r1 => ⟨_, hl1, l, _, dx, xs, rfl, g.hh _ _ hx, hc, hn, ?_, ?_⟩
    · have : xs.length = fs.length := by simpa using congrArg List.length hk
      omega
    · have e1 : ∀ ys : List (Str × V), f ∉ ys.map (·.1) → putF f v ys = ys ++ [(f, v)] := by
        intro ys
        induction ys with
        | nil => intro _; rfl
        | cons p r ih =>
          intro hn
          obtain ⟨g, y⟩ := p
          rw [List.map_cons, List.mem_cons, not_or] at hn
          show (if g = f then _ else (g, y) :: putF f v r) = _
          rw [if_neg (fun z => hn.1 z.symm), ih hn.2]
          rfl
      rw [e1 xs (by rw [hk]; exact hnew)]
      exact q S1 _ σ ((k.grow g s).own hg hl1 ⟨dx, _, upd_same, by rw [List.map_append, List.map_append, hk]; rfl, by rw [List.map_append, List.map_append]; exact (t.ex g.ss).snoc r1⟩) rfl
end
/-- THE RULE for an __init__ by data -/
theorem init_data {P : Program} {w : World} {K : PySem.W.Frag} {mg : Str → Option Value} {base : Heap} {k : Nat} {x qual : Str} {params : Arguments} {body : List Stmt} {scope : Scope} {dvs : List V} {kws : List (Str × V)} {f : Addr} {fd : FuncData} {n0 : Str} {N ps : List Str} {c : Str} {Pr : List D → List (Str × D) → Prop} (F : FunD K x qual params body scope dvs kws f fd) (Sc : FnScope (n0 :: N) ps scope) (len : ∀ ds r, Pr ds r → ds.length + 1 = ps.length)
    (h : ∀ (cdv : Value) (A : Around) (outer : List Env) (s : Shared) (H : Hp) (E : XK), Fx (bodyX P w K mg base (n0 :: N) qual scope f cdv A outer s H E) P w K mg base (n0 :: N) k → ∀ ds fs, Pr ds fs → ∃ γ, PSsE K (bodyX P w K mg base (n0 :: N) qual scope f cdv A outer s H E) body (.ow (.obj c []) :: γ0 N ds) γ ∧ γ[0]? = some (.ow (.obj c fs))) : FnOk P w K mg base (L2.CX P w) (k + 1) f fd ps (spI K c Pr) := by
  refine F.ok Sc (fun vs H Q E ⟨S, y, dx, us, ds, fs, e, _, _, _, hd, hp, _⟩ => by rw [e, List.length_cons, hd.length]; exact len ds fs hp) fun cdv A outer s H vs Q E hr ⟨S, y, dx, us, ds, fs, e, hs, hSy, hHy, hd, hp, q⟩ => ?_
  subst e
  have fx : Fx (bodyX P w K mg base (n0 :: N) qual scope f cdv A outer s H E) P w K mg base (n0 :: N) k := ⟨fun _ => rfl, fun _ => rfl, fun _ => rfl, fun _ => rfl, fun _ => rfl, fun _ => rfl, Sc.nd, fun _ => rfl, fun _ => hr⟩
  obtain ⟨γ, ho, hg⟩ := h cdv A outer s H E fx ds fs hp
  have hpl : ds.length ≤ N.length := by
    have h1 := congrArg List.length Sc.pre
    rw [List.length_take, List.length_cons] at h1
    have h2 := len ds fs hp
    omega
  let H0 : Hp := fun b => if b = y then none else H b
  have h0e : Ex H0 H := fun b u hb => by
    by_cases e : b = y
    · have : H0 b = none := if_pos e
      rw [this] at hb; cases hb
    · have : H0 b = H b := if_neg e
      rw [this] at hb; exact hb
  have hH0 : H0 y = none := if_pos rfl
  have hH1 : ∀ b, b ≠ y → H0 b = H b := fun b hb => if_neg hb
  have z := ok_start (K := K) (N := N) (H := H) hs hd hpl
  have k0 : Ok K H0 S S H (some (.ref y) :: L2.start N us) (.ow (.obj c []) :: γ0 N ds) := by
    refine ⟨h0e, Same.refl _, hs, fun b o h n => (by rw [n] at h; cases h), by rw [List.length_cons, List.length_cons, z.len], fun i t ht => ?_, fun i j d e l hi hj _ _ => ?_⟩
    · cases i with
      | zero => cases ht; exact ⟨y, rfl, hSy, hH0, dx, [], hHy, rfl, .nil⟩
      | succ i =>
        have q := z.en i t ht
        cases t with
        | un => trivial
        | tw _ _ => trivial
        | sh d => exact q
        | ow d =>
          exfalso
          have ht' : (γ0 N ds)[i]? = some (.ow d) := ht
          unfold γ0 at ht'
          by_cases h1 : i < ds.length
          · rw [List.getElem?_append_left (by rw [List.length_map]; exact h1), List.getElem?_map] at ht'
            cases e : ds[i]? with
            | none => rw [e] at ht'; cases ht'
            | some d => rw [e] at ht'; cases ht'
          · rw [List.getElem?_append_right (by rw [List.length_map]; omega), List.getElem?_replicate] at ht'
            split at ht' <;> cases ht'
    · have no : ∀ (i : Nat) (d : D), (γ0 N ds)[i]? ≠ some (.ow d) := fun i d ht' => by
        unfold γ0 at ht'
        by_cases h1 : i < ds.length
        · rw [List.getElem?_append_left (by rw [List.length_map]; exact h1), List.getElem?_map] at ht'
          cases e : ds[i]? with
          | none => rw [e] at ht'; cases ht'
          | some d => rw [e] at ht'; cases ht'
        · rw [List.getElem?_append_right (by rw [List.length_map]; omega), List.getElem?_replicate] at ht'
          split at ht' <;> cases ht'
      cases i with
      | zero =>
        cases j with
        | zero => rfl
        | succ j => exact absurd hj (no j e)
      | succ i => exact absurd hi (no i d)
  have est : L2.start (n0 :: N) (.ref y :: us) = some (.ref y) :: L2.start N us := by
    unfold L2.start
    simp
  refine ⟨_, (pss_any (Xs := bodyX P w K mg base (n0 :: N) qual scope f cdv A outer s H E) body ()).nox, ?_⟩
  rw [est]
  refine ho H0 S S H _ _ k0 fun S' H' σ' k' e' => ?_
  obtain ⟨l, hl, hl1, hl2, hl3⟩ := k'.en 0 _ hg
  rw [e'] at hl
  have hly : l = y := by
    have : some (some (V.ref y)) = some (some (V.ref l)) := hl
    cases this; rfl
  subst hly
  refine q S' H' k'.s0 (fun b o hb hne => k'.h0 b o (by rw [hH1 b hne]; exact hb)) (fun b o hb hn => ?_) k'.sh hl3
  by_cases e : b = l
  · subst e; rw [hl1] at hb; cases hb
  · rw [← hH1 b e]; exact k'.nw b o hb hn
end Wd
set_option Elab.async false
set_option linter.all false
set_option maxRecDepth 100000
set_option maxHeartbeats 1000000
/-! Displays of dicts: keys ints and texts, keys tuples of such. -/
namespace L2
open PySem PySem.Spec PyProof.Rows
def mergeT (kvs more : List (List Key × V)) : List (List Key × V) := more.foldl (fun acc kv => putK acc kv.1 kv.2) kvs
/-- a pair that was made, a key and a value -/
def KeyAt (H : Hp) (p : V × V) (kv : List Key × V) : Prop := (∃ a, p.1 = .ref a ∧ H a = some (.tup (kv.1.map kV))) ∧ p.2 = kv.2
theorem carriesT_of {P : Program} {w : World} {H : Hp} {h : Heap} (ok : HOk P w H h) : ∀ {ps : List (V × V)} {kvs : List (List Key × V)} {ws : List (Value × Value)}, Paired (KeyAt H) ps kvs → VV ps ws →
    ∃ rs : List (List Key × Addr × Value), CarriesH (tupleKind (mixKind P w)) h ws rs ∧ KT H kvs rs
  | _, _, _, .nil, .nil => ⟨[], True.intro, .nil⟩
  | _, _, _, .cons (a := p) (b := kv) q t, .cons (b := b) r t' => by
    obtain ⟨rs, c, k⟩ := carriesT_of (P := P) (w := w) ok t t'
    obtain ⟨⟨a, e1, e2⟩, e3⟩ := q
    obtain ⟨b1, b2⟩ := b
    obtain ⟨r1, r2⟩ := r
    rw [e1] at r1
    cases (show b1 = Value.ref a from r1)
    refine ⟨(kv.1, a, b2) :: rs, ⟨rfl, rfl, key_of ok e2, c⟩, .cons ⟨rfl, e2, ?_⟩ k⟩
    rw [← e3]
    exact r2
theorem KT.merge {H : Hp} : ∀ {more : List (List Key × V)} {rs : List (List Key × Addr × Value)} {kvs : List (List Key × V)} {xs : List (List Key × Addr × Value)}, KT H more rs → KT H kvs xs → KT H (mergeT kvs more) (storedAllH xs rs) := by
  intro more rs kvs xs r
  induction r generalizing kvs xs with
  | nil => intro q; exact q
  | @cons p q ps qs h t ih =>
    intro r0
    have e : KT H (putK kvs p.1 p.2) (storedH xs q.1 q.2.1 q.2.2) := by
      have := r0.put p.1 h.2.1 h.2.2
      rw [← h.1]; exact this
    exact ih e
theorem length_mergeT : ∀ (more kvs : List (List Key × V)), (mergeT kvs more).length ≤ kvs.length + more.length
  | [], kvs => by show kvs.length ≤ kvs.length + 0; omega
  | p :: r, kvs => by
    have h1 := length_mergeT r (putK kvs p.1 p.2)
    have h2 := length_putK kvs p.1 p.2
    show (mergeT (putK kvs p.1 p.2) r).length ≤ _
    rw [List.length_cons]; omega
/-- {(..): v, ..}: the new dict stands empty while the pairs are made -/
def tDispT (trs : List (TE × TE)) : TE := fun σ H Q => ∀ p, H p = none → tPairs trs σ (upd H p (.dT [])) fun ps H2 => H2 p = some (.dT []) ∧ ∃ kvs : List (List Key × V), Paired (KeyAt H2) ps kvs ∧ kvs.length ≤ 15 ∧ Q (.ref p) (upd H2 p (.dT (mergeT [] kvs)))
theorem pe_dispT {X : Cx} {pos : Pos} {keys : List (Option Expr)} {values : List Expr} {trs : List (TE × TE)} (hu : X.A.units + 1 < cLine) (h : PPs X pos keys values trs) (hall : keys.all (·.isSome) = true) (hl : keys.length = values.length) (h0 : keys ≠ [])
    (h15 : keys.length ≤ 15) : PE X (.Dict keys values pos) (tDispT trs) := by
  refine ⟨fun pins s σ H Q I q => ?_⟩
  have hn := I.hok.fresh (Nat.le_refl s.heap.objs.size)
  have I1 := I.laid (a := s.heap.objs.size) (o := .dT []) (h' := s.heap.push { cls := .type "dict", data := .dict #[] }) (t' := s.toks) (fun _ _ q => Heap.get?_push_of_some _ q) (Nat.le_refl _) (dt_empty s.heap I.big)
  have hlen := pairTrees_length keys values X.env pos hall hl
  have hne : pairTrees keys values X.env pos ≠ [] := fun e => by
    rw [e] at hlen
    exact h0 (List.length_eq_zero_iff.mp hlen.symm)
  rw [arm_eval_Dict, zip_pairTrees keys values X.env pos hall hl, dictDisplay_pairs _ hne (by rw [hlen]; omega)]
  refine wpAny_bind (wpAny_standAt (wpAny_bind (wpAny_subDictH (knd := tupleKind (mixKind X.prog X.w)) (show X.A.units < cLine by omega) (by rw [hlen]; exact h15) ?_)))
  refine thn (h.run pins _ σ _ _ I1 (q _ hn)) fun ws s2 ⟨ps, H2, I2, rel, e, kvs, ep, lk, q2⟩ => ?_
  obtain ⟨rs, c, rk⟩ := carriesT_of (P := X.prog) (w := X.w) I2.hok ep rel
  obtain ⟨z, hd, xs0, r0, dd⟩ := dt_of I2.hok e
  cases r0
  refine ⟨rs, c, dd, fun h' tk dd' hs => wpAny_pure ⟨.ref s.heap.objs.size, _, ?_, rfl, q2⟩⟩
  have hz : (mergeT [] kvs).length ≤ sizeLine := by
    have h1 := length_mergeT kvs []
    rw [List.length_nil] at h1
    rw [sizeLine_eq]; omega
  obtain ⟨ob, es, ep', hq, h2, h3, h4, _, h5⟩ := dd'
  refine d_write (t' := tk) I2 (by rw [e]; exact True.intro) hs ⟨ob, hq⟩ ⟨hz, hd, _, (rk.merge .nil).keeps fun c ys ec => ?_, ob, es, ep', hq, h2, h3, h4, h5⟩
  rw [upd_ne (ne_of ec e (fun z => nomatch z))]
  exact ec
end L2
namespace Wd
open PySem PySem.Spec L2
open PyProof.Rows hiding St
theorem merge_nodup {κ : Type} [DecidableEq κ] : ∀ (more acc : List (κ × V)), ((acc ++ more).map (·.1)).Nodup → more.foldl (fun acc kv => putK acc kv.1 kv.2) acc = acc ++ more
  | [], acc, _ => by simp
  | p :: r, acc, h => by
    have hn : p.1 ∉ acc.map (·.1) := by
      rw [List.map_append, List.nodup_append] at h
      exact fun z => h.2.2 _ z _ (by rw [List.map_cons]; exact List.mem_cons_self) rfl
    have e : putK acc p.1 p.2 = acc ++ [p] := by
      unfold putK
      rw [if_neg]
      rw [List.any_eq_true]
      rintro ⟨q, hq, e⟩
      exact hn (by rw [← of_decide_eq_true e]; exact List.mem_map_of_mem hq)
    show r.foldl _ (putK acc p.1 p.2) = _
    rw [e, merge_nodup r (acc ++ [p]) (by rw [List.append_assoc]; exact h), List.append_assoc]
    rfl
section
variable {ι : Type} {Xs : ι → Cx} {P : Program} {w : World} {K : PySem.W.Frag} {mg : Str → Option Value} {base : Heap} {N : List Str} {k : Nat} {γ : Gm} {d : D} {e a b : Expr} {pos : Pos} {ks : List (Option Expr)} {vs : List Expr}
def trsOf (Xs : ι → Cx) : List (Option Expr) → List Expr → List (TE × TE)
  | some k :: ks, v :: vs => (anyE Xs k, anyE Xs v) :: trsOf Xs ks vs
  | _, _ => []
theorem pps_trs : ∀ (ks : List (Option Expr)) (vs : List Expr), ks.all (·.isSome) = true → ks.length = vs.length → ∀ i, PPs (Xs i) pos ks vs (trsOf Xs ks vs)
  | [], [], _, _, _ => pps_nil
  | [], _ :: _, _, h, _ => nomatch h
  | _ :: _, [], _, h, _ => nomatch h
  | none :: ks, _ :: _, h, _, _ => by simp at h
  | some k :: ks, v :: vs, h, hl, i => pps_cons (pe_any k i) (pe_any v i) (pps_trs ks vs (by simpa using h) (by simpa using hl) i)
/-- the pairs as data: keys, values -/
def PPD (K : PySem.W.Frag) (Xs : ι → Cx) (ks : List (Option Expr)) (vs : List Expr) (γ : Gm) (kd vd : List D) : Prop := ∀ (H0 S0 S H : Hp) (σ : L2.St), Ok K H0 S0 S H σ γ → ∀ Q : List (V × V) → Hp → Prop,
  (∀ ps S' H', Gr S H S' H' → Sub S' H' → Dats K S' (ps.map (·.1)) kd → Dats K S' (ps.map (·.2)) vd → Q ps H') → tPairs (trsOf Xs ks vs) σ H Q
theorem ppd_nil : PPD K Xs [] [] γ [] [] := fun H0 S0 S H σ k Q q => q [] S H (Gr.refl _ _) k.sh .nil .nil
theorem ppd_cons {dk dv : D} {kd vd : List D} (h1 : PED K Xs a γ (.sh dk)) (h2 : PED K Xs b γ (.sh dv)) (h3 : PPD K Xs ks vs γ kd vd) : PPD K Xs (some a :: ks) (b :: vs) γ (dk :: kd) (dv :: vd) := fun H0 S0 S H σ k Q q =>
  h1 H0 S0 S H σ k _ fun x S1 H1 g1 s1 r1 => h2 H0 S0 S1 H1 σ (k.grow g1 s1) _ fun y S2 H2 g2 s2 r2 => h3 H0 S0 S2 H2 σ ((k.grow g1 s1).grow g2 s2) _ fun ps S3 H3 g3 s3 t1 t2 =>
    q ((x, y) :: ps) S3 H3 ((g1.trans g2).trans g3) s3 (.cons (Dat.ex (Same.trans g2.ss g3.ss) r1) t1) (.cons (Dat.ex g3.ss r2) t2)
theorem gr_new {S H : Hp} {p : Addr} {o : HO} (hp : H p = none) : Gr S H S (upd H p o) := ⟨Same.refl _, Ex.new hp, fun b u h n => by rw [n] at h; cases h⟩
theorem pairs_keys {S : Hp} : ∀ {ps : List (V × V)} {kvs : List (Key × D)}, Dats K S (ps.map (·.1)) (kvs.map fun p => keyD p.1) → ∃ kv : List (Key × V), ps = kv.map (fun kv => (kV kv.1, kv.2)) ∧ kv.map (·.1) = kvs.map (·.1) ∧ kv.map (·.2) = ps.map (·.2)
  | [], [], _ => ⟨[], rfl, rfl, rfl⟩
  | [], _ :: _, h => nomatch h
  | _ :: _, [], h => nomatch h
  | p :: ps, q :: kvs, .cons h t => by
    obtain ⟨kv, e1, e2, e3⟩ := pairs_keys t
    refine ⟨(q.1, p.2) :: kv, ?_, by rw [List.map_cons, List.map_cons, e2], by rw [List.map_cons, List.map_cons, e3]⟩
    rw [List.map_cons, ← e1]
    have := kV_of h
    obtain ⟨p1, p2⟩ := p
    rw [← this]
theorem pairs_keysT {S H : Hp} (s : Sub S H) : ∀ {ps : List (V × V)} {kvs : List (List Key × D)}, Dats K S (ps.map (·.1)) (kvs.map fun p => D.tup (p.1.map keyD)) → ∃ kv : List (List Key × V), Paired (KeyAt H) ps kv ∧ kv.map (·.1) = kvs.map (·.1) ∧ kv.map (·.2) = ps.map (·.2)
  | [], [], _ => ⟨[], .nil, rfl, rfl⟩
  | [], _ :: _, h => nomatch h
  | _ :: _, [], h => nomatch h
  | p :: ps, q :: kvs, h => by
    obtain ⟨p1, p2⟩ := p
    have h' : Dats K S (p1 :: ps.map (·.1)) (D.tup (q.1.map keyD) :: kvs.map fun p => D.tup (p.1.map keyD)) := h
    cases h' with
    | cons h t =>
      obtain ⟨kv, e1, e2, e3⟩ := pairs_keysT s t
      cases h with
      | tup a1 t1 =>
        have ex := keys_of t1
        subst ex
        exact ⟨(q.1, p2) :: kv, .cons ⟨⟨_, rfl, s.tup a1⟩, rfl⟩ e1, by rw [List.map_cons, List.map_cons, e2], by rw [List.map_cons, List.map_cons, e3]⟩
/-- {k: v, ..} -/
theorem pd_disp (fx : Fx Xs P w K mg base N k) (kvs : List (Key × D)) (h : PPD K Xs ks vs γ (kvs.map fun p => keyD p.1) (kvs.map (·.2))) (nd : (kvs.map (·.1)).Nodup) (h15 : kvs.length ≤ 15 := by decide) (hall : ks.all (·.isSome) = true := by rfl) (hl : ks.length = vs.length := by rfl) (h0 : ks ≠ [] := by exact fun z => nomatch z) (hk : ks.length ≤ 15 := by decide) :
    PED K Xs (.Dict ks vs pos) γ (.ow (.dk kvs)) := by
  refine .of (fun i => pe_disp (pps_trs (pos := pos) ks vs hall hl i) hall hl h0 hk) fun H0 S0 S H σ k Q q p hp => ?_
  have g0 := gr_new (S := S) (o := .dK []) hp
  refine h H0 S0 S _ σ (k.grow g0 (k.sh.ex g0.hh)) _ fun ps S' H' g s t1 t2 => ?_
  obtain ⟨kv, e1, e2, e3⟩ := pairs_keys t1
  have hp' : H' p = some (.dK []) := g.hh _ _ upd_same
  have hS' : S' p = none := g.out (k.sh.out hp) upd_same
  have hlen : kv.length = kvs.length := by simpa using congrArg List.length e2
  have em : mergeK [] kv = kv := merge_nodup kv [] (by rw [List.nil_append, e2]; exact nd)
  refine ⟨hp', kv, e1, by rw [hlen]; exact h15, ?_⟩
  rw [em]
  have gg := g0.trans g
  refine q (.ref p) S' _ ⟨gg.ss, fun b o hb => by rw [upd_ne (ne_of_none hb hp)]; exact gg.hh b o hb, gg.nw⟩ (s.mut hS') ⟨p, rfl, hS', hp, kv, upd_same, e2, by rw [e3]; exact t2⟩
/-- {(..): v, ..} -/
theorem pd_dispT (fx : Fx Xs P w K mg base N k) (kvs : List (List Key × D)) (h : PPD K Xs ks vs γ (kvs.map fun p => D.tup (p.1.map keyD)) (kvs.map (·.2))) (nd : (kvs.map (·.1)).Nodup) (h15 : kvs.length ≤ 15 := by decide) (hall : ks.all (·.isSome) = true := by rfl) (hl : ks.length = vs.length := by rfl) (h0 : ks ≠ [] := by exact fun z => nomatch z) (hk : ks.length ≤ 15 := by decide) :
    PED K Xs (.Dict ks vs pos) γ (.ow (.dt kvs)) := by
  refine .of (fun i => pe_dispT (fx.hu i) (pps_trs (pos := pos) ks vs hall hl i) hall hl h0 hk) fun H0 S0 S H σ k Q q p hp => ?_
  have g0 := gr_new (S := S) (o := .dT []) hp
  refine h H0 S0 S _ σ (k.grow g0 (k.sh.ex g0.hh)) _ fun ps S' H' g s t1 t2 => ?_
  obtain ⟨kv, e1, e2, e3⟩ := pairs_keysT s t1
  have hp' : H' p = some (.dT []) := g.hh _ _ upd_same
  have hS' : S' p = none := g.out (k.sh.out hp) upd_same
  have hlen : kv.length = kvs.length := by simpa using congrArg List.length e2
  have em : mergeT [] kv = kv := merge_nodup kv [] (by rw [List.nil_append, e2]; exact nd)
  refine ⟨hp', kv, e1, by rw [hlen]; exact h15, ?_⟩
  rw [em]
  have gg := g0.trans g
  refine q (.ref p) S' _ ⟨gg.ss, fun b o hb => by rw [upd_ne (ne_of_none hb hp)]; exact gg.hh b o hb, gg.nw⟩ (s.mut hS') ⟨p, rfl, hS', hp, kv, upd_same, e2, by rw [e3]; exact t2⟩
/-- {} that will have int and text keys; tuples' keys -/
theorem pd_newK : PED K Xs (.Dict [] [] pos) γ (.ow (.dk [])) := .of (fun _ => pe_dnewK) fun H0 S0 S H σ k Q q p hp => q _ S _ (gr_new hp) (k.sh.ex (Ex.new hp)) ⟨p, rfl, k.sh.out hp, hp, [], upd_same, rfl, .nil⟩
theorem pd_newT : PED K Xs (.Dict [] [] pos) γ (.ow (.dt [])) := .of (fun _ => pe_dnewT) fun H0 S0 S H σ k Q q p hp => q _ S _ (gr_new hp) (k.sh.ex (Ex.new hp)) ⟨p, rfl, k.sh.out hp, hp, [], upd_same, rfl, .nil⟩
end
end Wd
set_option Elab.async false
set_option linter.all false
set_option maxRecDepth 100000
set_option maxHeartbeats 1000000
/-! == of equal data: lists, tuples, dicts, dicts with tuple keys, one within another. -/
namespace WdEq
open PySem PySem.Spec
open PySem.SeqAt PySem.AutoSeq1
open MeetsSeq MeetsSeq2 MeetsSeq3 SeqRoads2
section
variable {prog : Program} {w : World}
theorem tup_eqIn (l b : Addr) (items items2 : Array Value) (n n2 : Nat) (dd dd2 : Option Addr) (sl sl2 : Array (Option Value)) (hsz : items.size = items2.size) :
    MeetsIn prog w (Builtin.«tuple.__eq__» ⟨[.ref l, .ref b], []⟩)
      (fun A R s => s.heap.get? l = some { cls := .type "tuple", dict := dd, data := .seq items n, slots := sl } ∧ s.heap.get? b = some { cls := .type "tuple", dict := dd2, data := .seq items2 n2, slots := sl2 } ∧
        (∀ j (h1 : j < items.size) (h2 : j < items2.size), EqP prog w A.in1 s items[j] items2[j] true) ∧
        R (.ok (.ret (.bool true))) s) :=
  .of_wp fun A R s h => by
    obtain ⟨hp, g, d, tk, os⟩ := s; obtain ⟨hl, hb, he, h⟩ := h
    have f2 := AutoSeq1.sub_tuple_tuple
    have hZ : (items.toList.zip items2.toList).length = items.size := by simp [hsz]
    wp_walk using wpAny_loadPart' hl, wpAny_loadPart' hb, wpAny_forIn_list _ (fun rest b s' => b.1 = none ∧ s' = ⟨hp, g, d, tk, os⟩ ∧ ∃ i, rest = (items.toList.zip items2.toList).drop i) _
    case turn =>
      rintro ⟨y, x⟩ rest b s' ⟨hb', rfl, i, hz⟩
      have hlt : i < (items.toList.zip items2.toList).length := by
        rcases Nat.lt_or_ge i (items.toList.zip items2.toList).length with h' | h'
        · exact h'
        · rw [List.drop_of_length_le h'] at hz; cases hz
      have h1 : i < items.size := hZ ▸ hlt
      have h2 : i < items2.size := hsz ▸ h1
      rw [List.drop_eq_getElem_cons hlt] at hz
      injection hz with hyx hrest
      have hy : y = items[i] := by have := congrArg Prod.fst hyx; simpa using this
      have hx : x = items2[i] := by have := congrArg Prod.snd hyx; simpa using this
      subst hy hx
      refine wpAny_bind (he i h1 h2 _ _ ?_)
      wp_walk
      exact ⟨rfl, rfl, i + 1, hrest⟩
    case fin =>
      rintro ⟨b1, b2⟩ s' ⟨hb', rfl, i, hz⟩
      simp only at hb'
      subst hb'
      wp_walk
      refine ⟨_, rfl, ?_⟩
      simpa [Builtin.Tuple.tupleCompareSizes, hsz] using h
    case h =>
      exact ⟨rfl, rfl, 0, rfl⟩
theorem rcP_tuples {A : Around} {s : Shared} {l b : Addr} {items items2 : Array Value} (hl : s.heap.IsTuple l items) (hb : s.heap.IsTuple b items2) (hsz : items.size = items2.size) (hu : A.units < cLine)
    (he : ∀ j (h1 : j < items.size) (h2 : j < items2.size), EqP prog w A.in1 s items[j] items2[j] true) (E Q : Value → Shared → Prop) (h : Q (.bool true) s) : wpAny (model prog w) A (richCompare .Eq (.ref l) (.ref b)) Q E s := by
  obtain ⟨⟨cls, dd, data, sl⟩, ho, hc, n, hd⟩ := id hl
  obtain ⟨⟨cls2, dd2, data2, sl2⟩, ho2, hc2, n2, hd2⟩ := id hb
  simp only at hc hd hc2 hd2
  subst hc hd hc2 hd2
  have ta : s.TypeIs (.ref l) "tuple" := ⟨_, ho, rfl⟩
  have tb : s.TypeIs (.ref b) "tuple" := ⟨_, ho2, rfl⟩
  exact wpAny_richCompare_same_room (op := .Eq) ta tb F.slot_tuple_eq (call_meetsIn F.slot_tuple_eq ta F.entry_tuple_eq (F.args_tuple_eq_2 _ _) (tup_eqIn l b items items2 n n2 dd dd2 sl sl2 hsz)
    ⟨ho, ho2, he, show Value.bool true ≠ Value.notImplemented ∧ Q (.bool true) s from ⟨(fun x => nomatch x), h⟩⟩) hu
end
section
variable {prog : Program} {w : World} {K : Type} [DecidableEq K] {knd : HeapKind prog w K} {A : Around} {E : Value → Shared → Prop} {s : Shared}
theorem samePairsH {nm : String} {a b : Addr} {ka kb : List (K × Addr × Value)} {Q : Bool → Shared → Prop} (hu : knd.room A) (ha : (a == sysModules) = false) (hb : (b == sysModules) = false)
    (da : s.heap.DictOfH knd a ka) (db : s.heap.DictOfH knd b kb) (hlen : ka.length = kb.length) (hits : ∀ x ∈ ka, ∃ (j : Nat) (p : Addr × Value), kb[j]? = some (x.1, p) ∧ EqP prog w A s x.2.2 p.2 true) (h : Q true s) :
    wpAny (model prog w) A (Builtin.Dict.samePairs nm a b) Q E s := by
  obtain ⟨oa, es, ep, hoa, _, hda, hea, hia, _⟩ := da
  obtain ⟨ob, es', ep', hob, _, hdb, heb, hib, hnb⟩ := db
  have hla : es.size = ka.length := size_of_entries hea
  have hlb : es'.size = kb.length := size_of_entries heb
  have hsz : es.size = es'.size := by rw [hla, hlb, hlen]
  unfold Builtin.Dict.samePairs Builtin.Dict.showsAll
  rw [if_neg (show ¬ (a == sysModules) = true by rw [ha]; exact Bool.false_ne_true), if_neg (show ¬ (b == sysModules) = true by rw [hb]; exact Bool.false_ne_true)]
  refine wpAny_bind (wpAny_pure (wpAny_bind (wpAny_pure ?_)))
  refine wpAny_bind (wpAny_dictEntries hoa hda ?_)
  dsimp only
  refine wpAny_bind (wpAny_dictEntries hob hdb ?_)
  rw [if_neg (by rw [hsz]; simp)]
  refine wpAny_bind (wpAny_dictEpoch hoa hda ?_)
  refine wpAny_bind ?_
  rw [Std.Legacy.Range.forIn_eq_forIn_range']
  simp only [Std.Legacy.Range.size, Nat.sub_zero, Nat.add_sub_cancel, Nat.div_one]
  refine wpAny_forIn_list _
    (fun rest q s' => s' = s ∧ q = (none, ()) ∧ ∃ i, rest = List.range' i (es.size - i) ∧ i ≤ es.size)
    _ ?_ ?_ _ _ ⟨rfl, rfl, 0, by simp, Nat.zero_le _⟩
  · rintro x rest q s' ⟨rfl, rfl, i, hr, hi⟩
    have hlt : i < es.size := by
      rcases Nat.lt_or_ge i es.size with h | h
      · exact h
      · rw [Nat.sub_eq_zero_of_le h] at hr; simp at hr
    obtain ⟨rfl, hrest⟩ : x = i ∧ rest = List.range' (i + 1) (es.size - (i + 1)) := by
      have e : es.size - i = (es.size - (i + 1)) + 1 := by omega
      rw [e, List.range'_succ] at hr
      injection hr with h1 h2
      exact ⟨h1, h2⟩
    refine wpAny_bind (wpAny_dictEntries hoa hda ?_)
    have hlt' : x < ka.length := by rw [← hla]; exact hlt
    obtain ⟨k, ad, v, hkv⟩ : ∃ k ad v, ka[x]? = some (k, ad, v) := ⟨_, _, _, List.getElem?_eq_getElem hlt'⟩
    have hmem : (k, ad, v) ∈ ka := List.mem_of_getElem? hkv
    have hex : es[x]? = some ⟨knd.hash k, .ref ad, v⟩ := by rw [entry_at hea x, hkv]; rfl
    rw [hex]
    show wpAny _ _ (holding _ _ >>= _) _ _ _
    obtain ⟨j, ⟨pa, pv⟩, hj, heq⟩ := hits _ hmem
    have hjl : j < es'.size := by
      rw [hlb]
      rcases Nat.lt_or_ge j kb.length with h | h
      · exact h
      · rw [List.getElem?_eq_none h] at hj; exact nomatch hj
    have hej : es'[j]? = some ⟨knd.hash k, .ref pa, pv⟩ := by rw [entry_at heb j, hj]; rfl
    refine wpAny_bind (wpAny_holding (wpAny_bind (wpAny_dictFind_heap hu (hia _ hmem) hob hdb heb hib hnb (fun no => absurd hj (no j _)) fun j2 p2 hj2 => ?_)))
    have ej : j2 = j := idxH_unique hnb hj2 hj
    subst ej
    refine wpAny_bind (wpAny_dictEntries hob hdb ?_)
    rw [hej]
    refine wpAny_holding (heq _ _ ?_)
    show wpAny _ _ (if (!true) = true then _ else _) _ _ _
    rw [if_neg (by decide)]
    refine wpAny_bind (wpAny_dictEpoch hoa hda ?_)
    rw [if_neg (by simp)]
    exact wpAny_pure ⟨rfl, rfl, x + 1, hrest, hlt⟩
  · rintro q s' ⟨rfl, rfl, i, hr, hi⟩
    exact wpAny_pure h
theorem rcP_dictsH {a b : Addr} {ka kb : List (K × Addr × Value)} (hr : knd.room A.in1) (ha : (a == sysModules) = false) (hb : (b == sysModules) = false)
    (da : s.heap.DictOfH knd a ka) (db : s.heap.DictOfH knd b kb) (hu : A.units < cLine) (hlen : ka.length = kb.length) (hits : ∀ x ∈ ka, ∃ (j : Nat) (p : Addr × Value), kb[j]? = some (x.1, p) ∧ EqP prog w A.in1 s x.2.2 p.2 true)
    (E Q : Value → Shared → Prop) (h : Q (.bool true) s) : wpAny (model prog w) A (richCompare .Eq (.ref a) (.ref b)) Q E s := by
  refine wpAny_richCompare_same_room (op := .Eq) da.typeIs db.typeIs PySem.F.slot_dict_eq (wpAny_call_entry PySem.F.slot_dict_eq da.typeIs PySem.F.entry_dict_eq ?_ (PySem.F.args_dict_eq_2 _ _)) hu
  show wpAny _ _ (Builtin.Dict.dictSlotArgs "__eq__" ⟨[.ref a, .ref b], []⟩ >>= _) _ _ s
  refine wpAny_bind ?_
  unfold Builtin.Dict.dictSlotArgs
  refine wpAny_bind (wpAny_notOrdered_dict da.typeIs ?_)
  show wpAny _ _ (pure (Value.ref a, Value.ref b)) _ _ s
  refine wpAny_pure ?_
  refine wpAny_bind (wpAny_isInstance (T := "dict") db.typeIs PySem.F.sub_dict_dict ?_)
  simp only [Bool.not_true, Bool.false_eq_true, if_false]
  refine wpAny_bind (wpAny_pure (wpAny_bind (wpAny_pure ?_)))
  refine wpAny_bind (samePairsH hr ha hb da db hlen hits ?_)
  refine wpAny_pure ⟨_, rfl, ?_, ?_⟩
  · exact fun x => nomatch x
  · simpa using h
end

section
variable {prog : Program} {w : World}
theorem ne_loopIn (l b : Addr) (items items2 : Array Value) (n n2 : Nat) (dd dd2 : Option Addr) (sl sl2 : Array (Option Value)) (hsz : items.size = items2.size) (k : Nat) :
    ∀ i : Nat, items.size - i = k → MeetsIn prog w (Builtin.«list.__eq__.loop» ⟨[.ref l, .ref b, rawInt i, rawInt 3], []⟩)
      (fun A R s => s.heap.get? l = some { cls := .type "list", dict := dd, data := .seq items n, slots := sl } ∧ s.heap.get? b = some { cls := .type "list", dict := dd2, data := .seq items2 n2, slots := sl2 } ∧
        (∀ j (h1 : j < items.size) (h2 : j < items2.size), EqP prog w A.in1 s items[j] items2[j] true) ∧
        R (.ok (.ret (.bool false))) s) := by
  induction k with
  | zero =>
    intro i hk A R s h
    obtain ⟨hp, g, d, tk, os⟩ := s; obtain ⟨hl, hb, he, h⟩ := h
    wp_walk using wpAny_loadPart' hl, wpAny_loadPart' hb
    have hi1 : items[((i : Nat) : Int).toNat]? = none := by simp; omega
    have hi2 : items2[((i : Nat) : Int).toNat]? = none := by simp; omega
    rw [hi1, hi2]
    wp_walk using wpAny_loadPart' hl, wpAny_loadPart' hb
    show R (.ok (.ret (.bool (items.size != items2.size)))) _
    rw [hsz]
    simpa using h
  | succ k ih =>
    intro i hk A R s h
    obtain ⟨hp, g, d, tk, os⟩ := s; obtain ⟨hl, hb, he, h⟩ := h
    wp_walk using wpAny_loadPart' hl, wpAny_loadPart' hb
    have hlt : i < items.size := by omega
    have hlt2 : i < items2.size := by omega
    have hi1 : items[((i : Nat) : Int).toNat]? = some items[i] := by simp [hlt]
    have hi2 : items2[((i : Nat) : Int).toNat]? = some items2[i] := by simp [hlt2]
    have hc : ((i : Int) + 1) = ((i + 1 : Nat) : Int) := by push_cast; rfl
    rw [hi1, hi2]
    refine wpAny_bind (he i hlt hlt2 _ _ ?_)
    wp_walk
    rw [hc]
    exact ⟨plainId_quiet plain_eq_loop _, codeAny_builtin entry_eq_loop (by
      rw [Around.under_plainId plain_eq_loop _]
      exact ih (i + 1) (by omega) A R _ ⟨hl, hb, he, h⟩)⟩
theorem list_neIn (l b : Addr) (items items2 : Array Value) (n n2 : Nat) (dd dd2 : Option Addr) (sl sl2 : Array (Option Value)) (hsz : items.size = items2.size) :
    MeetsIn prog w (Builtin.«list.__ne__» ⟨[.ref l, .ref b], []⟩)
      (fun A R s => s.heap.get? l = some { cls := .type "list", dict := dd, data := .seq items n, slots := sl } ∧ s.heap.get? b = some { cls := .type "list", dict := dd2, data := .seq items2 n2, slots := sl2 } ∧
        (∀ j (h1 : j < items.size) (h2 : j < items2.size), EqP prog w A.in1 s items[j] items2[j] true) ∧
        R (.ok (.ret (.bool false))) s) := by
  intro A R s h
  obtain ⟨hp, g, d, tk, os⟩ := s; obtain ⟨hl, hb, he, h⟩ := h
  have f3 := AutoSeq1.sub_list_list
  have hne : ¬ (items.size != items2.size) = true := by simp [hsz]
  wp_walk using wpAny_loadPart' hl, wpAny_loadPart' hb
  exact ⟨plainId_quiet plain_eq_loop _, codeAny_builtin entry_eq_loop (by
    rw [Around.under_plainId plain_eq_loop _]
    exact ne_loopIn l b items items2 n n2 dd dd2 sl sl2 hsz _ 0 rfl A R _ ⟨hl, hb, he, h⟩)⟩
theorem neP_lists {A : Around} {s : Shared} {l b : Addr} {items items2 : Array Value} (hl : s.heap.IsList l items) (hb : s.heap.IsList b items2) (hsz : items.size = items2.size) (hu : A.units < cLine)
    (he : ∀ j (h1 : j < items.size) (h2 : j < items2.size), EqP prog w A.in1 s items[j] items2[j] true) (E Q : Value → Shared → Prop) (h : Q (.bool false) s) : wpAny (model prog w) A (richCompare .NotEq (.ref l) (.ref b)) Q E s := by
  obtain ⟨⟨cls, dd, data, sl⟩, ho, hc, n, hd⟩ := id hl
  obtain ⟨⟨cls2, dd2, data2, sl2⟩, ho2, hc2, n2, hd2⟩ := id hb
  simp only at hc hd hc2 hd2
  subst hc hd hc2 hd2
  have ta : s.TypeIs (.ref l) "list" := ⟨_, ho, rfl⟩
  have tb : s.TypeIs (.ref b) "list" := ⟨_, ho2, rfl⟩
  exact wpAny_richCompare_same_room (op := .NotEq) ta tb F.slot_list_ne (call_meetsIn F.slot_list_ne ta F.entry_list_ne (F.args_list_ne_2 _ _) (list_neIn l b items items2 n n2 dd dd2 sl sl2 hsz)
    ⟨ho, ho2, he, show Value.bool false ≠ Value.notImplemented ∧ Q (.bool false) s from ⟨(fun x => nomatch x), h⟩⟩) hu
theorem tup_neIn (l b : Addr) (items items2 : Array Value) (n n2 : Nat) (dd dd2 : Option Addr) (sl sl2 : Array (Option Value)) (hsz : items.size = items2.size) :
    MeetsIn prog w (Builtin.«tuple.__ne__» ⟨[.ref l, .ref b], []⟩)
      (fun A R s => s.heap.get? l = some { cls := .type "tuple", dict := dd, data := .seq items n, slots := sl } ∧ s.heap.get? b = some { cls := .type "tuple", dict := dd2, data := .seq items2 n2, slots := sl2 } ∧
        (∀ j (h1 : j < items.size) (h2 : j < items2.size), EqP prog w A.in1 s items[j] items2[j] true) ∧
        R (.ok (.ret (.bool false))) s) :=
  .of_wp fun A R s h => by
    obtain ⟨hp, g, d, tk, os⟩ := s; obtain ⟨hl, hb, he, h⟩ := h
    have f2 := AutoSeq1.sub_tuple_tuple
    have hZ : (items.toList.zip items2.toList).length = items.size := by simp [hsz]
    wp_walk using wpAny_loadPart' hl, wpAny_loadPart' hb, wpAny_forIn_list _ (fun rest b s' => b.1 = none ∧ s' = ⟨hp, g, d, tk, os⟩ ∧ ∃ i, rest = (items.toList.zip items2.toList).drop i) _
    case turn =>
      rintro ⟨y, x⟩ rest b s' ⟨hb', rfl, i, hz⟩
      have hlt : i < (items.toList.zip items2.toList).length := by
        rcases Nat.lt_or_ge i (items.toList.zip items2.toList).length with h' | h'
        · exact h'
        · rw [List.drop_of_length_le h'] at hz; cases hz
      have h1 : i < items.size := hZ ▸ hlt
      have h2 : i < items2.size := hsz ▸ h1
      rw [List.drop_eq_getElem_cons hlt] at hz
      injection hz with hyx hrest
      have hy : y = items[i] := by have := congrArg Prod.fst hyx; simpa using this
      have hx : x = items2[i] := by have := congrArg Prod.snd hyx; simpa using this
      subst hy hx
      refine wpAny_bind (he i h1 h2 _ _ ?_)
      wp_walk
      exact ⟨rfl, rfl, i + 1, hrest⟩
    case fin =>
      rintro ⟨b1, b2⟩ s' ⟨hb', rfl, i, hz⟩
      simp only at hb'
      subst hb'
      wp_walk
      refine ⟨_, rfl, ?_⟩
      simpa [Builtin.Tuple.tupleCompareSizes, hsz] using h
    case h =>
      exact ⟨rfl, rfl, 0, rfl⟩
theorem neP_tuples {A : Around} {s : Shared} {l b : Addr} {items items2 : Array Value} (hl : s.heap.IsTuple l items) (hb : s.heap.IsTuple b items2) (hsz : items.size = items2.size) (hu : A.units < cLine)
    (he : ∀ j (h1 : j < items.size) (h2 : j < items2.size), EqP prog w A.in1 s items[j] items2[j] true) (E Q : Value → Shared → Prop) (h : Q (.bool false) s) : wpAny (model prog w) A (richCompare .NotEq (.ref l) (.ref b)) Q E s := by
  obtain ⟨⟨cls, dd, data, sl⟩, ho, hc, n, hd⟩ := id hl
  obtain ⟨⟨cls2, dd2, data2, sl2⟩, ho2, hc2, n2, hd2⟩ := id hb
  simp only at hc hd hc2 hd2
  subst hc hd hc2 hd2
  have ta : s.TypeIs (.ref l) "tuple" := ⟨_, ho, rfl⟩
  have tb : s.TypeIs (.ref b) "tuple" := ⟨_, ho2, rfl⟩
  exact wpAny_richCompare_same_room (op := .NotEq) ta tb F.slot_tuple_ne (call_meetsIn F.slot_tuple_ne ta F.entry_tuple_ne (F.args_tuple_ne_2 _ _) (tup_neIn l b items items2 n n2 dd dd2 sl sl2 hsz)
    ⟨ho, ho2, he, show Value.bool false ≠ Value.notImplemented ∧ Q (.bool false) s from ⟨(fun x => nomatch x), h⟩⟩) hu
end
end WdEq
set_option Elab.async false
set_option linter.all false
set_option maxRecDepth 100000
set_option maxHeartbeats 1000000
/-! == and != of data. -/
namespace Wd
open PySem PySem.Spec L2
open PyProof.Rows hiding St

/-! ### data that is equal to itself: no object, dict keys unlike -/
inductive Pl : Nat → D → Prop
  | flat {n d v} : dV d = some v → Pl (n + 1) d
  | lst {n d ds} : IsL d ds → (∀ x ∈ ds, Pl n x) → Pl (n + 1) d
  | tup {n d ds} : IsT d ds → (∀ x ∈ ds, Pl n x) → Pl (n + 1) d
  | dk {n} {ks : List (Key × D)} : (ks.map (·.1)).Nodup → (∀ p ∈ ks, Pl n p.2) → Pl (n + 1) (.dk ks)
  | dt {n} {ks : List (List Key × D)} : (∀ p ∈ ks, Pl n p.2) → Pl (n + 1) (.dt ks)
theorem getK_nodup {κ : Type} [DecidableEq κ] {α : Type} : ∀ {ks : List (κ × α)} {i : Nat} {p : κ × α}, (ks.map (·.1)).Nodup → ks[i]? = some p → getK ks p.1 = some p.2
  | [], _, _, _, e => by simp at e
  | q :: r, 0, p, _, e => by
    simp only [List.getElem?_cons_zero, Option.some.injEq] at e
    subst e
    unfold getK
    rw [if_pos rfl]
  | q :: r, i + 1, p, h, e => by
    simp only [List.getElem?_cons_succ] at e
    rw [List.map_cons, List.nodup_cons] at h
    unfold getK
    rw [if_neg (fun z => h.1 (by rw [z]; exact List.mem_map.mpr ⟨p, List.mem_of_getElem? e, rfl⟩))]
    exact getK_nodup h.2 e
theorem vals_get' {vs : List V} {us : List Value} (h : Vals vs us) {j : Nat} (hj : j < us.length) : ∃ v, vs[j]? = some v ∧ RelV v us[j] := by
  have hl : vs.length = us.length := h.length
  have h1 : vs[j]? = some (vs[j]'(by omega)) := List.getElem?_eq_getElem _
  obtain ⟨u, hu, ru⟩ := h.get h1
  rw [List.getElem?_eq_getElem hj] at hu
  cases hu
  exact ⟨_, h1, ru⟩
section
variable {X : Cx} {pins : List (Addr × Obj)} {σ : L2.St} {H S : Hp} {s : Shared}
def EqN (X : Cx) (S : Hp) (n : Nat) (A : Around) (s : Shared) : Prop := ∀ (d : D) (x y : V) (v u : Value), Pl n d → Dat X.K S x d → Dat X.K S y d → RelV x v → RelV y u → SeqAt.EqP X.prog X.w A s v u true
theorem items_eq {n : Nat} {A : Around} (ih : EqN X S n A s) {xs ys : List V} {us ws : List Value} {ds : List D} (hp : ∀ x ∈ ds, Pl n x) (t1 : Dats X.K S xs ds) (t2 : Dats X.K S ys ds) (r1 : Vals xs us) (r2 : Vals ys ws) :
    ∀ j (h1 : j < us.toArray.size) (h2 : j < ws.toArray.size), SeqAt.EqP X.prog X.w A s us.toArray[j] ws.toArray[j] true := by
  intro j h1 h2
  have h1' : j < us.length := by simpa using h1
  have h2' : j < ws.length := by simpa using h2
  obtain ⟨x, hx, rx⟩ := vals_get' r1 h1'
  obtain ⟨y, hy, ry⟩ := vals_get' r2 h2'
  obtain ⟨d, hd, dx⟩ := t1.getV hx
  obtain ⟨d', hd', dy⟩ := t2.getV hy
  rw [hd] at hd'
  cases hd'
  have z := ih d x y _ _ (hp d (List.mem_of_getElem? hd)) dx dy rx ry
  simpa using z
theorem len_eq {xs ys : List V} {us ws : List Value} {ds : List D} (t1 : Dats X.K S xs ds) (t2 : Dats X.K S ys ds) (r1 : Vals xs us) (r2 : Vals ys ws) : us.toArray.size = ws.toArray.size := by
  rw [List.size_toArray, List.size_toArray, ← r1.length, ← r2.length, t1.length, t2.length]
theorem pd_get {κ : Type} {kvs : List (κ × V)} {ds : List (κ × D)} {K : PySem.W.Frag} (hk : kvs.map (·.1) = ds.map (·.1)) (t : Dats K S (kvs.map (·.2)) (ds.map (·.2))) {i : Nat} {p : κ × V} (h : kvs[i]? = some p) : ∃ d, ds[i]? = some (p.1, d) ∧ Dat K S p.2 d := by
  have h1 : (kvs.map (·.2))[i]? = some p.2 := by rw [List.getElem?_map, h]; rfl
  obtain ⟨d, hd, hx⟩ := t.getV h1
  have h2 : (kvs.map (·.1))[i]? = some p.1 := by rw [List.getElem?_map, h]; rfl
  rw [hk, List.getElem?_map] at h2
  rw [List.getElem?_map] at hd
  cases e : ds[i]? with
  | none => rw [e] at hd; cases hd
  | some q =>
    obtain ⟨k, d'⟩ := q
    rw [e] at hd h2
    simp only [Option.map_some, Option.some.injEq] at hd h2
    subst hd h2
    exact ⟨_, rfl, hx⟩
theorem eqD_rc (I : Inv X pins σ H s) (sb : Sub S H) {n : Nat} {A : Around} (hu : A.units < cLine) (hu2 : A.in1.units < cLine) (ih : EqN X S n A.in1 s) {d : D} {a b : Addr} (hp : Pl (n + 1) d) (dx : Dat X.K S (.ref a) d) (dy : Dat X.K S (.ref b) d)
    (E Q : Value → Shared → Prop) (q : Q (.bool true) s) (q2 : (dV d).isNone = true) : wpAny (model X.prog X.w) A (richCompare .Eq (.ref a) (.ref b)) Q E s := by
  cases hp with
  | flat hf => rw [hf] at q2; cases q2
  | @lst _ _ ds hl hp =>
    obtain ⟨_, xs, e1, h1, t1⟩ := isL_of hl dx sb
    obtain ⟨_, ys, e2, h2, t2⟩ := isL_of hl dy sb
    cases e1
    cases e2
    obtain ⟨us, r1, p1, _⟩ := I.list h1
    obtain ⟨ws, r2, p2, _⟩ := I.list h2
    refine SeqAt.rcP_lists (e := fun _ => true) p1.isList p2.isList (len_eq t1 t2 r1 r2) hu (items_eq ih hp t1 t2 r1 r2) E Q ?_
    rw [show ((List.range us.toArray.size).all fun _ => true) = true from List.all_eq_true.mpr fun _ _ => rfl]
    exact q
  | @tup _ _ ds hl hp =>
    obtain ⟨_, xs, e1, h1, t1⟩ := isT_of hl dx sb
    obtain ⟨_, ys, e2, h2, t2⟩ := isT_of hl dy sb
    cases e1
    cases e2
    obtain ⟨us, r1, ⟨o1, g1, c1, n1, f1⟩, _⟩ := I.tuple h1
    obtain ⟨ws, r2, ⟨o2, g2, c2, n2, f2⟩, _⟩ := I.tuple h2
    exact WdEq.rcP_tuples ⟨_, g1, c1, _, f1⟩ ⟨_, g2, c2, _, f2⟩ (len_eq t1 t2 r1 r2) hu (items_eq ih hp t1 t2 r1 r2) E Q q
  | @dk _ ks hn hp =>
    cases dx with
    | @dk _ kx _ ax k1 t1 =>
      cases dy with
      | @dk _ ky _ ay k2 t2 =>
        obtain ⟨_, ya, va, ra, da⟩ := dk_rd I.hok (sb.rd (.inl ax))
        obtain ⟨_, yb, vb, rb, db⟩ := dk_rd I.hok (sb.rd (.inl ay))
        have hl : va.length = vb.length := by
          rw [← ra.length, ← rb.length]
          have e1 := congrArg List.length k1
          have e2 := congrArg List.length k2
          simp only [List.length_map] at e1 e2
          omega
        refine PySem.W.rcP_dicts (knd := mixKind X.prog X.w) (r := true) ya yb da db hu (fun _ => hits_run (F := fun x y => ∃ d, Pl n d ∧ Dat X.K S x d ∧ Dat X.K S y d) (fun x y v u ⟨d, g, g1, g2⟩ rx ry => ih d x y v u g g1 g2 rx ry) rb ra fun p hm => ?_) E Q ?_
        · obtain ⟨i, hi⟩ := List.mem_iff_getElem?.mp hm
          obtain ⟨d, hd, dp⟩ := pd_get k1 t1 hi
          obtain ⟨v, hv, dv⟩ := getV_of k2 t2 (getK_nodup hn hd)
          exact ⟨v, hv, d, hp _ (List.mem_of_getElem? hd), dp, dv⟩
        · rw [show (va.length == vb.length && true) = true from by rw [hl]; simp]
          exact q
  | @dt _ ks hp =>
    cases dx with
    | @dt _ kx _ ax k1 t1 =>
      cases dy with
      | @dt _ ky _ ay k2 t2 =>
        obtain ⟨_, ya, va, ra, da⟩ := dt_rd I.hok (sb.rd (.inl ax))
        obtain ⟨_, yb, vb, rb, db⟩ := dt_rd I.hok (sb.rd (.inl ay))
        have l1 : kx.length = va.length := Paired.length ra
        have l2 : ky.length = vb.length := Paired.length rb
        have e1 := congrArg List.length k1
        have e2 := congrArg List.length k2
        simp only [List.length_map] at e1 e2
        refine WdEq.rcP_dictsH (knd := tupleKind (mixKind X.prog X.w)) hu2 ya yb da db hu (by omega) (fun x hm => ?_) E Q q
        obtain ⟨i, hi⟩ := List.mem_iff_getElem?.mp hm
        have hi' : i < va.length := by
          rcases Nat.lt_or_ge i va.length with h | h
          · exact h
          · rw [List.getElem?_eq_none h] at hi; cases hi
        have hx : kx[i]? = some (kx[i]'(by omega)) := List.getElem?_eq_getElem _
        have hy : ky[i]? = some (ky[i]'(by omega)) := List.getElem?_eq_getElem _
        obtain ⟨b1, hb1, p1, _, p3⟩ := paired_get ra hx
        obtain ⟨b2, hb2, p4, _, p6⟩ := paired_get rb hy
        rw [hi] at hb1
        cases hb1
        obtain ⟨d, hd, dp⟩ := pd_get k1 t1 hx
        obtain ⟨d', hd', dp'⟩ := pd_get k2 t2 hy
        rw [hd] at hd'
        injection hd' with hd'
        injection hd' with ek ed
        subst ed
        refine ⟨i, b2.2, ?_, ih d _ _ _ _ (hp _ (List.mem_of_getElem? hd)) dp dp' p3 p6⟩
        rw [hb2, ← p1, ek, p4]
theorem eqD_run (I : Inv X pins σ H s) (sb : Sub S H) : ∀ (n : Nat) (A : Around), A.units + n < cLine → EqN X S n A s
  | 0, _, _ => fun _ _ _ _ _ h => nomatch h
  | n + 1, A, hu => fun d x y v u hp dx dy rx ry => by
    cases hd : dV d with
    | some z =>
      obtain ⟨rfl, f⟩ := dV_of dx hd
      obtain ⟨rfl, _⟩ := dV_of dy hd
      refine (eqAt_same rx ry ?_).eqP
      cases y <;> first | rfl | exact f
    | none =>
      obtain ⟨a, rfl⟩ : ∃ a, x = .ref a := by
        cases hp with
        | flat h => rw [hd] at h; cases h
        | lst h _ => obtain ⟨a, _, e, _⟩ := isL_of h dx sb; exact ⟨a, e⟩
        | tup h _ => obtain ⟨a, _, e, _⟩ := isT_of h dx sb; exact ⟨a, e⟩
        | dk _ _ => cases dx; exact ⟨_, rfl⟩
        | dt _ => cases dx; exact ⟨_, rfl⟩
      obtain ⟨b, rfl⟩ : ∃ a, y = .ref a := by
        cases hp with
        | flat h => rw [hd] at h; cases h
        | lst h _ => obtain ⟨a, _, e, _⟩ := isL_of h dy sb; exact ⟨a, e⟩
        | tup h _ => obtain ⟨a, _, e, _⟩ := isT_of h dy sb; exact ⟨a, e⟩
        | dk _ _ => cases dy; exact ⟨_, rfl⟩
        | dt _ => cases dy; exact ⟨_, rfl⟩
      cases (show v = Value.ref a from rx)
      cases (show u = Value.ref b from ry)
      by_cases e : a = b
      · subst e
        exact (SeqAt.EqAt.same _).eqP
      · have hu1 : A.in1.units + n < cLine := by show A.units + 1 + n < cLine; omega
        exact SeqAt.eqP_refs e fun E Q q => eqD_rc I sb (by omega) (by omega) (eqD_run I sb n A.in1 hu1) hp dx dy E Q q (by rw [hd]; rfl)
end
def SqD (d : D) : Prop := (∃ ds, IsL d ds) ∨ ∃ ds, IsT d ds
def rEqP (K : PySem.W.Frag) : R2 := fun x y H Q => ∃ S d n, Sub S H ∧ Pl (n + 1) d ∧ n ≤ 60 ∧ (dV d).isNone = true ∧ Dat K S x d ∧ Dat K S y d ∧ Q (.bl true) H
def rNeP (K : PySem.W.Frag) : R2 := fun x y H Q => ∃ S d n, Sub S H ∧ Pl (n + 1) d ∧ n ≤ 60 ∧ SqD d ∧ Dat K S x d ∧ Dat K S y d ∧ Q (.bl false) H
theorem dat_ref {K : PySem.W.Frag} {S : Hp} {n : Nat} {d : D} {x : V} (hp : Pl n d) (hd : (dV d).isNone = true) (dx : Dat K S x d) : ∃ a, x = .ref a := by
  cases hp with
  | flat h => rw [h] at hd; cases hd
  | lst h _ => obtain ⟨a, _, e, _⟩ := isL_of h dx (Sub.refl S); exact ⟨a, e⟩
  | tup h _ => obtain ⟨a, _, e, _⟩ := isT_of h dx (Sub.refl S); exact ⟨a, e⟩
  | dk _ _ => cases dx; exact ⟨_, rfl⟩
  | dt _ => cases dx; exact ⟨_, rfl⟩
section
variable {X : Cx}
theorem op_eqP (hu : X.A.units + 64 < cLine) : OpR X (compareOp .Eq) (rEqP X.K) := by
  intro pins s σ H x y v u Q I rx ry h
  obtain ⟨S, d, n, sb, hp, hn, hf, dx, dy, q⟩ := h
  obtain ⟨a, rfl⟩ := dat_ref hp hf dx
  obtain ⟨b, rfl⟩ := dat_ref hp hf dy
  cases (show v = Value.ref a from rx)
  cases (show u = Value.ref b from ry)
  exact eqD_rc I sb (A := X.A) (by omega) (by show X.A.units + 1 < cLine; omega) (eqD_run I sb n X.A.in1 (by show X.A.units + 1 + n < cLine; omega)) hp dx dy _ _ ⟨.bl true, H, I, rfl, q⟩ hf
theorem op_neP (hu : X.A.units + 64 < cLine) : OpR X (compareOp .NotEq) (rNeP X.K) := by
  intro pins s σ H x y v u Q I rx ry h
  obtain ⟨S, d, n, sb, hp, hn, hf, dx, dy, q⟩ := h
  have ih := eqD_run I sb n X.A.in1 (by show X.A.units + 1 + n < cLine; omega)
  rcases hf with ⟨ds, hl⟩ | ⟨ds, hl⟩
  · obtain ⟨a, xs, e1, h1, t1⟩ := isL_of hl dx sb
    obtain ⟨b, ys, e2, h2, t2⟩ := isL_of hl dy sb
    subst e1 e2
    cases (show v = Value.ref a from rx)
    cases (show u = Value.ref b from ry)
    obtain ⟨us, r1, p1, _⟩ := I.list h1
    obtain ⟨ws, r2, p2, _⟩ := I.list h2
    have hp' : ∀ x ∈ ds, Pl n x := by
      cases hp with
      | flat h => cases hl <;> cases h
      | lst h g => cases hl <;> cases h <;> exact g
      | tup h g => cases hl <;> cases h
      | dk _ _ => cases hl
      | dt _ => cases hl
    exact WdEq.neP_lists p1.isList p2.isList (len_eq t1 t2 r1 r2) (by omega) (items_eq ih hp' t1 t2 r1 r2) _ _ ⟨.bl false, H, I, rfl, q⟩
  · obtain ⟨a, xs, e1, h1, t1⟩ := isT_of hl dx sb
    obtain ⟨b, ys, e2, h2, t2⟩ := isT_of hl dy sb
    subst e1 e2
    cases (show v = Value.ref a from rx)
    cases (show u = Value.ref b from ry)
    obtain ⟨us, r1, ⟨o1, g1, c1, n1, f1⟩, _⟩ := I.tuple h1
    obtain ⟨ws, r2, ⟨o2, g2, c2, n2, f2⟩, _⟩ := I.tuple h2
    have hp' : ∀ x ∈ ds, Pl n x := by
      cases hp with
      | flat h => cases hl <;> cases h
      | lst h g => cases hl <;> cases h
      | tup h g => cases hl <;> cases h <;> exact g
      | dk _ _ => cases hl
      | dt _ => cases hl
    exact WdEq.neP_tuples ⟨_, g1, c1, _, f1⟩ ⟨_, g2, c2, _, f2⟩ (len_eq t1 t2 r1 r2) (by omega) (items_eq ih hp' t1 t2 r1 r2) _ _ ⟨.bl false, H, I, rfl, q⟩
end
end Wd
set_option Elab.async false
set_option linter.all false
set_option maxRecDepth 100000
set_option maxHeartbeats 1000000
/-! a == b, a != b: the rules. -/
namespace Wd
open PySem PySem.Spec L2
open PyProof.Rows hiding St
mutual
/-- data without dicts and objects, as the library tells it -/
inductive PyOf : D → PyData → Prop
  | non : PyOf .non .none
  | bl {b} : PyOf (.bl b) (.bool b)
  | int {i} : PyOf (.int i) (.int i)
  | str {x} : PyOf (.str x) (.str x)
  | lst {d ds ps} : IsL d ds → PysOf ds ps → PyOf d (.list ps)
  | tup {d ds ps} : IsT d ds → PysOf ds ps → PyOf d (.tuple ps)
inductive PysOf : List D → List PyData → Prop
  | nil : PysOf [] []
  | cons {d p ds ps} : PyOf d p → PysOf ds ps → PysOf (d :: ds) (p :: ps)
end
theorem PysOf.map {α : Type} {f : α → D} {g : α → PyData} (h : ∀ x, PyOf (f x) (g x)) : ∀ xs : List α, PysOf (xs.map f) (xs.map g)
  | [] => .nil
  | x :: r => .cons (h x) (PysOf.map h r)
section
variable {K : PySem.W.Frag} {S H : Hp}
mutual
theorem PyOf.dp (sb : Sub S H) : ∀ {d : D} {p : PyData} {v : V}, PyOf d p → Dat K S v d → Dp K H v p
  | _, _, _, .non, h => by cases h; exact .non
  | _, _, _, .bl, h => by cases h; exact .bl _
  | _, _, _, .int, h => by cases h; exact .int _
  | _, _, _, .str, h => by cases h; exact .str _
  | _, _, _, .lst hl g, h => by
    obtain ⟨a, xs, rfl, h1, t⟩ := isL_of hl h sb
    exact .lst h1 (PysOf.dp sb g t)
  | _, _, _, .tup hl g, h => by
    obtain ⟨a, xs, rfl, h1, t⟩ := isT_of hl h sb
    exact .tup h1 (PysOf.dp sb g t)
theorem PysOf.dp (sb : Sub S H) : ∀ {ds : List D} {ps : List PyData} {vs : List V}, PysOf ds ps → Dats K S vs ds → DpAll K H vs ps
  | _, _, _, .nil, h => by cases h; exact .nil
  | _, _, _, .cons h g, t => by cases t with | cons t1 t2 => exact .cons (PyOf.dp sb h t1) (PysOf.dp sb g t2)
end
end
mutual
theorem PyOf.plain : ∀ {d : D} {p : PyData}, PyOf d p → p.plain = true
  | _, _, .non => rfl
  | _, _, .bl => rfl
  | _, _, .int => rfl
  | _, _, .str => rfl
  | _, _, .lst _ g => by rw [PyData.plain]; exact PysOf.plain g
  | _, _, .tup _ g => by rw [PyData.plain]; exact PysOf.plain g
theorem PysOf.plain : ∀ {ds : List D} {ps : List PyData}, PysOf ds ps → PyData.plainAll ps = true
  | _, _, .nil => rfl
  | _, _, .cons h g => by rw [PyData.plainAll, PyOf.plain h, PysOf.plain g]; rfl
end
def rEqY (K : PySem.W.Frag) : R2 := fun x y H Q => ∃ d e, Dp K H x d ∧ Dp K H y e ∧ d.plain = true ∧ e.plain = true ∧ min d.depth e.depth ≤ 60 ∧ Q (.bl (PyData.eqv d e)) H
def rNeY (K : PySem.W.Frag) : R2 := fun x y H Q => ∃ d e, Dp K H x d ∧ Dp K H y e ∧ d.plain = true ∧ e.plain = true ∧ min d.depth e.depth ≤ 60 ∧ Q (.bl (!PyData.eqv d e)) H
section
variable {X : Cx}
theorem op_eqY (hu : X.A.units + 64 < cLine) : OpR X (compareOp .Eq) (rEqY X.K) := by
  intro pins s σ H x y v u Q I rx ry h
  obtain ⟨d, e, hd, he, sd, se, hm, q⟩ := h
  obtain ⟨as, r1⟩ := Dp.reads I d x v hd rx
  obtain ⟨bs, r2⟩ := Dp.reads I e y u he ry
  exact SeqAt.eq_plain r1 r2 sd se (by omega) ⟨.bl _, H, I, rfl, q⟩
theorem op_neY (hu : X.A.units + 64 < cLine) : OpR X (compareOp .NotEq) (rNeY X.K) := by
  intro pins s σ H x y v u Q I rx ry h
  obtain ⟨d, e, hd, he, sd, se, hm, q⟩ := h
  obtain ⟨as, r1⟩ := Dp.reads I d x v hd rx
  obtain ⟨bs, r2⟩ := Dp.reads I e y u he ry
  exact SeqAt.ne_plain r1 r2 sd se (by omega) ⟨.bl _, H, I, rfl, q⟩
end
/-- what == comes to -/
inductive EqD : D → D → Bool → Prop
  | flat {d e v u} : dV d = some v → dV e = some u → scal v u = true → EqD d e (decide (v = u))
  | py {d e p q} : PyOf d p → PyOf e q → min p.depth q.depth ≤ 60 → EqD d e (PyData.eqv p q)
  | same {d n} : Pl (n + 1) d → n ≤ 60 → SqD d → EqD d d true
section
variable {ι : Type} {Xs : ι → Cx} {P : Program} {w : World} {K : PySem.W.Frag} {mg : Str → Option Value} {base : Heap} {N : List Str} {k : Nat} {γ : Gm} {d1 d2 : D} {e a b : Expr} {pos : Pos} {tv : Bool}
theorem SqD.none {d : D} (h : SqD d) : (dV d).isNone = true := by
  rcases h with ⟨ds, h⟩ | ⟨ds, h⟩ <;> cases h <;> rfl
theorem eq_reads (h : EqD d1 d2 tv) : RD K rEq d1 d2 (.sh (.bl tv)) ∨ RD K (rEqY K) d1 d2 (.sh (.bl tv)) ∨ RD K (rEqP K) d1 d2 (.sh (.bl tv)) := by
  cases h with
  | flat h1 h2 h3 =>
    refine .inl fun S H x y s g1 g2 Q q => ?_
    obtain ⟨rfl, _⟩ := dV_of g1 h1
    obtain ⟨rfl, _⟩ := dV_of g2 h2
    exact ⟨h3, here s .bl q⟩
  | py h1 h2 hm => exact .inr (.inl fun S H x y s g1 g2 Q q => ⟨_, _, h1.dp s g1, h2.dp s g2, h1.plain, h2.plain, hm, here s .bl q⟩)
  | same hp hn hs => exact .inr (.inr fun S H x y s g1 g2 Q q => ⟨S, _, _, s, hp, hn, hs.none, g1, g2, here s .bl q⟩)
theorem ne_reads (h : EqD d1 d2 tv) : RD K rNe d1 d2 (.sh (.bl (!tv))) ∨ RD K (rNeY K) d1 d2 (.sh (.bl (!tv))) ∨ RD K (rNeP K) d1 d2 (.sh (.bl (!tv))) := by
  cases h with
  | flat h1 h2 h3 =>
    refine .inl fun S H x y s g1 g2 Q q => ?_
    obtain ⟨rfl, _⟩ := dV_of g1 h1
    obtain ⟨rfl, _⟩ := dV_of g2 h2
    exact ⟨h3, here s .bl q⟩
  | py h1 h2 hm => exact .inr (.inl fun S H x y s g1 g2 Q q => ⟨_, _, h1.dp s g1, h2.dp s g2, h1.plain, h2.plain, hm, here s .bl q⟩)
  | same hp hn hs => exact .inr (.inr fun S H x y s g1 g2 Q q => ⟨S, _, _, s, hp, hn, hs, g1, g2, here s .bl q⟩)
theorem pd_eq (fx : Fx Xs P w K mg base N k) (ha : PED K Xs a γ (.sh d1)) (hb : PED K Xs b γ (.sh d2)) (h : EqD d1 d2 tv) (hm : behindInMarks .Eq b = false := by exact nomark _) : PED K Xs (.Compare a [.Eq] [b] pos) γ (.sh (.bl tv)) := by
  rcases eq_reads (K := K) h with r | r | r
  · exact pd_cmp (fun _ => op_eq) hm ha hb r
  · exact pd_cmp (fun i => by have z := op_eqY (X := Xs i) (fx.hu64 i); rw [fx.hK i] at z; exact z) hm ha hb r
  · exact pd_cmp (fun i => by have z := op_eqP (X := Xs i) (fx.hu64 i); rw [fx.hK i] at z; exact z) hm ha hb r
theorem pd_ne (fx : Fx Xs P w K mg base N k) (ha : PED K Xs a γ (.sh d1)) (hb : PED K Xs b γ (.sh d2)) (h : EqD d1 d2 tv) (hm : behindInMarks .NotEq b = false := by exact nomark _) : PED K Xs (.Compare a [.NotEq] [b] pos) γ (.sh (.bl (!tv))) := by
  rcases ne_reads (K := K) h with r | r | r
  · exact pd_cmp (fun _ => op_ne) hm ha hb r
  · exact pd_cmp (fun i => by have z := op_neY (X := Xs i) (fx.hu64 i); rw [fx.hK i] at z; exact z) hm ha hb r
  · exact pd_cmp (fun i => by have z := op_neP (X := Xs i) (fx.hu64 i); rw [fx.hK i] at z; exact z) hm ha hb r
theorem ptd_eq (fx : Fx Xs P w K mg base N k) (ha : PED K Xs a γ (.sh d1)) (hb : PED K Xs b γ (.sh d2)) (h : EqD d1 d2 tv) (hm : behindInMarks .Eq b = false := by exact nomark _) : PTD K Xs (.Compare a [.Eq] [b] pos) γ tv := by
  rcases eq_reads (K := K) h with r | r | r
  · exact ptd_cmp (fun _ => op_eq) hm ha hb r
  · exact ptd_cmp (fun i => by have z := op_eqY (X := Xs i) (fx.hu64 i); rw [fx.hK i] at z; exact z) hm ha hb r
  · exact ptd_cmp (fun i => by have z := op_eqP (X := Xs i) (fx.hu64 i); rw [fx.hK i] at z; exact z) hm ha hb r
theorem ptd_ne (fx : Fx Xs P w K mg base N k) (ha : PED K Xs a γ (.sh d1)) (hb : PED K Xs b γ (.sh d2)) (h : EqD d1 d2 tv) (hm : behindInMarks .NotEq b = false := by exact nomark _) : PTD K Xs (.Compare a [.NotEq] [b] pos) γ (!tv) := by
  rcases ne_reads (K := K) h with r | r | r
  · exact ptd_cmp (fun _ => op_ne) hm ha hb r
  · exact ptd_cmp (fun i => by have z := op_neY (X := Xs i) (fx.hu64 i); rw [fx.hK i] at z; exact z) hm ha hb r
  · exact ptd_cmp (fun i => by have z := op_neP (X := Xs i) (fx.hu64 i); rw [fx.hK i] at z; exact z) hm ha hb r
end
end Wd
set_option Elab.async false
set_option linter.all false
set_option maxRecDepth 100000
set_option maxHeartbeats 1000000
/-! for over the keys of a dict; over the items of a dict with tuple keys. -/
namespace L2
open PySem PySem.Spec PyProof.Rows
section
variable {X : Cx} {pins : List (Addr × Obj)} {σ : St} {H : Hp} {s : Shared} {d : Addr} {o : Obj}
theorem frzTv {kvs : List (List Key × V)} (I : Inv X pins σ H s) (h : H d = some (.frz o (.dT kvs))) :
    (d == sysModules) = false ∧ s.heap.get? d = some o ∧ o.ExactDict ∧ ∃ (es : Array DictEntry) (ep : Nat), o.data = .dict es ep ∧ es.size = kvs.length ∧
      ∀ (i : Nat) (k : List Key) (v : V), kvs[i]? = some (k, v) → ∃ (en : DictEntry) (q : Addr), es[i]? = some en ∧ en.key = .ref q ∧ H q = some (.tup (k.map kV)) ∧ RelV v en.val := by
  obtain ⟨hd, z, hs, xs, pr, o', es, ep, ho, hx, hdt, he, _⟩ := I.hok d _ h
  rw [hd] at ho
  cases ho
  refine ⟨hs, hd, hx, es, ep, hdt, ?_, fun i k v e => ?_⟩
  · have l1 : es.size = xs.length := size_of_entries he
    have l2 : kvs.length = xs.length := Paired.length pr
    omega
  · obtain ⟨b, hb, e1, e2, e3⟩ := paired_get pr e
    have q := entry_at he i
    rw [hb] at q
    exact ⟨_, b.2.1, q, rfl, e2, e3⟩
end
/-- the pairs of the locked dict at d, tuple keys, each pair a new tuple -/
def Itit (d : Addr) (o : Obj) (kvs : List (List Key × V)) : It :=
  ⟨fun i H => H d = some (.frz o (.dT kvs)) ∧ i < kvs.length, fun i H x H' => ∃ T k v q, kvs[i]? = some (k, v) ∧ x = .ref T ∧ H T = none ∧ H' = upd H T (.tup [.ref q, v]) ∧ H q = some (.tup (k.map kV)), fun i H => H d = some (.frz o (.dT kvs)) ∧ kvs.length ≤ i⟩
section
variable {P : Program} {w : World} {K : PySem.W.Frag} {d : Addr} {o : Obj} {es : Array DictEntry} {ep : Nat}
theorem turn_itemsT {kvs : List (List Key × V)} {elts : List Expr} {kk : Nat} {tpos : Pos} (it : Addr) (hod : o.data = .dict es ep) :
    Turn P w K (.Tuple elts kk tpos) (Itit d o kvs) [it] it (fun i h => ∃ ok ov, IsItemIter h it d i kvs.length ep ok ov) where
  mem := by simp
  obj := fun i h st b hb => by
    have e : b = it := by simpa using hb
    subst e
    obtain ⟨ok, ov, e⟩ := st
    exact ⟨_, e, fun v z => nomatch z⟩
  keep := fun i h h' st k => let ⟨ok, ov, e⟩ := st; ⟨ok, ov, k it (by simp) _ e⟩
  item := by
    intro X hP hw hK hc i pins s σ H E I hf st hg
    subst hP hw hK
    obtain ⟨hd, hi⟩ := hg
    obtain ⟨hs, hgd, hx, es', ep', hdt, hsz, ent⟩ := frzTv I hd
    obtain ⟨rfl, rfl⟩ := dict_ep hod hdt
    obtain ⟨⟨k, v⟩, hkv⟩ : ∃ p, kvs[i]? = some p := ⟨kvs[i], List.getElem?_eq_getElem hi⟩
    obtain ⟨en, q, hen, hkey, hq, hval⟩ := ent i k v hkv
    obtain ⟨hlt', hen'⟩ := Array.getElem?_eq_some_iff.mp hen
    obtain ⟨ok, ov, he⟩ := st
    rw [← hsz] at he
    have hlt : it < s.heap.objs.size := Heap.lt_size he
    refine DT.nextI he ⟨o, hgd, hx, hdt⟩ hlt' fun h' ho hT hz hk => ?_
    rw [hen', hkey] at ho hT
    refine ⟨_, rfl, wpAny_letOwnedTupleGo_items (s := { s with heap := h' }) ho fun h'' he' sb => ?_⟩
    have hT2 : h''.get? s.heap.objs.size = some { cls := .type "tuple", data := .seq #[.ref q, en.val] } := (sb.2 _ (Nat.ne_of_gt hlt)).trans hT
    have new : ObjOk X.prog X.w (upd H s.heap.objs.size (.tup [.ref q, v])) h'' s.heap.objs.size (.tup [.ref q, v]) :=
      ⟨by show 2 ≤ sizeLine; decide, [.ref q, en.val], .cons rfl (.cons hval .nil), ⟨_, hT2, rfl, _, rfl⟩⟩
    have I1 : Inv X pins σ (upd H s.heap.objs.size (.tup [.ref q, v])) { s with heap := h'' } :=
      I.turnedNew (t' := s.toks) (ch := [it]) (fun b ob hb e => (sb.2 b (by simpa using hb)).trans (hk b ob (by simpa using hb) e)) hf (Nat.le_refl _) new
    refine ⟨.ref s.heap.objs.size, _, I1, rfl, ⟨_, k, v, q, hkv, rfl, I.hok.fresh (Nat.le_refl _), rfl, hq⟩, ⟨.ref q, en.val, ?_⟩, fun b hb => ?_⟩
    · rw [← hsz]; exact he'
    · have e : b = it := by simpa using hb
      rw [e, upd_ne (Nat.ne_of_lt hlt)]
      exact (hf it (by simp)).1
  done := by
    intro X hP hw hK hc i pins s σ H E I hf st hg
    subst hP hw hK
    obtain ⟨hd, hi⟩ := hg
    obtain ⟨f0, f1, f2, f3, f4, f5⟩ := hf it (by simp)
    obtain ⟨hs, hgd, hx, es', ep', hdt, hsz, ent⟩ := frzTv I hd
    obtain ⟨rfl, rfl⟩ := dict_ep hod hdt
    obtain ⟨ok, ov, he⟩ := st
    rw [← hsz] at he
    exact DT.endI (I.ok.hd hc) he ⟨o, hgd, hx, hdt⟩ (by omega) fun h' eb => ⟨rfl, I.turned (t' := s.toks) (fun b ob hb e => eb b ob hb e) f0 f1 f3 f4 f5⟩
  self := fun A i s Q E st h => let ⟨_, _, e⟩ := st; PySem.W.kcp_self e h
end
def iItemsT (td : TE) : TI := fun σ H R => td σ H fun x H1 => ∃ d o kvs, x = .ref d ∧ H1 d = some (.frz o (.dT kvs)) ∧ R (Itit d o kvs) H1
section
variable {X : Cx} {tg e : Expr} {td : TE} {apos cpos : Pos}
theorem pi_itemsT {elts : List Expr} {kk : Nat} {tpos : Pos} (he : PE X e td) (hbase : attributeBase e "items" X.env (eval e X.env) = eval e X.env := by rfl) (hline : (apos.endLine == cpos.line) = true := by rfl) :
    PI X (.Tuple elts kk tpos) (.Call (.Attribute e "items" apos) [] [] cpos) (iItemsT td) := by
  refine ⟨fun pins s σ H R I h => ?_⟩
  refine wpAny_Call_method (T := "dict") (id := "dict.items") hbase rfl hline F.plainAttrs_dict F.slot_dict_items F.type_dict_items (thn (he.run pins s σ H _ I h) fun u s1 ⟨x, H1, I1, rx, d, o, kvs, ex, hd, q⟩ => ?_)
  subst ex
  obtain rfl : u = Value.ref d := rx
  obtain ⟨hs, hgd, hx, es, ep, hdt, hsz, ent⟩ := frzTv I1 hd
  have raw : DT.Raw s1.heap d es ep := ⟨o, hgd, hx, hdt⟩
  refine ⟨raw.typeIs, fun a e => by cases e; exact ⟨o, hgd, hx.2.1⟩, ?_⟩
  have I2 : Inv X pins σ H1 { s1 with heap := s1.heap.push { cls := .type "dict_items", data := .fields #[.ref d] } } := I1.kept (t' := s1.toks) fun b ob q => Heap.get?_push_of_some _ q
  have fin : wpAny (model X.prog X.w) X.A (pyIter (.ref s1.heap.objs.size)) (PIE X pins σ (.Tuple elts kk tpos) R) X.xe { s1 with heap := s1.heap.push { cls := .type "dict_items", data := .fields #[.ref d] } } := by
    refine DT.iterI (d := d) ⟨_, Heap.get?_push_size _ rfl, rfl, rfl⟩ (raw.push _) (pi_one (tk := s1.toks) I2 _ (turn_itemsT _ hdt) ⟨.none, .none, ?_⟩ q)
    rw [← hsz]
    exact Heap.get?_push_size _ rfl
  show wpAny _ _ (callWith cpos (.builtin "dict.items") [.ref d] [] []) _ X.xe s1
  exact method_meetsIn F.slot_dict_items F.entry_dict_items rfl (PySem.evalArgs_none ⟨rfl, raw.typeIs, F.args_dict_items_1 _, _, DT.meetsItems (es := es) (ep := ep) hs, ⟨raw, fin⟩⟩)
end
end L2
set_option Elab.async false
set_option linter.all false
set_option maxRecDepth 100000
set_option maxHeartbeats 1000000
/-! for k in d; for (a, b), v in d.items(). -/
namespace Wd
open PySem PySem.Spec L2
open PyProof.Rows hiding St
theorem upd_self {H : Hp} {a : Addr} {o : HO} (h : H a = some o) : upd H a o = H := by
  funext b
  by_cases e : b = a
  · subst e; rw [upd_same, h]
  · rw [upd_ne e]
section
variable {K : PySem.W.Frag} {H0 S0 S H S1 H1 : Hp} {σ σ1 : St} {γ γ1 : Gm} {a : Addr} {u : HO} {o : Obj}
theorem OwnAt.upd {l : Addr} {d : D} {z : HO} (h : OwnAt K S H l d) (e : l ≠ a) : OwnAt K S (upd H a z) l d :=
  h.mono (Same.refl _) fun o q => by rw [upd_ne e]; exact q
/-- the dict at a is locked -/
theorem Ok.lockd (k : Ok K H0 S0 S H σ γ) (ha : S a = some u) (hu : IsDc u) : Ok K (upd H0 a (.frz o u)) (upd S0 a u) S (upd H a (.frz o u)) σ γ where
  h0 := fun b v e => by
    by_cases z : b = a
    · subst z; rw [upd_same] at e ⊢; exact e
    · rw [upd_ne z] at e ⊢; exact k.h0 b v e
  s0 := fun b v e => by
    by_cases z : b = a
    · subst z; rw [upd_same] at e; cases e; exact ha
    · rw [upd_ne z] at e; exact k.s0 b v e
  sh := fun b v e => by
    by_cases z : b = a
    · subst z
      rw [ha] at e
      cases e
      exact .inr ⟨o, upd_same, hu⟩
    · rw [upd_ne z]; exact k.sh b v e
  nw := fun b v e n => by
    by_cases z : b = a
    · subst z; rw [upd_same] at n; cases n
    · rw [upd_ne z] at n ⊢; exact k.nw b v e n
  len := k.len
  en := fun i s h => by
    have q := k.en i s h
    cases s with
    | un => trivial
    | tw _ _ => trivial
    | sh d => exact q
    | ow d =>
      obtain ⟨l, e, h1, h2, h3⟩ := q
      have ne : l ≠ a := fun z => by rw [z, ha] at h1; cases h1
      exact ⟨l, e, h1, by rw [upd_ne ne]; exact h2, h3.upd ne⟩
  ds := k.ds
theorem Ok.unlockd {y : HO} (k : Ok K H0 S0 S H σ γ) (ha : S a = some u) (hy : H a = some y) (hu : y = u ∨ ∃ ob, y = .frz ob u ∧ IsDc u) (k1 : Ok K (upd H0 a (.frz o u)) (upd S0 a u) S1 H1 σ1 γ1) : Ok K H0 S0 S1 (upd H1 a y) σ1 γ1 := by
  have s1 : S1 a = some u := k1.s0 a u upd_same
  refine ⟨fun b v e => ?_, fun b v e => ?_, fun b v e => ?_, fun b v e n => ?_, k1.len, fun i s h => ?_, k1.ds⟩
  · by_cases z : b = a
    · subst z; rw [upd_same]; rw [k.h0 _ _ e] at hy; exact hy.symm
    · rw [upd_ne z]; exact k1.h0 b v (by rw [upd_ne z]; exact e)
  · by_cases z : b = a
    · subst z; rw [s1]; rw [k.s0 _ _ e] at ha; exact ha.symm
    · exact k1.s0 b v (by rw [upd_ne z]; exact e)
  · by_cases z : b = a
    · subst z
      rw [s1] at e
      cases e
      rcases hu with rfl | ⟨ob, rfl, hc⟩
      · exact .inl upd_same
      · exact .inr ⟨ob, upd_same, hc⟩
    · rw [upd_ne z]; exact k1.sh b v e
  · by_cases z : b = a
    · subst z; exact k.nw b u ha n
    · have q := k1.nw b v e (by rw [upd_ne z]; exact n)
      rw [upd_ne z] at q
      exact q
  · have q := k1.en i s h
    cases s with
    | un => trivial
    | tw _ _ => trivial
    | sh d => exact q
    | ow d =>
      obtain ⟨l, e, h1, h2, h3⟩ := q
      have ne : l ≠ a := fun z => by rw [z, s1] at h1; cases h1
      rw [upd_ne ne] at h2
      exact ⟨l, e, h1, h2, h3.upd ne⟩
end
section
variable {ι : Type} {Xs : ι → Cx} {P : Program} {w : World} {K : PySem.W.Frag} {mg : Str → Option Value} {base : Heap} {N : List Str} {k : Nat} {γ : Gm} {e a b : Expr} {pos p : Pos} {tg : Expr} {sts : List Stmt} {x : Str}
/-- a walk's turns from a state on -/
theorem for_at {α : Type} {H0 S0 S H : Hp} {σ : St} {D : Ends} (xs : List α) (γs : Nat → Gm) (kk : Ok K H0 S0 S H σ γ) (h0 : Wk γ (γs 0)) (J : It)
    (hJ : ∀ R : It → Hp → Prop, R J H → anyI Xs tg a σ H R) (go : ∀ i H2, Ex H0 H2 → i < xs.length → J.go i H2) (stop : ∀ H2, Ex H0 H2 → J.stop xs.length H2)
    (step : ∀ (i : Nat) (x : α), xs[i]? = some x → ∃ γt γb, (∀ S2 H2 σ2 v H3, Ok K H0 S0 S2 H2 σ2 (γs i) → Ex S S2 → J.yld i H2 v H3 → ∀ Q : St → Hp → Prop, (∀ S4 σ4, Ok K H0 S0 S4 H3 σ4 γt → Ex S2 S4 → Q σ4 H3) → anyG Xs tg v σ2 H3 Q) ∧
      (PSsD K Xs sts γt (.nx γb) ∨ PSsD K Xs sts γt (.ct γb)) ∧ Wk γb (γs (i + 1))) (q : ∀ S1 H1 σ1, Ok K H0 S0 S1 H1 σ1 (γs xs.length) → D.nx σ1 H1) : tFor (anyI Xs tg a) (anyG Xs tg) (anySs Xs sts) D σ H := by
  refine hJ _ ?_
  refine ⟨fun i m σ H => m = xs.length - i ∧ i ≤ xs.length ∧ ∃ S1, Ok K H0 S0 S1 H σ (γs i) ∧ Ex S S1, ⟨_, rfl, Nat.zero_le _, S, kk.wk h0, Same.refl _⟩, ?_⟩
  rintro i m σ H ⟨rfl, hle, S1, k', e1⟩
  by_cases hlt : i < xs.length
  · refine .inr ⟨go i H k'.h0 hlt, fun σ' H' => ∃ S', Ok K H0 S0 S' H' σ' (γs (i + 1)) ∧ Ex S S', fun σ' H' ⟨S', k2, e2⟩ => ⟨xs.length - (i + 1), by omega, rfl, hlt, S', k2, e2⟩, fun x H' y => ?_⟩
    obtain ⟨γt, γb, ht, hb, hw⟩ := step i xs[i] (by simp [hlt])
    refine ht S1 H σ x H' k' e1 y _ fun S4 σ4 k3 e4 => ?_
    rcases hb with hb | hb
    · exact hb H0 S4 S4 H' σ4 _ k3.base fun S5 H5 σ5 k5 => ⟨S5, (k3.over k5).wk hw, Same.trans e1 (Same.trans e4 k5.s0)⟩
    · exact hb H0 S4 S4 H' σ4 _ k3.base fun S5 H5 σ5 k5 => ⟨S5, (k3.over k5).wk hw, Same.trans e1 (Same.trans e4 k5.s0)⟩
  · have e : i = xs.length := by omega
    subst e
    exact .inl ⟨stop H k'.h0, q S1 H σ k'⟩
/-- a for whose dict is locked meanwhile -/
theorem psd_forLock (fx : Fx Xs P w K mg base N k) (j : Nat) {d : D} {Do : V → HO → Prop} (hg : γ[j]? = some (.sh d)) (hd : ∀ S v, Dat K S v d → ∃ ad u, v = .ref ad ∧ S ad = some u ∧ IsDc u ∧ Do v u) {γ' : Gm}
    (hp : ∀ i, PassesOwn (model (Xs i).prog (Xs i).w) (Xs i).A (Xs i).env (Xs i).xe) (hs : ∀ i, ∀ x, foldedSetIterable a (Xs i).env x = pure x)
    (run : ∀ (ad : Addr) (u : HO) (o : Obj) (H0 S0 S H : Hp) (σ : St) (D : Ends), Ok K H0 S0 S H σ γ → Dat K S (.ref ad) d → σ[j]? = some (some (.ref ad)) → S ad = some u → H0 ad = some (.frz o u) → IsDc u → (∀ S1 H1 σ1, Ok K H0 S0 S1 H1 σ1 γ' → D.nx σ1 H1) → tFor (anyI Xs tg a) (anyG Xs tg) (anySs Xs sts) D σ H) :
    PSD K Xs (.For tg a sts [] pos) γ (.nx γ') := by
  have pf : ∀ i, PS (Xs i) (.For tg a sts [] pos) (tFor (anyI Xs tg a) (anyG Xs tg) (anySs Xs sts)) := fun i => ps_for (hp i) (fx.calm i) (pi_any tg a i) (pg_any tg i) (pss_any sts i) (hs i)
  intro H0 S0 S H σ D kk q
  obtain ⟨v, hv, dv⟩ := kk.en j _ hg
  obtain ⟨ad, u, rfl, hu, hc, _⟩ := hd S v dv
  rcases kk.sh ad u hu with h | ⟨ob, h, _⟩
  · refine ⟨_, fun i => ps_lock (pf i), ad, u, h, ?_, fun od => ?_⟩
    · cases u <;> first | trivial | exact (show False from hc).elim
    · refine run ad u od _ _ S _ σ _ (kk.lockd (o := od) hu hc) dv hv hu upd_same hc fun S1 H1 σ1 k1 => ⟨k1.h0 ad _ upd_same, ?_⟩
      exact q S1 _ σ1 (kk.unlockd hu h (.inl rfl) k1)
  · refine ⟨_, pf, ?_⟩
    have k2 := kk.lockd (o := ob) hu hc
    rw [upd_self h] at k2
    refine run ad u ob _ _ S _ σ _ k2 dv hv hu upd_same hc fun S1 H1 σ1 k1 => ?_
    have z := kk.unlockd hu h (.inr ⟨ob, rfl, hc⟩) k1
    rw [upd_self (k1.h0 ad _ upd_same)] at z
    exact q S1 _ σ1 z
/-- for tg in d -/
theorem psd_forK (fx : Fx Xs P w K mg base N k) (j : Nat) {ds : List (Key × D)} {α : Type} (xs : List α) (enc : α → Key) (he : ds.map (·.1) = xs.map enc) (γs : Nat → Gm) (h0 : Wk γ (γs 0))
    (turn : ∀ (i : Nat) (y : α), xs[i]? = some y → ∃ γt is γb, TgD K Xs tg (γs i) (keyD (enc y)) γt is ∧ (PSsD K Xs sts γt (.nx γb) ∨ PSsD K Xs sts γt (.ct γb)) ∧ Wk γb (γs (i + 1)))
    (hg : γ[j]? = some (.sh (.dk ds)) := by rfl) (hN : N[j]? = some x := by rfl) (hv : ∀ j, Vis (Xs j).env.scope x := by first | exact fun _ => Or.inl rfl | exact fun _ => Or.inr (Or.inl rfl) | exact fun _ => Or.inr (Or.inr rfl))
    (hdb : (x == ("__debug__" : Str)) = false := by decide) (hcd : (x == ("__classdict__" : Str)) = false := by decide)
    (hp : ∀ i, PassesOwn (model (Xs i).prog (Xs i).w) (Xs i).A (Xs i).env (Xs i).xe := by first | exact fun _ => PassesOwn.never | exact fun _ => passes_of rfl)
    (hs : ∀ i, ∀ y, foldedSetIterable (.Name x p) (Xs i).env y = pure y := by exact fun _ _ => rfl) : PSD K Xs (.For tg (.Name x p) sts [] pos) γ (.nx (γs xs.length)) := by
  refine psd_forLock fx j (Do := fun _ _ => True) hg (fun S v h => ?_) hp hs fun ad u o H0 S0 S H σ D kk dv hσ hu hf hc q => ?_
  · cases h with | dk a1 k1 t1 => exact ⟨_, _, rfl, a1, trivial, trivial⟩
  · cases dv with
    | @dk _ kvs _ a1 k1 t1 =>
      rw [hu] at a1
      cases a1
      have hl : kvs.length = xs.length := by have z := congrArg List.length (k1.trans he); simpa using z
      refine for_at (a := .Name x p) xs γs kk h0 (Itk ad o kvs) (fun R r => ⟨iKeys (tVar j), fun i => pi_keys (pe_var (by rw [fx.hN]; exact hN) (hv i) hdb hcd), _, hσ, ad, o, rfl, .inl ⟨kvs, kk.h0 _ _ hf, r⟩⟩) (fun i H2 e hi => ⟨e _ _ hf, by omega⟩) (fun H2 e => ⟨e _ _ hf, by omega⟩) (fun i y hy => ?_) q
      obtain ⟨γt, is, γb, ht, hb, hw⟩ := turn i y hy
      refine ⟨γt, γb, fun S2 H2 σ2 v H3 k2 e2 ⟨hy1, kx, vx, hkv, hvx⟩ Q q => ?_, hb, hw⟩
      subst hy1 hvx
      have ek : kx = enc y := by
        have z : (kvs.map (·.1))[i]? = some kx := by rw [List.getElem?_map, hkv]; rfl
        rw [k1, he, List.getElem?_map, hy] at z
        exact (Option.some.inj z).symm
      subst ek
      refine ht _ _ _ _ _ _ k2 ?_ _ fun σ' k3 _ _ => q S2 σ' k3 (Same.refl _)
      cases hk : enc y with
      | inl i => exact .int
      | inr x => exact .str
/-- for (na, nb), nc in d.items() -/
theorem psd_forIT (fx : Fx Xs P w K mg base N k) (j : Nat) {ds : List (List Key × D)} {α : Type} (xs : List α) (e1 e2 : α → Key) (ev : α → D) (he : ds = xs.map fun y => ([e1 y, e2 y], ev y)) (γs : Nat → Gm) (h0 : Wk γ (γs 0)) {na nb nc : Str} {pa pb pc pt pt2 pc2 pa2 : Pos} {z1 z2 : Nat} (ia ib ic : Nat)
    (turn : ∀ (i : Nat) (y : α), xs[i]? = some y → ∃ γb, (PSsD K Xs sts ((((γs i).set ia (.sh (keyD (e1 y)))).set ib (.sh (keyD (e2 y)))).set ic (.sh (ev y))) (.nx γb) ∨ PSsD K Xs sts ((((γs i).set ia (.sh (keyD (e1 y)))).set ib (.sh (keyD (e2 y)))).set ic (.sh (ev y))) (.ct γb)) ∧ Wk γb (γs (i + 1)))
    (hlen : ∀ i, ia < (γs i).length ∧ ib < (γs i).length ∧ ic < (γs i).length)
    (hNa : N[ia]? = some na := by rfl) (hNb : N[ib]? = some nb := by rfl) (hNc : N[ic]? = some nc := by rfl) (hla : ∀ j, Loc (Xs j).env.scope na := by exact fun _ => Or.inl rfl) (hlb : ∀ j, Loc (Xs j).env.scope nb := by exact fun _ => Or.inl rfl) (hlc : ∀ j, Loc (Xs j).env.scope nc := by exact fun _ => Or.inl rfl)
    (hfa : ∀ j, (Xs j).fn na = true ∨ (Xs j).env.scope.names.lookup na = some .local := by first | exact fun _ => Or.inl rfl | exact fun _ => Or.inr rfl) (hfb : ∀ j, (Xs j).fn nb = true ∨ (Xs j).env.scope.names.lookup nb = some .local := by first | exact fun _ => Or.inl rfl | exact fun _ => Or.inr rfl) (hfc : ∀ j, (Xs j).fn nc = true ∨ (Xs j).env.scope.names.lookup nc = some .local := by first | exact fun _ => Or.inl rfl | exact fun _ => Or.inr rfl)
    (hg : γ[j]? = some (.sh (.dt ds)) := by rfl) (hN : N[j]? = some x := by rfl) (hv : ∀ j, Vis (Xs j).env.scope x := by first | exact fun _ => Or.inl rfl | exact fun _ => Or.inr (Or.inl rfl) | exact fun _ => Or.inr (Or.inr rfl))
    (hdb : (x == ("__debug__" : Str)) = false := by decide) (hcd : (x == ("__classdict__" : Str)) = false := by decide)
    (hbase : ∀ i, attributeBase (.Name x p) "items" (Xs i).env (eval (.Name x p) (Xs i).env) = eval (.Name x p) (Xs i).env := by exact fun _ => rfl) (hline : (pa2.endLine == pc2.line) = true := by rfl)
    (hsi : ∀ i, (assignEach [.Name na pa, .Name nb pb] (Xs i).env).length = 2 ∧ (assignEach [.Name na pa, .Name nb pb] (Xs i).env).findIdx? (·.1) = none ∧ (assignEach [.Name na pa, .Name nb pb] (Xs i).env).map (·.2) = assign (.Name na pa) (Xs i).env :: (assignEach [.Name nb pb] (Xs i).env).map (·.2) ∧ (assignEach [.Name nb pb] (Xs i).env).map (·.2) = assign (.Name nb pb) (Xs i).env :: (assignEach [] (Xs i).env).map (·.2) := by exact fun _ => ⟨rfl, rfl, rfl, rfl⟩)
    (hso : ∀ i, (assignEach [.Tuple [.Name na pa, .Name nb pb] z1 pt, .Name nc pc] (Xs i).env).length = 2 ∧ (assignEach [.Tuple [.Name na pa, .Name nb pb] z1 pt, .Name nc pc] (Xs i).env).findIdx? (·.1) = none ∧ (assignEach [.Tuple [.Name na pa, .Name nb pb] z1 pt, .Name nc pc] (Xs i).env).map (·.2) = assign (.Tuple [.Name na pa, .Name nb pb] z1 pt) (Xs i).env :: (assignEach [.Name nc pc] (Xs i).env).map (·.2) ∧ (assignEach [.Name nc pc] (Xs i).env).map (·.2) = assign (.Name nc pc) (Xs i).env :: (assignEach [] (Xs i).env).map (·.2) := by exact fun _ => ⟨rfl, rfl, rfl, rfl⟩)
    (hp : ∀ i, PassesOwn (model (Xs i).prog (Xs i).w) (Xs i).A (Xs i).env (Xs i).xe := by first | exact fun _ => PassesOwn.never | exact fun _ => passes_of rfl)
    (hs : ∀ i, ∀ y, foldedSetIterable (.Call (.Attribute (.Name x p) "items" pa2) [] [] pc2) (Xs i).env y = pure y := by exact fun _ _ => rfl) :
    PSD K Xs (.For (.Tuple [.Tuple [.Name na pa, .Name nb pb] z1 pt, .Name nc pc] z2 pt2) (.Call (.Attribute (.Name x p) "items" pa2) [] [] pc2) sts [] pos) γ (.nx (γs xs.length)) := by
  refine psd_forLock fx j (Do := fun _ _ => True) hg (fun S v h => ?_) hp hs fun ad u o H0 S0 S H σ D kk dv hσ hu hf hc q => ?_
  · cases h with | dt a1 k1 t1 => exact ⟨_, _, rfl, a1, trivial, trivial⟩
  · cases dv with
    | @dt _ kvs _ a1 k1 t1 =>
      rw [hu] at a1
      cases a1
      subst he
      have hl : kvs.length = xs.length := by have z := congrArg List.length k1; simpa using z
      refine for_at xs γs kk h0 (Itit ad o kvs) (fun R r => ⟨iItemsT (tVar j), fun i => pi_itemsT (pe_var (by rw [fx.hN]; exact hN) (hv i) hdb hcd) (hbase i) hline, _, hσ, ad, o, kvs, rfl, kk.h0 _ _ hf, r⟩) (fun i H2 e hi => ⟨e _ _ hf, by omega⟩) (fun H2 e => ⟨e _ _ hf, by omega⟩) (fun i y hy => ?_) q
      obtain ⟨γb, hb, hw⟩ := turn i y hy
      refine ⟨_, γb, fun S2 H2 σ2 v H3 k2 ee ⟨T, kx, vx, qa, hkv, hvT, hT, hH3, hq⟩ Q q => ?_, hb, hw⟩
      subst hvT hH3
      obtain ⟨dd, hdd, dvx⟩ := pd_get k1 t1 hkv
      rw [List.getElem?_map, hy] at hdd
      simp only [Option.map_some, Option.some.injEq, Prod.mk.injEq] at hdd
      obtain ⟨rfl, rfl⟩ := hdd
      have hqT : qa ≠ T := fun z => by rw [z, hT] at hq; cases hq
      have g2 : Gr S2 H2 S2 (upd H2 T (.tup [.ref qa, vx])) := ⟨Same.refl _, Ex.new hT, fun b o h n => (by rw [n] at h; cases h)⟩
      have sT : Sub S2 (upd H2 T (.tup [.ref qa, vx])) := k2.sh.ex (Ex.new hT)
      have k3 := k2.grow g2 sT
      obtain ⟨la, lb, lc⟩ := hlen i
      have datK : ∀ kk : Key, Dat K S2 (kV kk) (keyD kk) := fun kk => by
        cases kk with
        | inl i => exact .int
        | inr x => exact .str
      have k4 := (((k3.sh_ la (datK (e1 y))).sh_ (i := ib) (by simpa using lb) (datK (e2 y))).sh_ (i := ic) (by simpa using lc) (dvx.ex ee))
      refine ⟨gTup K 2 (gCons (gTup K 2 (gCons (gName ia) (gCons (gName ib) gNil))) (gCons (gName ic) gNil)), fun i => ?_, T, _, rfl, .inl (.inl upd_same), rfl, _, _, rfl, ?_⟩
      · have nn : (Xs i).N.Nodup := by rw [fx.hN i]; exact fx.nd
        obtain ⟨s1, s2, s3, s4⟩ := hsi i
        obtain ⟨o1, o2, o3, o4⟩ := hso i
        have pin := pg_tup (k := z1) (pos := pt) (fx.calm i) (pgs_cons (pg_name nn (by rw [fx.hN i]; exact hNa) (hla i) (hfa i)) (pgs_cons (pg_name nn (by rw [fx.hN i]; exact hNb) (hlb i) (hfb i)) pgs_nil s4) s3) s1 s2
        have pout := pg_tup (k := z2) (pos := pt2) (fx.calm i) (pgs_cons pin (pgs_cons (pg_name nn (by rw [fx.hN i]; exact hNc) (hlc i) (hfc i)) pgs_nil o4) o3) o1 o2
        rw [fx.hK i] at pout
        exact pout
      · exact ⟨qa, [kV (e1 y), kV (e2 y)], rfl, .inl (.inl (by rw [upd_ne hqT]; exact hq)), rfl, _, _, rfl, _, _, rfl, rfl, _, _, rfl, rfl, q S2 _ k4 (Same.refl _)⟩
end
end Wd
set_option Elab.async false
set_option linter.all false
set_option maxRecDepth 100000
set_option maxHeartbeats 3200000
/-! len(set(xs)), xs a list of texts. -/
namespace WdSet
open PySem PySem.Spec PyProof.Rows
/-- how many unlike ones among the first i -/
def cnt (xs : List Str) : Nat → Nat
  | 0 => 0
  | i + 1 => if (xs.take i).any (· == xs.getD i Str.empty) then cnt xs i else cnt xs i + 1
theorem cnt_le (xs : List Str) : ∀ i, cnt xs i ≤ i
  | 0 => Nat.le_refl _
  | i + 1 => by
    have := cnt_le xs i
    unfold cnt
    split <;> omega
section
variable {prog : Program} {w : World} {A : Around} {R : Result → Shared → Prop} {I : Addr} {fp wr : List Addr} {G : Array GenState → Array GenState → Prop} {n : Nat} {P : Nat → Value → Prop} {Z : Nat → Shared → Prop}
theorem grow (W : WalksS prog w A.in1 I fp wr G n P Z) (S : Addr) (hSf : S ∉ fp) (xs : List Str) (hsz : xs.length = n) (hn1 : n + 1 < scanBound)
    (hval : ∀ i v, P i v → ∃ t, v = .str (xs.getD i Str.empty) t) (k : Nat) : ∀ (i : Nat) (s : Shared), n - i = k → i ≤ n → Z i s →
      s.heap.SetOf (PySem.strKind prog w) S (fun y => (xs.take i).any (· == y)) (cnt xs i) →
      (∀ s', Moved (S :: wr) G s s' → s'.heap.SetOf (PySem.strKind prog w) S (fun y => (xs.take n).any (· == y)) (cnt xs n) → R (.ok (.ret .none)) s') →
      codeAny (model prog w) A (.builtin "set.update.loop" ⟨[.ref S, .ref I], []⟩) R s := by
  have off : S ∉ wr := fun h => hSf (W.sub _ h)
  have more : ∀ b ∈ wr, b ∈ S :: wr := fun b hb => List.mem_cons_of_mem _ hb
  have move : ∀ {s s' : Shared} {T : Str → Bool} {m : Nat}, Moved wr G s s' → s.heap.SetOf (PySem.strKind prog w) S T m → s'.heap.SetOf (PySem.strKind prog w) S T m := fun hm hS => by
    obtain ⟨o, es, ep, t, ho, rest⟩ := hS
    exact ⟨o, es, ep, t, hm.heap S _ off ho, rest⟩
  induction k with
  | zero =>
    intro i s hk hi hst hS hR
    obtain rfl : i = n := by omega
    refine codeAny_builtin PyProof.Rows.F.entry_set_update_loop ?_
    rw [Around.under_plainId PyProof.Rows.F.plain_set_update_loop _]
    show wpAny _ A.in1 (pyNext (.ref I) >>= fun _ => _) _ _ s
    exact wpAny_bind (W.done s _ _ hst fun s' hm => wpAny_pure (hR s' (hm.mono more) (move hm hS)))
  | succ k ih =>
    intro i s hk hi hst hS hR
    have hlt : i < n := by omega
    refine codeAny_builtin PyProof.Rows.F.entry_set_update_loop ?_
    rw [Around.under_plainId PyProof.Rows.F.plain_set_update_loop _]
    show wpAny _ A.in1 (pyNext (.ref I) >>= fun _ => _) _ _ s
    refine wpAny_bind (W.item i s _ _ hlt hst fun v s' hP hst' hm => ?_)
    obtain ⟨t, rfl⟩ := hval i v hP
    show wpAny _ A.in1 (holding _ (setAdd S _) >>= fun _ => _) _ _ s'
    refine wpAny_bind (wpAny_holding ?_)
    unfold setAdd
    have small := cnt_le xs i
    refine wpAny_holding (wpAny_bind ((PySem.strKind prog w).pyHash (k := xs.getD i Str.empty) (strKind_is _ _ _ _) ?_))
    refine wpAny_setAddHashed_of (knd := PySem.strKind prog w) (s := { s' with toks := s'.toks + 1 }) (strKind_is _ _ _ _) rfl (show s'.heap.SetOf _ S _ _ from move hm hS) (by omega) fun h' hsb hS2 => ?_
    have next : h'.SetOf (PySem.strKind prog w) S (fun y => (xs.take (i + 1)).any (· == y)) (cnt xs (i + 1)) := by
      refine SetOf_congr hS2 (fun y => ?_) (by conv => rhs; unfold cnt)
      have e : xs.take (i + 1) = xs.take i ++ [xs.getD i Str.empty] := by
        rw [List.take_add_one, List.getD_eq_getElem?_getD, List.getElem?_eq_getElem (by omega)]
        rfl
      rw [e, List.any_append]
      congr 1
      rw [List.any_cons, List.any_nil, Bool.or_false]
      by_cases z : y = xs.getD i Str.empty
      · rw [decide_eq_true z, ← z, beq_self_eq_true]
      · rw [decide_eq_false z]
        exact (beq_eq_false_iff_ne.mpr fun q => z q.symm).symm
    refine wpAny_pure ⟨plainId_quiet PyProof.Rows.F.plain_set_update_loop _, ih (i + 1) _ (by omega) hlt (W.frame _ s' _ _ hst' (Nat.le_succ _) fun b hb o e => ?_) next fun s2 hm2 hS3 => ?_⟩
    · rw [hsb.2 b fun z : b = S => hSf (by rw [← z]; exact hb)]; exact e
    · exact hR s2 (Moved.trans W.gtrans ((hm.mono more).then_heap (Nat.le_succ _) fun b o hb e => (hsb.2 b fun z : b = S => hb (by rw [z]; exact List.mem_cons_self)).trans e) hm2) hS3
end
section
variable {prog : Program} {w : World} {A : Around} {E : Value → Shared → Prop} {s : Shared}
theorem call_set_strs {l : Addr} {items : Array Value} {xs : List Str} {Q : Value → Shared → Prop}
    (hh : A.handled = none) (hl : s.heap.IsList l items) (hi : PyProof.Rows.StrsAre items.toList xs) (hn1 : xs.length ≤ 4000)
    (h : ∀ (h' : Heap) (tk : Nat), h'.SetOf (PySem.strKind prog w) s.heap.objs.size (fun y => (xs.take items.size).any (· == y)) (cnt xs items.size) →
      (∀ b o, b < s.heap.objs.size → s.heap.get? b = some o → h'.get? b = some o) → Q (.ref s.heap.objs.size) { s with heap := h', toks := tk }) :
    wpAny (model prog w) A (call (.type "set") [.ref l]) Q E s := by
  have up := PySem.F.called_set
  obtain ⟨c, tl, hmro⟩ := up.mro
  have g1 := up.made
  have g2 := up.sub
  have g3 := up.notType
  have g4 := up.canCreate
  have g5 := PySem.F.typeCall_set_1 (.ref l)
  refine wpAny_call (codeAny_of_tree ?_)
  show wpAny _ _ (callAny (.type "set") _) _ _ _
  refine wpAny_pure ⟨Code.quiet_builtin _ (by decide +kernel), codeAny_builtin PySem.F.entry_type_call ?_⟩
  rw [Around.under_plain (weight_type_call_type "set" [.ref l] []) rfl]
  repeat (any_goals (first | assumption | wp_step))
  refine codeAny_mono (code_set_new_1 (.ref l) (E := E) (Q₁ := fun v s1 => ∃ led : Bool, v = .ref s.heap.objs.size ∧ s1 = { s with heap := s.heap.push { cls := .type "set", dict := none, data := .set #[] 0 (.fresh 0 0 led) } }) fun led => ⟨led, rfl, rfl⟩) fun r s1 hr => ?_
  rcases r with e | fl
  · exact hr
  cases fl with
  | ret v =>
    obtain ⟨led, rfl, rfl⟩ := hr
    have gS : (s.heap.push { cls := .type "set", dict := none, data := .set #[] 0 (.fresh 0 0 led) }).get? s.heap.objs.size = some { cls := .type "set", dict := none, data := .set #[] 0 (.fresh 0 0 led) } := Heap.get?_push_size _ rfl
    have gT : Shared.TypeIs { s with heap := s.heap.push { cls := .type "set", dict := none, data := .set #[] 0 (.fresh 0 0 led) } } (.ref s.heap.objs.size) "set" := ⟨_, gS, rfl⟩
    have g6 := up.init.lookup
    have g7 := up.init.bind (.ref s.heap.objs.size)
    repeat (any_goals (first | assumption | wp_step))
    refine codeAny_mono (codeAny_call_builtin (R := wants (fun r s2 => r = .none ∧ ∃ h' tk, s2 = { s with heap := h', toks := tk } ∧
        h'.SetOf (PySem.strKind prog w) s.heap.objs.size (fun y => (xs.take items.size).any (· == y)) (cnt xs items.size) ∧
        (∀ b o, b < s.heap.objs.size → s.heap.get? b = some o → h'.get? b = some o)) E) up.init.plain PySem.F.entry_set_init (check_set_init_1 gT ?_)) fun r2 s2 hr2 => ?_
    · obtain ⟨⟨oc, od, oz, osl⟩, hol, hcl, nl, hdl⟩ := hl
      simp only at hcl hdl
      subst hcl hdl
      have hol' : (s.heap.push { cls := .type "set", dict := none, data := .set #[] 0 (.fresh 0 0 led) }).get? l = some { cls := .type "list", dict := od, data := .seq items nl, slots := osl } := Heap.get?_push_of_some _ hol
      have hl1 : (s.heap.push { cls := .type "set", dict := none, data := .set #[] 0 (.fresh 0 0 led) }).IsList l items := ⟨_, hol', rfl, nl, rfl⟩
      have g8 := PySem.F.sub_list_set
      have g9 := PySem.F.sub_list_frozenset
      have g10 : (Value.type "list" == Value.type "dict") = false := by decide
      unfold Builtin.«set.__init__» noKeywords Builtin.Frozenset.updateFrom
      generalize hPI : pyIter = PI
      wp_walk
      subst hPI
      refine wpAny_pyIter_list hl1 (wpAny_bind (wpAny_runValue ?_))
      have low : l < s.heap.objs.size := Heap.lt_size hol
      have one : ∀ o : Obj, (s.heap.push o).objs.size = s.heap.objs.size + 1 := fun o => Heap.size_push ..
      have calm : A.in1.in1.in1.handled = none := by simp [hh]
      have all : xs.length = items.size := by rw [← StrsAre.len_eq hi, Array.length_toList]
      refine grow ((Walks.list calm _ l (by rw [one]; exact Nat.ne_of_lt (Nat.lt_succ_of_lt low)) items).toS) s.heap.objs.size (by rw [one]; simp only [List.mem_cons, List.not_mem_nil, or_false, not_or]; exact ⟨Nat.ne_of_lt (Nat.lt_succ_self _), Nat.ne_of_gt low⟩) xs all (by unfold scanBound; omega)
        (fun i v hv => SS.strs_at hi i v (by rw [Array.getElem?_toList]; exact hv)) (items.size - 0) 0 _ (by omega) (Nat.zero_le _) ⟨⟨_, Heap.get?_push_size _ rfl, rfl, rfl⟩, hl1.push _⟩ ?start ?fin
      case start => exact PyProof.Rows.SetOf_congr ((PyProof.Rows.setObjOf_fresh (knd := PySem.strKind prog w) led).setOf (Heap.get?_push_of_some _ gS) (by unfold scanBound; omega)) (fun _ => rfl) rfl
      case fin =>
        intro s' hm hS'
        obtain ⟨h', g', d', tk', os'⟩ := s'
        obtain rfl : g' = s.gens := hm.gens
        obtain rfl : d' = s.drawn := hm.drawn
        obtain rfl : os' = s.os := hm.os
        refine wpAny_pure ?_
        show wpAny _ _ (ret Value.none) _ _ _
        refine wpAny_pure ⟨rfl, h', tk', rfl, hS', fun b o hb e => hm.heap b o ?_ (Heap.get?_push_of_some _ (Heap.get?_push_of_some _ e))⟩
        rw [one]
        simp only [List.mem_cons, List.not_mem_nil, or_false, not_or]
        exact ⟨Nat.ne_of_lt hb, Nat.ne_of_lt (Nat.lt_succ_of_lt hb)⟩
    · rcases r2 with e | fl2
      · exact hr2
      cases fl2 with
      | ret r =>
        obtain ⟨rfl, h', tk, rfl, hS', hk'⟩ := hr2
        repeat (any_goals (first | assumption | wp_step))
        exact h _ _ hS' hk'
      | _ => exact hr2.elim
  | _ => exact hr.elim
end
end WdSet
set_option Elab.async false
set_option linter.all false
set_option maxRecDepth 100000
set_option maxHeartbeats 1000000
/-! len(set(texts)), .index, .append and .clear of what has just been made. -/
namespace Wd
open PySem PySem.Spec L2
open PyProof.Rows hiding St
def unlikes (xs : List Str) : Nat := WdSet.cnt xs xs.length
theorem cnt_lt {xs : List Str} : ∀ {i : Nat}, i ≤ xs.length → WdSet.cnt xs i = i → (xs.take i).Nodup
  | 0, _, _ => by simp
  | i + 1, hi, h => by
    unfold WdSet.cnt at h
    have z := WdSet.cnt_le xs i
    have hlt : i < xs.length := hi
    have e : xs.take (i + 1) = xs.take i ++ [xs[i]] := by
      rw [List.take_add_one, List.getElem?_eq_getElem hlt]
      rfl
    have g : xs.getD i Str.empty = xs[i] := by
      rw [List.getD_eq_getElem?_getD, List.getElem?_eq_getElem hlt]
      rfl
    split at h
    · omega
    · rename_i c
      rw [g] at c
      rw [e, List.nodup_append]
      refine ⟨cnt_lt (Nat.le_of_lt hlt) (by omega), by simp, fun a ha b hb => ?_⟩
      obtain rfl := List.mem_singleton.mp hb
      rintro rfl
      exact c (List.any_eq_true.mpr ⟨_, ha, beq_self_eq_true _⟩)
theorem cnt_eq {xs : List Str} (h : xs.Nodup) : ∀ {i : Nat}, i ≤ xs.length → WdSet.cnt xs i = i
  | 0, _ => rfl
  | i + 1, hi => by
    have hlt : i < xs.length := hi
    unfold WdSet.cnt
    have g : xs.getD i Str.empty = xs[i] := by
      rw [List.getD_eq_getElem?_getD, List.getElem?_eq_getElem hlt]
      rfl
    rw [g, cnt_eq h (Nat.le_of_lt hlt), if_neg]
    intro c
    obtain ⟨a, ha, hb⟩ := List.any_eq_true.mp c
    have e := eq_of_beq hb
    subst e
    obtain ⟨j, hj, hx⟩ := List.getElem_of_mem ha
    rw [List.length_take] at hj
    rw [List.getElem_take] at hx
    exact absurd hx (List.pairwise_iff_getElem.mp h j i (by omega) hlt (by omega))
theorem unlikes_iff (xs : List Str) : unlikes xs = xs.length ↔ xs.Nodup :=
  ⟨fun h => by have z := cnt_lt (Nat.le_refl _) h; rw [List.take_length] at z; exact z, fun h => cnt_eq h (Nat.le_refl _)⟩
end Wd
namespace L2
open PySem PySem.Spec PyProof.Rows
def tLenSetS (K : PySem.W.Frag) (ta : TE) : TE := fun σ H Q => ta σ H fun x H1 => ∃ (l : Addr) (xs : List Str), x = .ref l ∧ SqL K H1 l (xs.map V.str) ∧ xs.length ≤ 4000 ∧ Q (.int (Wd.unlikes xs : Nat)) H1
theorem pe_lenSetS {X : Cx} {a : Expr} {ta : TE} {p p2 q pos : Pos} (hc : X.calm = true) (hg : Gl X "len") (hm : X.mg "len" = none) (hg2 : Gl X "set") (hm2 : X.mg "set" = none) (ha : PE X a ta)
    (na : starEach [a] X.env = (false, eval a X.env) :: starEach [] X.env) : PE X (.Call (.Name "len" p) [.Call (.Name "set" p2) [a] [] q] [] pos) (tLenSetS X.K ta) := by
  refine ⟨fun pins s σ H Q I h => Call_ (ld_blt I hg hm PySem.boot_len (PyProof.Rows.callWith_builtin1 (PyProof.Rows.args_cons ?_ rfl) rfl rfl))⟩
  refine Call_ (ld_blt I hg2 hm2 PyProof.Rows.boot_set (PyProof.Rows.callWith_type1 (PyProof.Rows.args_cons (thn (ha.run pins s σ H _ I h) fun v s1 ⟨x, H1, I1, r1, l, xs, ex, hq, hn, q1⟩ => PyProof.Rows.args_nil ?_) na) na rfl))
  subst ex
  cases r1
  obtain ⟨its, r, pl, hz⟩ := I1.list hq
  have hlen : its.toArray.size = xs.length := by rw [List.size_toArray, ← r.length, List.length_map]
  refine WdSet.call_set_strs (I1.ok.hd hc) pl.isList (by simpa using strsAre_of r) hn fun h' tk hS hk => PyProof.Rows.args_nil ?_
  rw [hlen] at hS
  obtain ⟨o, es, ep, t, ho, hex, hd, _, _, _, hf, hn'⟩ := hS
  have I2 : Inv X pins σ H1 { s1 with heap := h', toks := tk } := I1.kept fun b o e => hk b o (Heap.lt_size e) e
  have small := WdSet.cnt_le xs xs.length
  exact call_len_set ho hex hd hf (by rw [hn'] <;> omega) ⟨.int (Wd.unlikes xs : Nat), H1, I2.tok _, ⟨_, by rw [hn'] <;> rfl⟩, q1⟩
end L2
namespace Wd
open PySem PySem.Spec L2
open PyProof.Rows hiding St
section
variable {ι : Type} {Xs : ι → Cx} {P : Program} {w : World} {K : PySem.W.Frag} {mg : Str → Option Value} {base : Heap} {N : List Str} {k : Nat} {γ : Gm} {d d1 d2 : D} {ds : List D} {rs : Slot} {e a b o : Expr} {es : List Expr} {pos pos' apos : Pos} {x : Str}
/-- len(set(a)) -/
theorem pd_lenSet (fx : Fx Xs P w K mg base N k) {p p2 q : Pos} {xs : List Str} (ha : PED K Xs a γ (.sh d)) (hd : IsL d (xs.map .str)) (hm : mg "len" = none) (hm2 : mg "set" = none) (hn : xs.length ≤ 4000) (hg : ∀ i, Gl (Xs i) "len" := by exact fun _ => rfl) (hg2 : ∀ i, Gl (Xs i) "set" := by exact fun _ => rfl)
    (na : ∀ i, starEach [a] (Xs i).env = (false, eval a (Xs i).env) :: starEach [] (Xs i).env := by exact fun _ => rfl) : PED K Xs (.Call (.Name "len" p) [.Call (.Name "set" p2) [a] [] q] [] pos) γ (.sh (.int (unlikes xs : Nat))) := by
  refine .of (t := tLenSetS K (anyE Xs a)) (fun i => ?_) fun H0 S0 S H σ k Q q => ha H0 S0 S H σ k _ fun v S' H' g s r => ?_
  · have z := pe_lenSetS (p := p) (p2 := p2) (q := q) (pos := pos) (fx.calm i) (hg i) (by rw [fx.hmg i]; exact hm) (hg2 i) (by rw [fx.hmg i]; exact hm2) (pe_any a i) (na i)
    rw [fx.hK i] at z
    exact z
  · obtain ⟨l, vs, rfl, hq, t⟩ := isL_of hd r s
    obtain rfl := t.strs
    exact ⟨l, xs, rfl, hq, hn, q _ S' H' g s .int⟩
/-- the first place of x in xs -/
def firstAt {α : Type} (xs : List α) (x : α) (j : Nat) : Prop := xs[j]? = some x ∧ ∀ m, m < j → xs[m]? ≠ some x
/-- o.index(e), texts in a list -/
theorem pd_index (fx : Fx Xs P w K mg base N k) {xs : List Str} {z : Str} {j : Nat} (ho : PED K Xs o γ (.sh d)) (hd : IsL d (xs.map .str)) (he : PED K Xs e γ (.sh (.str z))) (hj : firstAt xs z j)
    (hbase : ∀ i, attributeBase o "index" (Xs i).env (eval o (Xs i).env) = eval o (Xs i).env := by exact fun _ => rfl)
    (hfew : ∀ j, ((backTo pos (starEach [e] (Xs j).env)).all (fun x => !x.1) && (backToKw pos (keywordEach [] (Xs j).env)).all (fun x => x.1.isSome) && decide (([e] : List Expr).length + ([] : List Keyword).length + (if ([] : List Keyword).isEmpty then 0 else 1) < 30)) = true := by exact fun _ => rfl)
    (hline : (apos.endLine == pos.line) = true := by rfl) (hs : ∀ j, starEach [e] (Xs j).env = (false, eval e (Xs j).env) :: starEach [] (Xs j).env := by exact fun _ => rfl) (hplain : ∀ j, (backTo pos (starEach [] (Xs j).env)).any (·.1) = false := by exact fun _ => rfl) :
    PED K Xs (.Call (.Attribute o "index" apos) [e] [] pos) γ (.sh (.int (j : Nat))) := by
  refine .of (t := tBM K "list" (rIndex K) (anyE Xs o) (tCons (anyE Xs e) tNil)) (fun i => ?_) fun H0 S0 S H σ k Q q => ho H0 S0 S H σ k _ fun v S1 H1 g1 s1 r1 => ?_
  · have z := pe_bm (X := Xs i) (r := rIndex (Xs i).K) PySem.F.plainAttrs_list PySem.F.slot_list_index PySem.F.type_list_index mt_index (pe_any o i) (pa_cons (pe_any e i) pa_nil (hs i)) (hbase i) (hfew i) hline (hs i) (hplain i)
    rw [fx.hK i] at z
    exact z
  · obtain ⟨l, vs, rfl, hq, t⟩ := isL_of hd r1 s1
    obtain rfl := t.strs
    refine ⟨.inl ⟨rfl, _, hq⟩, he H0 S0 S1 H1 σ (k.grow g1 s1) _ fun u S2 H2 g2 s2 r2 => ?_⟩
    cases r2
    obtain ⟨l2, vs2, e2, hq2, t2⟩ := isL_of hd (Dat.ex g2.ss r1) s2
    cases e2
    obtain rfl := t2.strs
    refine ⟨l, _, .str z, j, .str z, rfl, rfl, hq2, rfl, flat_strs xs, by rw [List.getElem?_map, hj.1]; rfl, beq_self_eq_true z, fun m y hm hy => ?_, q _ S2 H2 (g1.trans g2) s2 .int⟩
    rw [List.getElem?_map] at hy
    cases hx : xs[m]? with
    | none => rw [hx] at hy; cases hy
    | some z' =>
      rw [hx] at hy
      cases hy
      exact beq_eq_false_iff_ne.mpr fun q => hj.2 m hm (by rw [hx, q])
def rIxT (K : PySem.W.Frag) : V → List V → Hp → VK → Prop := fun x xs H Q => ∃ p, ∃ ys : List Str, ∃ z j, x = .ref p ∧ xs = [.str z] ∧ SqT K H p (ys.map V.str) ∧ ys[j]? = some z ∧ (∀ m, m < j → ys[m]? ≠ some z) ∧ Q (.int (j : Nat)) H
/-- G.index(e), G a written tuple of texts -/
theorem pd_indexG (fx : Fx Xs P w K mg base N k) {p : Pos} {pa : Addr} {ob : Obj} {its : Array Value} {n : Nat} {xs : List Str} {z : Str} {j : Nat} (hm : mg x = some (.ref pa)) (hk : K.lookup pa = some ob ∧ ob.cls = .type "tuple" ∧ ob.dict = none ∧ ob.data = .seq its n ∧ its.size ≤ sizeLine) (hv : Vals (xs.map V.str) its.toList) (he : PED K Xs e γ (.sh (.str z))) (hj : firstAt xs z j)
    (hg : ∀ i, Gl (Xs i) x := by exact fun _ => rfl) (hd : (x == ("__debug__" : Str)) = false := by decide)
    (hbase : ∀ i, attributeBase (.Name x p) "index" (Xs i).env (eval (.Name x p) (Xs i).env) = eval (.Name x p) (Xs i).env := by exact fun _ => rfl)
    (hfew : ∀ j, ((backTo pos (starEach [e] (Xs j).env)).all (fun x => !x.1) && (backToKw pos (keywordEach [] (Xs j).env)).all (fun x => x.1.isSome) && decide (([e] : List Expr).length + ([] : List Keyword).length + (if ([] : List Keyword).isEmpty then 0 else 1) < 30)) = true := by exact fun _ => rfl)
    (hline : (apos.endLine == pos.line) = true := by rfl) (hs : ∀ j, starEach [e] (Xs j).env = (false, eval e (Xs j).env) :: starEach [] (Xs j).env := by exact fun _ => rfl) (hplain : ∀ j, (backTo pos (starEach [] (Xs j).env)).any (·.1) = false := by exact fun _ => rfl) :
    PED K Xs (.Call (.Attribute (.Name x p) "index" apos) [e] [] pos) γ (.sh (.int (j : Nat))) := by
  refine .of (t := tBM K "tuple" (rIxT K) (tC (.ref pa)) (tCons (anyE Xs e) tNil)) (fun i => ?_) fun H0 S0 S H σ k Q q => ⟨.inr (.inl ⟨rfl, ob, hk.1, hk.2.1, hk.2.2.1⟩), he H0 S0 S H σ k _ fun u S2 H2 g2 s2 r2 => ?_⟩
  · have z := pe_bm (X := Xs i) (r := rIxT (Xs i).K) PySem.F.plainAttrs_tuple PySem.F.slot_tuple_index PySem.F.type_tuple_index mt_tup_index (pe_glob (v := .ref pa) (hg i) (by rw [fx.hmg i]; exact hm) rfl hd) (pa_cons (pe_any e i) pa_nil (hs i)) (hbase i) (hfew i) hline (hs i) (hplain i)
    rw [fx.hK i] at z
    exact z
  · cases r2
    exact ⟨pa, xs, z, j, rfl, rfl, .inr ⟨ob, its, n, hk.1, hk.2.1, hk.2.2.2.1, hk.2.2.2.2, hv⟩, hj.1, hj.2, q _ S2 H2 g2 s2 .int⟩
/-- o.append(e), o just made, then forgotten -/
theorem psd_appendNew (fx : Fx Xs P w K mg base N k) (ho : PED K Xs o γ (.ow (.lst ds))) (he : PED K Xs e γ (.sh d)) (hl : ds.length < sizeLine)
    (hbase : ∀ i, attributeBase o "append" (Xs i).env (eval o (Xs i).env) = eval o (Xs i).env := by exact fun _ => rfl)
    (hfew : ∀ j, ((backTo pos (starEach [e] (Xs j).env)).all (fun x => !x.1) && (backToKw pos (keywordEach [] (Xs j).env)).all (fun x => x.1.isSome) && decide (([e] : List Expr).length + ([] : List Keyword).length + (if ([] : List Keyword).isEmpty then 0 else 1) < 30)) = true := by exact fun _ => rfl)
    (hline : (apos.endLine == pos.line) = true := by rfl) (hs : ∀ j, starEach [e] (Xs j).env = (false, eval e (Xs j).env) :: starEach [] (Xs j).env := by exact fun _ => rfl) (hplain : ∀ j, (backTo pos (starEach [] (Xs j).env)).any (·.1) = false := by exact fun _ => rfl)
    (hsw : ∀ j, swapsWith (.Call (.Attribute o "append" apos) [e] [] pos) none pos'.line (Xs j).env = pure false := by exact fun _ => rfl) : PSD K Xs (.Expr (.Call (.Attribute o "append" apos) [e] [] pos) pos') γ (.nx γ) := by
  refine .of (t := tDrop (tBM K "list" rAppend (anyE Xs o) (tCons (anyE Xs e) tNil))) (fun j => ps_expr ?_ (hsw j)) fun H0 S0 S H σ D kk q => ho H0 S0 S H σ kk _ fun v S1 H1 g1 s1 ⟨l, hv, h1, h2, xs, hx, t⟩ => ?_
  · have z := pe_bm (X := Xs j) (r := rAppend) PySem.F.plainAttrs_list PySem.F.slot_list_append PySem.F.type_list_append mt_append (pe_any o j) (pa_cons (pe_any e j) pa_nil (hs j)) (hbase j) (hfew j) hline (hs j) (hplain j)
    rw [fx.hK j] at z
    exact z
  · subst hv
    refine ⟨.inl ⟨rfl, xs, SqL.of hx⟩, he H0 S0 S1 H1 σ (kk.grow g1 s1) _ fun y S2 H2 g2 s2 r2 => ⟨l, xs, y, rfl, rfl, g2.hh _ _ hx, by rw [t.length]; exact hl, ?_⟩⟩
    have n2 : S2 l = none := g2.out h1 hx
    have g := g1.trans g2
    have k2 := kk.grow ⟨g.ss, fun b u z => (by rw [upd_ne (ne_of_none z h2)]; exact g.hh b u z), g.nw⟩ (s2.mut (o := .lst (xs ++ [y])) n2)
    exact q S2 _ σ k2
/-- o.clear(), o a list just made, then forgotten -/
theorem psd_clearNew (fx : Fx Xs P w K mg base N k) (ho : PED K Xs o γ (.ow (.lst ds)))
    (hbase : ∀ i, attributeBase o "clear" (Xs i).env (eval o (Xs i).env) = eval o (Xs i).env := by exact fun _ => rfl) (hline : (apos.endLine == pos.line) = true := by rfl)
    (hsw : ∀ j, swapsWith (.Call (.Attribute o "clear" apos) [] [] pos) none pos'.line (Xs j).env = pure false := by exact fun _ => rfl) : PSD K Xs (.Expr (.Call (.Attribute o "clear" apos) [] [] pos) pos') γ (.nx γ) := by
  refine .of (t := tDrop (tBM0 K "list" rClear (anyE Xs o))) (fun j => ps_expr ?_ (hsw j)) fun H0 S0 S H σ D kk q => ho H0 S0 S H σ kk _ fun v S1 H1 g1 s1 ⟨l, hv, h1, h2, xs, hx, t⟩ => ?_
  · have z := pe_bm0 (X := Xs j) (r := rClear) PySem.F.plainAttrs_list PySem.F.slot_list_clear PySem.F.type_list_clear mt_clear (pe_any o j) (hbase j) hline
    rw [fx.hK j] at z
    exact z
  · subst hv
    refine ⟨.inl ⟨rfl, xs, SqL.of hx⟩, l, xs, rfl, rfl, hx, ?_⟩
    have k2 := kk.grow ⟨g1.ss, fun b u z => (by rw [upd_ne (ne_of_none z h2)]; exact g1.hh b u z), g1.nw⟩ (s1.mut (o := .lst []) h1)
    exact q S1 _ σ k2
end
end Wd
set_option Elab.async false
set_option linter.all false
set_option maxRecDepth 100000
set_option maxHeartbeats 1000000
/-! a <= b <= c. -/
namespace Wd
open PySem PySem.Spec L2
open PyProof.Rows hiding St
section
variable {ι : Type} {Xs : ι → Cx} {P : Program} {w : World} {K : PySem.W.Frag} {mg : Str → Option Value} {base : Heap} {N : List Str} {k : Nat} {γ : Gm} {d1 d2 d3 : D} {e a b c : Expr} {pos : Pos} {tv tw : Bool}
theorem evd_chain {ta tb tc : TE} {r r' : R2} (ha : EvD K ta γ (.sh d1)) (hb : EvD K tb γ (.sh d2)) (hc : EvD K tc γ (.sh d3)) (h1 : RD K r d1 d2 (.sh (.bl tv))) (h2 : tv = true → RD K r' d2 d3 (.sh (.bl tw))) : EvD K (tChain r r' ta tb tc) γ (.sh (.bl (tv && tw))) := fun H0 S0 S H σ k Q q =>
  ha H0 S0 S H σ k _ fun x S1 H1 g1 s1 r1 => hb H0 S0 S1 H1 σ (k.grow g1 s1) _ fun y S2 H2 g2 s2 r2 => h1 S2 H2 x y s2 (Dat.ex g2.ss r1) r2 _ fun u S3 H3 g3 s3 r3 => by
    cases r3
    have g := (g1.trans g2).trans g3
    cases tv with
    | true => refine ⟨true, rfl, ?_⟩; rw [if_pos rfl]; exact hc H0 S0 S3 H3 σ (k.grow g s3) _ fun z S4 H4 g4 s4 r4 => h2 rfl S4 H4 y z s4 (Dat.ex (g3.trans g4).ss r2) r4 _ fun u S5 H5 g5 s5 r5 => q u S5 H5 ((g.trans g4).trans g5) s5 r5
    | false => exact ⟨false, rfl, q _ S3 H3 g s3 .bl⟩
theorem pd_chain {op op' : CmpOp} {r r' : R2} (ho : ∀ i, OpR (Xs i) (compareOp op) r) (ho' : ∀ i, OpR (Xs i) (compareOp op') r') (ha : PED K Xs a γ (.sh d1)) (hb : PED K Xs b γ (.sh d2)) (hc : PED K Xs c γ (.sh d3)) (h1 : RD K r d1 d2 (.sh (.bl tv))) (h2 : tv = true → RD K r' d2 d3 (.sh (.bl tw)))
    (hm : lastMarks [op, op'] [b, c] = false := by with_unfolding_all rfl) : PED K Xs (.Compare a [op, op'] [b, c] pos) γ (.sh (.bl (tv && tw))) :=
  .of (fun i => pe_chain (ho i) (ho' i) (pe_any a i) (pe_any b i) (pe_any c i) hm) (evd_chain ha hb hc h1 h2)
theorem ptd_chain {op op' : CmpOp} {r r' : R2} (ho : ∀ i, OpR (Xs i) (compareOp op) r) (ho' : ∀ i, OpR (Xs i) (compareOp op') r') (ha : PED K Xs a γ (.sh d1)) (hb : PED K Xs b γ (.sh d2)) (hc : PED K Xs c γ (.sh d3)) (h1 : RD K r d1 d2 (.sh (.bl tv))) (h2 : tv = true → RD K r' d2 d3 (.sh (.bl tw)))
    (hm : lastMarks [op, op'] [b, c] = false := by with_unfolding_all rfl) : PTD K Xs (.Compare a [op, op'] [b, c] pos) γ (tv && tw) :=
  .of (fun i => pt_chain (ho i) (ho' i) (pe_any a i) (pe_any b i) (pe_any c i) hm) (evt_test (evd_chain ha hb hc h1 h2))
/-- i <= j <= l -/
theorem pd_within {i j l : Int} (ha : PED K Xs a γ (.sh (.int i))) (hb : PED K Xs b γ (.sh (.int j))) (hc : PED K Xs c γ (.sh (.int l))) (hm : lastMarks [.LtE, .LtE] [b, c] = false := by with_unfolding_all rfl) : PED K Xs (.Compare a [.LtE, .LtE] [b, c] pos) γ (.sh (.bl (decide (i ≤ j) && decide (j ≤ l)))) :=
  pd_chain (fun _ => op_le) (fun _ => op_le) ha hb hc rd_le (fun _ => rd_le) hm
theorem ptd_within {i j l : Int} (ha : PED K Xs a γ (.sh (.int i))) (hb : PED K Xs b γ (.sh (.int j))) (hc : PED K Xs c γ (.sh (.int l))) (hm : lastMarks [.LtE, .LtE] [b, c] = false := by with_unfolding_all rfl) : PTD K Xs (.Compare a [.LtE, .LtE] [b, c] pos) γ (decide (i ≤ j) && decide (j ≤ l)) :=
  ptd_chain (fun _ => op_le) (fun _ => op_le) ha hb hc rd_le (fun _ => rd_le) hm
end
end Wd
set_option Elab.async false
set_option linter.all false
set_option maxRecDepth 100000
set_option maxHeartbeats 1000000
/-! comprehensions without a test; all and sum of one. -/
namespace Wd
open PySem PySem.Spec L2
open PyProof.Rows hiding St
theorem Wk.n : Wk [] [] := Wk.refl _
theorem Wk.s {t : Slot} {γ γ' : Gm} (h : Wk γ γ') : Wk (t :: γ) (t :: γ') := ⟨by rw [List.length_cons, List.length_cons, h.1], fun i u e => by
  cases i with
  | zero => exact .inr e
  | succ i => exact h.2 i u e⟩
theorem Wk.u {t : Slot} {γ γ' : Gm} (h : Wk γ γ') : Wk (t :: γ) (.un :: γ') := ⟨by rw [List.length_cons, List.length_cons, h.1], fun i u e => by
  cases i with
  | zero => exact .inl (Option.some.inj e).symm
  | succ i => exact h.2 i u e⟩
section
variable {ι : Type} {Xs : ι → Cx} {P : Program} {w : World} {K : PySem.W.Frag} {mg : Str → Option Value} {base : Heap} {N : List Str} {k : Nat} {γ : Gm} {d : D} {e a b c : Expr} {pos p : Pos} {tg elt : Expr} {scope : Scope}
theorem pd_cast {r r' : Slot} (h : r = r') (p : PED K Xs e γ r) : PED K Xs e γ r' := h ▸ p
theorem ptd_cast {tv tw : Bool} (h : tv = tw) (p : PTD K Xs e γ tv) : PTD K Xs e γ tw := h ▸ p
/-- -e -/
theorem pd_neg {i : Int} (h : PED K Xs e γ (.sh (.int i))) : PED K Xs (.UnaryOp .USub e pos) γ (.sh (.int (-i))) :=
  pd_un (fun _ => un_neg) h fun S H x s h1 Q q => by cases h1; exact ⟨_, rfl, here s .int q⟩
/-- e * f -/
theorem pd_mul {i j : Int} (ha : PED K Xs a γ (.sh (.int i))) (hb : PED K Xs b γ (.sh (.int j))) (h : CMul i j) : PED K Xs (.BinOp a .Mult b pos) γ (.sh (.int (i * j))) := pd_op (fun _ => op_mul) ha hb (rd_mul h)
theorem pd_plus {i j : Int} (ha : PED K Xs a γ (.sh (.int i))) (hb : PED K Xs b γ (.sh (.int j))) : PED K Xs (.BinOp a .Add b pos) γ (.sh (.int (i + j))) := pd_op (fun _ => op_add) ha hb fun S H x y s h1 h2 Q q => by cases h1; cases h2; exact ⟨_, _, rfl, rfl, here s .int q⟩
theorem pd_minus {i j : Int} (ha : PED K Xs a γ (.sh (.int i))) (hb : PED K Xs b γ (.sh (.int j))) : PED K Xs (.BinOp a .Sub b pos) γ (.sh (.int (i - j))) := pd_op (fun _ => op_sub) ha hb rd_sub
theorem Fx.bk (fx : Fx Xs P w K mg base N k) {scope : Scope} : Fx (blkF Xs scope) P w K mg base N k := fx.blk scope
/-- [elt for tg in a] -/
theorem pd_lcA (fx : Fx Xs P w K mg base N k) (own : List (Str × Nat)) {α : Type} (xs : List α) (enc : α → D) (v : α → D) (hi : PID K Xs tg a γ (xs.map enc)) (hl : xs.length < sizeLine)
    (turn : ∀ x ∈ xs, ∃ γt is, TgD K (blkF Xs scope) tg (wipeG γ (own.map (·.2))) (enc x) γt is ∧ (∀ j ∈ is, j ∈ own.map (·.2)) ∧ PED K (blkF Xs scope) elt γt (.sh (v x)))
    (ok : ∀ i, BlkOk N (Xs i).env.scope scope own := by exact fun _ => blkOk_by rfl) (hvs : ∀ v ∈ own.map (·.2), v < γ.length := by exact allLt rfl) (hs : ∀ i, ∀ x, foldedSetIterable a (Xs i).env x = pure x := by exact fun _ _ => rfl) :
    PED K Xs (.ListComp elt [⟨tg, a, [], 0⟩] scope pos) γ (.ow (.lst (xs.map v))) := by
  have z := pd_lc (pos := pos) (ifs := []) fx own xs enc (fun _ => true) v hi hl (fun x hx => by
    obtain ⟨γt, is, h1, h2, h3⟩ := turn x hx
    exact ⟨γt, is, h1, h2, ptsd_nil, fun _ => h3⟩) ok hvs hs
  rw [List.filter_eq_self.mpr fun _ _ => rfl] at z
  exact z
/-- all([elt for tg in a]) -/
theorem pd_allC (fx : Fx Xs P w K mg base N k) {q : Pos} (own : List (Str × Nat)) {α : Type} (xs : List α) (enc : α → D) (g : α → Bool) (hm : mg "all" = none) (hi : PID K Xs tg a γ (xs.map enc)) (hl : xs.length < sizeLine)
    (turn : ∀ x ∈ xs, ∃ γt is, TgD K (blkF Xs scope) tg (wipeG γ (own.map (·.2))) (enc x) γt is ∧ (∀ j ∈ is, j ∈ own.map (·.2)) ∧ PED K (blkF Xs scope) elt γt (.sh (.bl (g x))))
    (ok : ∀ i, BlkOk N (Xs i).env.scope scope own := by exact fun _ => blkOk_by rfl) (hvs : ∀ v ∈ own.map (·.2), v < γ.length := by exact allLt rfl) (hs : ∀ i, ∀ x, foldedSetIterable a (Xs i).env x = pure x := by exact fun _ _ => rfl)
    (hg : ∀ i, Gl (Xs i) "all" := by exact fun _ => rfl) (he : ∀ i, starEach [.ListComp elt [⟨tg, a, [], 0⟩] scope q] (Xs i).env = (false, eval (.ListComp elt [⟨tg, a, [], 0⟩] scope q) (Xs i).env) :: starEach [] (Xs i).env := by exact fun _ => rfl) (hpl : ∀ i, (backTo pos (starEach [] (Xs i).env)).any (·.1) = false := by exact fun _ => rfl) :
    PED K Xs (.Call (.Name "all" p) [.ListComp elt [⟨tg, a, [], 0⟩] scope q] [] pos) γ (.sh (.bl (xs.all g))) := by
  have z := rc_all (K := K) (d := .lst (xs.map fun x => D.bl (g x))) (bs := xs.map g) (by rw [List.map_map]; exact .lst)
  rw [List.all_map] at z
  exact pd_blt fx (r := rAll K) (fun i => by have z := cr_all (X := Xs i) (fx.calm i); rw [fx.hK i] at z; exact z) hm (pad_cons (PED.share (pd_lcA fx own xs enc (fun x => D.bl (g x)) hi hl turn ok hvs hs)) pad_nil he) z (hg := hg) (he := he) (hpl := hpl)
/-- sum([elt for tg in a]) -/
theorem pd_sumC (fx : Fx Xs P w K mg base N k) {q : Pos} (own : List (Str × Nat)) {α : Type} (xs : List α) (enc : α → D) (g : α → Int) (hm : mg "sum" = none) (hi : PID K Xs tg a γ (xs.map enc)) (hl : xs.length < sizeLine)
    (turn : ∀ x ∈ xs, ∃ γt is, TgD K (blkF Xs scope) tg (wipeG γ (own.map (·.2))) (enc x) γt is ∧ (∀ j ∈ is, j ∈ own.map (·.2)) ∧ PED K (blkF Xs scope) elt γt (.sh (.int (g x))))
    (ok : ∀ i, BlkOk N (Xs i).env.scope scope own := by exact fun _ => blkOk_by rfl) (hvs : ∀ v ∈ own.map (·.2), v < γ.length := by exact allLt rfl) (hs : ∀ i, ∀ x, foldedSetIterable a (Xs i).env x = pure x := by exact fun _ _ => rfl)
    (hg : ∀ i, Gl (Xs i) "sum" := by exact fun _ => rfl) (he : ∀ i, starEach [.ListComp elt [⟨tg, a, [], 0⟩] scope q] (Xs i).env = (false, eval (.ListComp elt [⟨tg, a, [], 0⟩] scope q) (Xs i).env) :: starEach [] (Xs i).env := by exact fun _ => rfl) (hpl : ∀ i, (backTo pos (starEach [] (Xs i).env)).any (·.1) = false := by exact fun _ => rfl) :
    PED K Xs (.Call (.Name "sum" p) [.ListComp elt [⟨tg, a, [], 0⟩] scope q] [] pos) γ (.sh (.int (xs.map g).sum)) := by
  have z := rc_sum (K := K) (d := .lst (xs.map fun x => D.int (g x))) (ns := xs.map g) (by rw [List.map_map]; exact .lst)
  exact pd_blt fx (r := rSum K) (fun i => by have z := cr_sum (X := Xs i) (fx.calm i); rw [fx.hK i] at z; exact z) hm (pad_cons (PED.share (pd_lcA fx own xs enc (fun x => D.int (g x)) hi hl turn ok hvs hs)) pad_nil he) z (hg := hg) (he := he) (hpl := hpl)
/-- f() of a condition: if c: raise ..; the rest, where c is false -/
theorem pssd_ifF {sts rest : List Stmt} {o : Out} (hc : PTD K Xs c γ false) (h2 : PSsD K Xs rest γ o) : PSsD K Xs (.If c sts [] pos :: rest) γ o := pssd_cons (psd_ifF hc pssd_nil) h2
theorem pssd_ifT {sts sts2 rest : List Stmt} {o : Out} (hc : PTD K Xs c γ true) (h : PSsD K Xs sts γ o) (ho : ∀ γ', o ≠ .nx γ') : PSsD K Xs (.If c sts sts2 pos :: rest) γ o := pssd_end (psd_ifT hc h) ho
end
end Wd
set_option Elab.async false
set_option linter.all false
set_option maxRecDepth 100000
set_option maxHeartbeats 1000000
/-! a new tuple of a new dict and a datum. -/
namespace Wd
open PySem PySem.Spec L2
open PyProof.Rows hiding St
section
variable {K : PySem.W.Frag} {ta tb te : TE} {γ : Gm} {d : D} {ks : List (List Key × D)}
theorem evd_tw (ha : EvD K ta γ (.ow (.dt ks))) (hb : EvD K tb γ (.sh d)) : EvD K (tTup (tCons ta (tCons tb tNil))) γ (.tw ks d) := fun H0 S0 S H σ k Q q =>
  ha H0 S0 S H σ k _ fun v S1 H1 g1 s1 ⟨p, e1, n1, n2, kvs, hp, hk, t⟩ => hb H0 S0 S1 H1 σ (k.grow g1 s1) _ fun y S2 H2 g2 s2 r2 => by
    subst e1
    refine ⟨by show 2 ≤ sizeLine; decide, fun l hl => ?_⟩
    have hp2 : H2 p = some (.dT kvs) := g2.hh _ _ hp
    have np : S2 p = none := g2.out n1 hp
    have nl : S2 l = none := s2.out hl
    have ne : l ≠ p := fun z => by rw [z, hp2] at hl; cases hl
    refine q _ S2 _ ((g1.trans g2).trans ⟨Same.refl _, Ex.new hl, fun b o h n => (by rw [n] at h; cases h)⟩) (s2.ex (Ex.new hl)) ⟨l, p, kvs, y, rfl, ne, ⟨nl, Ex.back (g1.trans g2).hh hl⟩, ⟨np, n2⟩, upd_same, ?_, hk, t.ex g2.ss, r2⟩
    rw [upd_ne (fun z => ne z.symm)]
    exact hp2
/-- what is new may be shared -/
theorem TwAt.share {S S' H H' : Hp} {v : V} (h : TwAt K S' H' v ks d fun a => S' a = none ∧ H a = none) (g : Gr S H S' H') (s : Sub S' H') : ∃ S2, Gr S H S2 H' ∧ Sub S2 H' ∧ Dat K S2 v (.tup [.dt ks, d]) := by
  obtain ⟨l, p, kvs, y, rfl, ne, ⟨l1, l2⟩, ⟨p1, p2⟩, hl, hp, hk, t, r⟩ := h
  have e1 : Ex S' (upd S' p (.dT kvs)) := Ex.new p1
  have l3 : (upd S' p (.dT kvs)) l = none := by rw [upd_ne ne]; exact l1
  have e2 : Ex (upd S' p (.dT kvs)) (upd (upd S' p (.dT kvs)) l (.tup [.ref p, y])) := Ex.new l3
  refine ⟨upd (upd S' p (.dT kvs)) l (.tup [.ref p, y]), ⟨Same.trans g.ss (Same.trans e1 e2), g.hh, fun b o hb hn => ?_⟩, (s.add hp).add hl, .tup upd_same (.cons (.dt (e2 _ _ upd_same) hk (t.ex (Same.trans e1 e2))) (.cons (r.ex (Same.trans e1 e2)) .nil))⟩
  by_cases z : b = l
  · subst z; exact l2
  · rw [upd_ne z] at hb
    by_cases z2 : b = p
    · subst z2; exact p2
    · rw [upd_ne z2] at hb; exact g.nw b o hb hn
theorem EvD.shareT (h : EvD K te γ (.tw ks d)) : EvD K te γ (.sh (.tup [.dt ks, d])) := fun H0 S0 S H σ k Q q => h H0 S0 S H σ k Q fun v S' H' g s r => by
  obtain ⟨S2, g2, s2, x⟩ := TwAt.share r g s
  exact q v S2 H' g2 s2 x
end
section
variable {ι : Type} {Xs : ι → Cx} {P : Program} {w : World} {K : PySem.W.Frag} {mg : Str → Option Value} {base : Heap} {N : List Str} {k : Nat} {γ : Gm} {d : D} {ks : List (List Key × D)} {e a b : Expr} {pos : Pos} {x : Str}
/-- (a, b), a a new dict -/
theorem pd_tupTw {z} (ha : PED K Xs a γ (.ow (.dt ks))) (hb : PED K Xs b γ (.sh d)) (h1 : ∀ i, starEach [a, b] (Xs i).env = (false, eval a (Xs i).env) :: starEach [b] (Xs i).env := by exact fun _ => rfl) (h2 : ∀ i, starEach [b] (Xs i).env = (false, eval b (Xs i).env) :: starEach [] (Xs i).env := by exact fun _ => rfl) : PED K Xs (.Tuple [a, b] z pos) γ (.tw ks d) :=
  .of (fun i => pe_tup (pa_cons (pe_any a i) (pa_cons (pe_any b i) pa_nil (h2 i)) (h1 i))) (evd_tw ha hb)
theorem PED.shareT (h : PED K Xs e γ (.tw ks d)) : PED K Xs e γ (.sh (.tup [.dt ks, d])) := EvD.shareT h
end
end Wd
set_option Elab.async false
set_option linter.all false
set_option maxRecDepth 100000
set_option maxHeartbeats 1000000
/-! written dicts of the module: d[k], list(d); clear() of a dict in a new tuple. -/
namespace L2
open PySem PySem.Spec PyProof.Rows
/-- the written dict at a has these keys, in this order -/
def WKeys (K : PySem.W.Frag) (a : Addr) (ks : List Str) : Prop := ∃ es n, K.lookup a = some ⟨.type "dict", none, .dict es n, #[]⟩ ∧ (a == sysModules) = false ∧ Vals (ks.map V.str) (es.toList.map (·.key))
def rListW (K : PySem.W.Frag) : List V → Hp → VK → Prop := fun xs H Q => ∃ (a : Addr) (ks : List Str), xs = [.ref a] ∧ WKeys K a ks ∧ ks.length ≤ 1000 ∧ ∀ p, H p = none → Q (.ref p) (upd H p (.lst (ks.map V.str)))
theorem call_listW {X : Cx} (hcalm : X.calm = true) : CallR X (.type "list") (rListW X.K) := by
  intro pins s σ H xs us Q I r q
  obtain ⟨a, ks, ex, ⟨es, n, lk, lo, vk⟩, hn, q⟩ := q
  subst ex
  obtain ⟨u, eu, rx⟩ := vals1 r
  subst eu
  cases rx
  have hlen : es.size = ks.length := by
    have z := vk.length
    simp only [List.length_map, Array.length_toList] at z
    exact z.symm
  have raw : s.heap.DictRaw a es n := ⟨_, I.kIn a _ lk, ⟨rfl, rfl, rfl⟩, rfl⟩
  refine PySem.W.kdl_call (KdlSrc.rawDict (es := es) (ep := n) lo) (I.ok.hd hcalm) raw (by rw [sizeLine_eq]; omega) fun h' tk acc c' hk hD hacc => ?_
  have hv : Vals (ks.map V.str) acc.toList := by
    have e : acc.toList = es.toList.map (·.key) := by
      apply List.ext_getElem
      · rw [List.length_map, Array.length_toList, Array.length_toList]; exact hacc.1
      · intro j h1 h2
        rw [Array.length_toList] at h1
        obtain ⟨hi, e⟩ := hacc.2 j acc[j] (by rw [Array.getElem?_eq_getElem h1])
        simp only [List.getElem_map, Array.getElem_toList]
        exact e
    rw [e]
    exact vk
  exact ⟨.ref s.heap.objs.size, upd H s.heap.objs.size (.lst (ks.map V.str)), I.laid (t' := tk) hk (Nat.le_refl _)
    (show ObjOk X.prog X.w _ _ _ (.lst (ks.map V.str)) from ⟨by rw [List.length_map, sizeLine_eq]; omega, acc.toList, c', hv, by rw [Array.toArray_toList]; exact hD⟩), rfl, q _ (I.hok.fresh (Nat.le_refl _))⟩
end L2
namespace Wd
open PySem PySem.Spec L2
open PyProof.Rows hiding St
section
variable {ι : Type} {Xs : ι → Cx} {P : Program} {w : World} {K : PySem.W.Frag} {mg : Str → Option Value} {base : Heap} {N : List Str} {k : Nat} {γ : Gm} {d : D} {e a b : Expr} {pos p : Pos} {x : Str}
/-- D[e], D a written dict -/
theorem pd_subW (fx : Fx Xs P w K mg base N k) {pa : Addr} {z : Str} {v : V} (hm : mg x = some (.ref pa)) (he : PED K Xs e γ (.sh (.str z))) (kd : KDct K w pa z v) (hd : ∀ S, Dat K S v d) (hg : ∀ i, Gl (Xs i) x := by exact fun _ => rfl) (hdb : (x == ("__debug__" : Str)) = false := by decide) (hs : PlainIx e := by exact fun _ _ => rfl) :
    PED K Xs (.Subscript (.Name x p) e pos) γ (.sh d) := by
  refine .of (t := tOp (rIxD K w) (tC (.ref pa)) (anyE Xs e)) (fun i => ?_) fun H0 S0 S H σ k Q q => he H0 S0 S H σ k _ fun u S1 H1 g1 s1 r1 => ?_
  · have y := pe_ix (pos := pos) (ix_kdict (X := Xs i)) (pe_glob (pos := p) (v := .ref pa) (hg i) (by rw [fx.hmg i]; exact hm) rfl hdb) (pe_any e i) hs
    rw [fx.hK i, fx.hw i] at y
    exact y
  · cases r1
    exact ⟨pa, z, v, rfl, rfl, kd, q v S1 H1 g1 s1 (hd S1)⟩
/-- list(D) -/
theorem pd_listW (fx : Fx Xs P w K mg base N k) {q : Pos} {pa : Addr} {ks : List Str} (hl : mg "list" = none) (hm : mg x = some (.ref pa)) (hk : WKeys K pa ks) (hn : ks.length ≤ 1000) (hg : ∀ i, Gl (Xs i) x := by exact fun _ => rfl) (hdb : (x == ("__debug__" : Str)) = false := by decide) (hg2 : ∀ i, Gl (Xs i) "list" := by exact fun _ => rfl)
    (he : ∀ i, starEach [.Name x p] (Xs i).env = (false, eval (.Name x p) (Xs i).env) :: starEach [] (Xs i).env := by exact fun _ => rfl) (hpl : ∀ i, (backTo pos (starEach [] (Xs i).env)).any (·.1) = false := by exact fun _ => rfl) : PED K Xs (.Call (.Name "list" q) [.Name x p] [] pos) γ (.ow (.lst (ks.map .str))) := by
  refine .of (t := tCB (rListW K) (tCons (tC (.ref pa)) tNil)) (fun i => ?_) fun H0 S0 S H σ k Q q => ⟨pa, ks, rfl, hk, hn, fun l hl => ?_⟩
  · have y := pe_callTy (pos := pos) (p := q) (call_listW (X := Xs i) (fx.calm i)) (hg2 i) (by rw [fx.hmg i]; exact hl) (by decide +kernel) (pa_cons (pe_glob (pos := p) (v := .ref pa) (hg i) (by rw [fx.hmg i]; exact hm) rfl hdb) pa_nil (he i)) (by decide) (by decide) (he i) (hpl i)
    rw [fx.hK i] at y
    exact y
  · exact new_lst k.sh hl (by
      have : ∀ ns : List Str, Dats K S (ns.map V.str) (ns.map D.str) := fun ns => by
        induction ns with
        | nil => exact .nil
        | cons _ _ ih => exact .cons .str ih
      exact this ks) q
end
end Wd
namespace Wd
open PySem PySem.Spec L2
open PyProof.Rows hiding St
theorem putG_new {κ α : Type} [DecidableEq κ] : ∀ (l : List (κ × α)) (k : κ) (v : α), k ∉ l.map (·.1) → putG l k v = l ++ [(k, v)]
  | [], _, _, _ => rfl
  | p :: r, k, v, h => by
    rw [List.map_cons, List.mem_cons, not_or] at h
    unfold putG
    rw [if_neg (fun z => h.1 z.symm), putG_new r k v h.2]
    rfl
section
variable {ι : Type} {Xs : ι → Cx} {P : Program} {w : World} {K : PySem.W.Frag} {mg : Str → Option Value} {base : Heap} {N : List Str} {k : Nat} {γ : Gm} {d : D} {ks : List (List Key × D)} {e a b : Expr} {pos p pt : Pos} {x : Str}
/-- return (x, e), x an own dict -/
theorem psd_retTw (fx : Fx Xs P w K mg base N k) (i : Nat) {z : Nat} (he : PED K Xs e γ (.sh d)) (hg : γ[i]? = some (.ow (.dt ks)) := by rfl) (hN : N[i]? = some x := by rfl) (hv : ∀ j, Vis (Xs j).env.scope x := by first | exact fun _ => Or.inl rfl | exact fun _ => Or.inr (Or.inl rfl) | exact fun _ => Or.inr (Or.inr rfl))
    (hd : (x == ("__debug__" : Str)) = false := by decide) (hcd : (x == ("__classdict__" : Str)) = false := by decide)
    (h1 : ∀ i, starEach [.Name x p, e] (Xs i).env = (false, eval (.Name x p) (Xs i).env) :: starEach [e] (Xs i).env := by exact fun _ => rfl) (h2 : ∀ i, starEach [e] (Xs i).env = (false, eval e (Xs i).env) :: starEach [] (Xs i).env := by exact fun _ => rfl) : PSD K Xs (.Return (some (.Tuple [.Name x p, e] z pt)) pos) γ (.rt (.tw ks d)) := by
  refine .of (t := tRet (tTup (tCons (tVar i) (tCons (anyE Xs e) tNil)))) (fun j => ps_ret (pe_tup (pa_cons (pe_self i fx hN hv hd hcd j) (pa_cons (pe_any e j) pa_nil (h2 j)) (h1 j)))) fun H0 S0 S H σ D k q => ?_
  obtain ⟨p, hp, n1, n2, kvs, hx, hk, t⟩ := k.en i _ hg
  refine ⟨_, hp, he H0 S0 S H σ k _ fun y S2 H2 g2 s2 r2 => ⟨by show 2 ≤ sizeLine; decide, fun l hl => ?_⟩⟩
  have k2 := k.grow g2 s2
  have hp2 : H2 p = some (.dT kvs) := g2.hh _ _ hx
  have ne : l ≠ p := fun z => by rw [z, hp2] at hl; cases hl
  refine q _ S2 _ (Same.trans k2.h0 (Ex.new hl)) k2.s0 (s2.ex (Ex.new hl)) k2.nw ⟨l, p, kvs, y, rfl, ne, ⟨s2.out hl, Ex.back k2.h0 hl⟩, ⟨g2.out n1 hx, n2⟩, upd_same, ?_, hk, t.ex g2.ss, r2⟩
  rw [upd_ne (fun z => ne z.symm)]
  exact hp2
/-- return x, x an own object -/
theorem psd_retOw (fx : Fx Xs P w K mg base N k) (i : Nat) (hg : γ[i]? = some (.ow d) := by rfl) (hN : N[i]? = some x := by rfl) (hv : ∀ j, Vis (Xs j).env.scope x := by first | exact fun _ => Or.inl rfl | exact fun _ => Or.inr (Or.inl rfl) | exact fun _ => Or.inr (Or.inr rfl))
    (hd : (x == ("__debug__" : Str)) = false := by decide) (hcd : (x == ("__classdict__" : Str)) = false := by decide) : PSD K Xs (.Return (some (.Name x p)) pos) γ (.rt (.ow d)) := by
  refine .of (t := tRet (tVar i)) (fun j => ps_ret (pe_self i fx hN hv hd hcd j)) fun H0 S0 S H σ D k q => ?_
  obtain ⟨l, hl, h1, h2, h3⟩ := k.en i _ hg
  exact ⟨_, hl, q _ S H k.h0 k.s0 k.sh k.nw ⟨l, rfl, h1, h2, h3⟩⟩
end
end Wd
set_option Elab.async false
set_option linter.all false
set_option maxRecDepth 100000
set_option maxHeartbeats 1000000
/-! a, b = e, f with plain names. -/
namespace Wd
open PySem PySem.Spec L2
open PyProof.Rows hiding St
section
variable {ι : Type} {Xs : ι → Cx} {P : Program} {w : World} {K : PySem.W.Frag} {mg : Str → Option Value} {base : Heap} {N : List Str} {k : Nat} {γ : Gm} {d1 d2 : D} {e a b : Expr} {pos px py pt pt2 : Pos} {x y : Str}
theorem psd_par (fx : Fx Xs P w K mg base N k) (i j : Nat) {kt k2 : Nat} (ha : PAD K Xs [a, b] γ [d1, d2]) (hij : i ≠ j := by decide) (hN : N[i]? = some x := by rfl) (hM : N[j]? = some y := by rfl) (hi : i < γ.length := by exact Nat.le_of_ble_eq_true rfl) (hj : j < γ.length := by exact Nat.le_of_ble_eq_true rfl)
    (hx : ∀ q, (Xs q).env.scope.names.lookup x = some .local := by exact fun _ => rfl) (hy : ∀ q, (Xs q).env.scope.names.lookup y = some .local := by exact fun _ => rfl)
    (hw : ∀ q, swappedStores [.Tuple [.Name x px, .Name y py] kt pt] (.Tuple [a, b] k2 pt2) (Xs q).env = pure (some [x, y]) := by exact fun _ => rfl)
    (hs : ∀ q, swapsWithSole [.Tuple [.Name x px, .Name y py] kt pt] (.Tuple [a, b] k2 pt2) pos.line (Xs q).env = pure false := by exact fun _ => rfl) :
    PSD K Xs (.Assign [.Tuple [.Name x px, .Name y py] kt pt] (.Tuple [a, b] k2 pt2) pos) γ (.nx ((γ.set i (.sh d1)).set j (.sh d2))) :=
  .of (fun q => ps_par (i := i) (j := j) (fx.calm q) (by rw [fx.hN q]; exact fx.nd) (by rw [fx.hN q]; exact hN) (by rw [fx.hN q]; exact hM) hij (hx q) (hy q) (pa_any [a, b] q) (hw q) (hs q)) fun H0 S0 S H σ D k q => ha H0 S0 S H σ k _ fun vs S1 H1 g1 s1 r1 => by
    cases r1 with
    | cons r1 r2 =>
      cases r2 with
      | cons r2 r3 =>
        cases r3
        exact ⟨_, _, rfl, q S1 H1 _ (((k.grow g1 s1).sh_ hi r1).sh_ (i := j) (by rw [List.length_set]; exact hj) r2)⟩
end
end Wd
set_option Elab.async false
set_option linter.all false
set_option maxRecDepth 100000
set_option maxHeartbeats 1000000
/-! d.update(e) of two dicts; d.clear() of a dict with tuples' keys. -/
namespace L2
open PySem PySem.Spec PyProof.Rows
def mrgK (kvs more : List (Key × V)) : List (Key × V) := more.foldl (fun a p => putK a p.1 p.2) kvs
theorem KV.mrg : ∀ {more : List (Key × V)} {ms : List (Key × Value)}, KV more ms → ∀ {kvs : List (Key × V)} {vs : List (Key × Value)}, KV kvs vs → KV (mrgK kvs more) (merged vs ms) := by
  intro more ms r2
  unfold KV at r2
  induction r2 with
  | nil => exact fun r => r
  | @cons p q ps qs h t ih =>
    intro kvs vs r
    obtain ⟨h1, h2⟩ := h
    have z := ih (r.put p.1 h2)
    rw [show merged vs (q :: qs) = merged (stored vs q.1 q.2) qs from rfl, ← h1]
    exact z
theorem mrgK_len : ∀ (more kvs : List (Key × V)), (mrgK kvs more).length ≤ kvs.length + more.length
  | [], kvs => Nat.le_refl _
  | p :: r, kvs => by
    have z := mrgK_len r (putK kvs p.1 p.2)
    have z2 := length_putK kvs p.1 p.2
    rw [List.length_cons]
    show (mrgK (putK kvs p.1 p.2) r).length ≤ _
    omega
def rDUpd : V → List V → Hp → VK → Prop := fun x vs H Q => ∃ (a b : Addr) (kvs more : List (Key × V)), x = .ref a ∧ vs = [.ref b] ∧ a ≠ b ∧ H a = some (.dK kvs) ∧ H b = some (.dK more) ∧ kvs.length + more.length ≤ sizeLine ∧ Q .non (upd H a (.dK (mrgK kvs more)))
theorem mtd_upd {X : Cx} : MtR X "dict.update" rDUpd := by
  intro pins s σ H x vs v us Q I rx rv h
  obtain ⟨a, b, kvs, more, rfl, rfl, hab, ea, eb, hl, q⟩ := h
  obtain rfl : v = Value.ref a := rx
  obtain ⟨u, rfl, ru⟩ := vals1 rv
  obtain rfl : u = Value.ref b := ru
  obtain ⟨z1, hd1, vs1, rel1, dd1⟩ := dk_of I.hok ea
  obtain ⟨z2, hd2, vs2, rel2, dd2⟩ := dk_of I.hok eb
  refine call_meetsIn PySem.F.slot_dict_update dd1.typeIs PySem.F.entry_dict_update (PySem.F.args_dict_update_2 _ _) (meets_dict_update (mixKind X.prog X.w) a b hab hd2) ⟨vs1, vs2, dd1, dd2, by rw [← rel1.length, ← rel2.length]; exact hl, fun h' dd' _ hs => ?_⟩
  have he : ∃ q, h'.get? a = some q := let ⟨q, _, _, hq, _⟩ := dd'; ⟨q, hq⟩
  exact ⟨.non, _, d_write (t' := s.toks) I (by rw [ea]; exact True.intro) hs he (dk_new (Nat.le_trans (mrgK_len _ _) hl) hd1 (KV.mrg rel2 rel1) dd'), rfl, q⟩
def rDClrT : V → List V → Hp → VK → Prop := fun x vs H Q => ∃ (a : Addr) (kvs : List (List Key × V)), x = .ref a ∧ vs = [] ∧ H a = some (.dT kvs) ∧ Q .non (upd H a (.dT []))
theorem mtd_clrT {X : Cx} : MtR X "dict.clear" rDClrT := by
  intro pins s σ H x vs v us Q I rx rv h
  obtain ⟨a, kvs, rfl, rfl, ea, q⟩ := h
  obtain rfl : v = Value.ref a := rx
  have hus := rv.zero
  subst hus
  obtain ⟨z, hd, xs, rel, o, es, ep, ho, hx, hdat, he, hi, hn⟩ := dt_of I.hok ea
  have hes : es.size ≤ sizeLine := by rw [size_of_entries he, ← Paired.length rel]; exact z
  refine call_meetsIn PySem.F.slot_dict_clear ⟨o, ho, hx.1⟩ PySem.F.entry_dict_clear (PySem.F.args_dict_clear_1 _) (meets_dict_clear_raw a) ⟨es, ep, ⟨o, ho, hx, hdat⟩, hes, fun h' dr hs => ?_⟩
  obtain ⟨o', ho', hx', hdat'⟩ := dr
  exact ⟨.non, _, d_write (t' := s.toks) (ob := .dT []) I (by rw [ea]; exact True.intro) hs ⟨o', ho'⟩ ⟨Nat.zero_le _, hd, [], .nil, o', #[], ep + 1, ho', hx', hdat', rfl, List.nodup_nil⟩, rfl, q⟩
end L2
set_option Elab.async false
set_option linter.all false
set_option maxRecDepth 100000
set_option maxHeartbeats 1000000
/-! Objects that a def alone holds, with parts that it alone holds, too: a heap F of its own beside the region. -/
namespace Wd
open PySem PySem.Spec L2
open PyProof.Rows hiding St
def noOw (γ : Gm) : Prop := ∀ (i : Nat) (d : D), γ[i]? ≠ some (.ow d)
def uni (S F : Hp) : Hp := fun a => match F a with | some o => some o | none => S a
theorem uni_F {S F : Hp} {a : Addr} {o : HO} (h : F a = some o) : uni S F a = some o := by unfold uni; rw [h]
theorem uni_S {S F : Hp} {a : Addr} (h : F a = none) : uni S F a = S a := by unfold uni; rw [h]
structure Pv (K : PySem.W.Frag) (γ : Gm) (F H0 S0 S H : Hp) (σ : St) : Prop where
  ok : Ok K H0 S0 S H σ γ
  no : noOw γ
  fh : ∀ a o, F a = some o → H a = some o
  fs : ∀ a o, F a = some o → S a = none
  f0 : ∀ a o, F a = some o → H0 a = none
section
variable {K : PySem.W.Frag} {H0 S0 S H F S' H' : Hp} {σ : St} {γ : Gm} {i j : Nat} {d : D} {v : V} {dl : Addr} {o u : HO}
theorem uni_ex (h : ∀ a o, F a = some o → S a = none) : Ex S (uni S F) := fun a u e => by
  cases q : F a with
  | none => rw [uni_S q]; exact e
  | some z => have z1 := h a z q; rw [z1] at e; cases e
theorem uni_sub (fh : ∀ a o, F a = some o → H a = some o) (s : Sub S H) : Sub (uni S F) H := fun a u e => by
  cases q : F a with
  | none => rw [uni_S q] at e; exact s a u e
  | some z => rw [uni_F q] at e; exact .inl (fh a u (q.trans e))
theorem noOw.set {s : Slot} (h : noOw γ) (hs : ∀ d, s ≠ .ow d) : noOw (γ.set j s) := fun i d e => by
  by_cases q : i = j
  · subst q
    have hl : i < (γ.set i s).length := (List.getElem?_eq_some_iff.mp e).1
    rw [List.length_set] at hl
    rw [List.getElem?_set_self hl] at e
    exact hs d (Option.some.inj e)
  · rw [List.getElem?_set_ne (fun z => q z.symm)] at e
    exact h i d e
theorem wk_un (i : Nat) : Wk γ (γ.set i .un) := ⟨by rw [List.length_set], fun j s e => by
  by_cases q : j = i
  · subst q
    have hl : j < (γ.set j .un).length := (List.getElem?_eq_some_iff.mp e).1
    rw [List.length_set] at hl
    rw [List.getElem?_set_self hl] at e
    exact .inl (Option.some.inj e).symm
  · rw [List.getElem?_set_ne (fun z => q z.symm)] at e
    exact .inr e⟩
theorem Pv.grow (p : Pv K γ F H0 S0 S H σ) (g : Gr S H S' H') (s : Sub S' H') : Pv K γ F H0 S0 S' H' σ :=
  ⟨p.ok.grow g s, p.no, fun a o h => g.hh _ _ (p.fh a o h), fun a o h => g.out (p.fs a o h) (p.fh a o h), p.f0⟩
/-- the private object, seen as known -/
theorem Pv.froz (p : Pv K γ F H0 S0 S H σ) (hi : i < γ.length) (hσ : σ[i]? = some (some v)) (hd : Dat K (uni S F) v d) : Ok K H0 S0 (uni S F) H σ (γ.set i (.sh d)) where
  h0 := p.ok.h0
  s0 := Same.trans p.ok.s0 (uni_ex p.fs)
  sh := uni_sub p.fh p.ok.sh
  nw := fun b o h n => by
    cases q : F b with
    | none => rw [uni_S q] at h; exact p.ok.nw b o h n
    | some z => exact p.f0 b z q
  len := by rw [List.length_set]; exact p.ok.len
  en := fun j s h => by
    by_cases e : j = i
    · subst e
      rw [List.getElem?_set_self hi] at h
      cases h
      exact ⟨v, hσ, hd⟩
    · rw [List.getElem?_set_ne (fun z => e z.symm)] at h
      have q := p.ok.en j s h
      cases s with
      | un => trivial
      | tw _ _ => trivial
      | sh d => obtain ⟨v, a, b⟩ := q; exact ⟨v, a, b.ex (uni_ex p.fs)⟩
      | ow d => exact absurd h (p.no j d)
  ds := fun a b da db l ha => absurd ha ((p.no.set (fun d z => by cases z)) a da)
/-- behind an expression: the region as before -/
theorem Pv.back (p : Pv K γ F H0 S0 S H σ) (e : Ex H H') : Pv K γ F H0 S0 S H' σ :=
  p.grow ⟨Same.refl _, e, fun b o h n => by rw [n] at h; cases h⟩ (p.ok.sh.ex e)
theorem Pv.mut (p : Pv K γ F H0 S0 S H σ) {a : Addr} (ha : F a = some u) (o : HO) : Pv K γ (upd F a o) H0 S0 S (upd H a o) σ where
  ok := p.ok.mut (p.f0 a u ha) (p.fs a u ha) fun i d h => absurd h (p.no i d)
  no := p.no
  fh := fun b z h => by
    by_cases e : b = a
    · subst e; rw [upd_same] at h ⊢; exact h
    · rw [upd_ne e] at h ⊢; exact p.fh b z h
  fs := fun b z h => by
    by_cases e : b = a
    · subst e; exact p.fs b u ha
    · rw [upd_ne e] at h; exact p.fs b z h
  f0 := fun b z h => by
    by_cases e : b = a
    · subst e; exact p.f0 b u ha
    · rw [upd_ne e] at h; exact p.f0 b z h
theorem Pv.add (p : Pv K γ F H0 S0 S H σ) {a : Addr} (h1 : H a = some o) (h2 : S a = none) (h3 : H0 a = none) : Pv K γ (upd F a o) H0 S0 S H σ where
  ok := p.ok
  no := p.no
  fh := fun b z h => by
    by_cases e : b = a
    · subst e; rw [upd_same] at h; cases h; exact h1
    · rw [upd_ne e] at h; exact p.fh b z h
  fs := fun b z h => by
    by_cases e : b = a
    · subst e; exact h2
    · rw [upd_ne e] at h; exact p.fs b z h
  f0 := fun b z h => by
    by_cases e : b = a
    · subst e; exact h3
    · rw [upd_ne e] at h; exact p.f0 b z h
/-- a name is given a known value -/
theorem Pv.sets (p : Pv K γ F H0 S0 S H σ) (hj : j < γ.length) (h : Dat K S v d) : Pv K (γ.set j (.sh d)) F H0 S0 S H (σ.set j (some v)) :=
  ⟨p.ok.sh_ hj h, p.no.set (fun d z => by cases z), p.fh, p.fs, p.f0⟩
theorem Pv.setu (p : Pv K γ F H0 S0 S H σ) (hj : j < γ.length) {ov : Option V} : Pv K (γ.set j .un) F H0 S0 S H (σ.set j ov) :=
  ⟨p.ok.un_ hj, p.no.set (fun d z => by cases z), p.fh, p.fs, p.f0⟩
/-- an own object becomes private -/
theorem Pv.enter (k : Ok K H0 S0 S H σ γ) (hg : γ[i]? = some (.ow d)) (no : noOw (γ.set i .un)) : ∃ l o, σ[i]? = some (some (.ref l)) ∧ H l = some o ∧ OwnAt K S H l d ∧ Pv K (γ.set i .un) (upd (fun _ => none) l o) H0 S0 S H σ := by
  obtain ⟨l, e, h1, h2, h3⟩ := k.en i _ hg
  obtain ⟨o, ho⟩ := h3.there
  refine ⟨l, o, e, ho, h3, ⟨k.wk (wk_un i), no, fun a z h => ?_, fun a z h => ?_, fun a z h => ?_⟩⟩ <;>
  · by_cases q : a = l
    · subst q; rw [upd_same] at h; cases h; assumption
    · rw [upd_ne q] at h; cases h
/-- the private object is own again, its parts known -/
theorem Pv.exit (p : Pv K γ F H0 S0 S H σ) {F' : Hp} (sub : ∀ a o, F' a = some o → F a = some o) (hl : F' dl = none) (hF : F dl = some o) (hi : i < γ.length) (hσ : σ[i]? = some (some (.ref dl))) (ow : OwnAt K (uni S F') H dl d) : Ok K H0 S0 (uni S F') H σ (γ.set i (.ow d)) where
  h0 := p.ok.h0
  s0 := Same.trans p.ok.s0 (uni_ex fun a o h => p.fs a o (sub a o h))
  sh := uni_sub (fun a o h => p.fh a o (sub a o h)) p.ok.sh
  nw := fun b o h n => by
    cases q : F' b with
    | none => rw [uni_S q] at h; exact p.ok.nw b o h n
    | some z => exact p.f0 b z (sub b z q)
  len := by rw [List.length_set]; exact p.ok.len
  en := fun j s h => by
    by_cases e : j = i
    · subst e
      rw [List.getElem?_set_self hi] at h
      cases h
      exact ⟨dl, hσ, by rw [uni_S hl]; exact p.fs dl o hF, p.f0 dl o hF, ow⟩
    · rw [List.getElem?_set_ne (fun z => e z.symm)] at h
      have q := p.ok.en j s h
      cases s with
      | un => trivial
      | tw _ _ => trivial
      | sh d => obtain ⟨v, a, b⟩ := q; exact ⟨v, a, b.ex (uni_ex fun a o h => p.fs a o (sub a o h))⟩
      | ow d => exact absurd h (p.no j d)
  ds := fun a b da db l ha hb _ _ => by
    have one : ∀ (c : Nat) (x : D), (γ.set i (.ow d))[c]? = some (.ow x) → c = i := fun c x hc => by
      by_cases e : c = i
      · exact e
      · rw [List.getElem?_set_ne (fun z => e z.symm)] at hc; exact absurd hc (p.no c x)
    rw [one a da ha, one b db hb]
end
section
variable {ι : Type} {Xs : ι → Cx} {P : Program} {w : World} {K : PySem.W.Frag} {mg : Str → Option Value} {base : Heap} {N : List Str} {k : Nat} {γ : Gm} {d : D} {e a b c : Expr} {pos pos' : Pos} {x : Str} {H0 S0 S H F : Hp} {σ : St} {r : Slot} {i : Nat} {v : V} {tv : Bool}
theorem Pv.eval (p : Pv K γ F H0 S0 S H σ) (he : PED K Xs e γ r) {Q : VK} (q : ∀ v S' H', Pv K γ F H0 S0 S' H' σ → Gr S H S' H' → Sub S' H' → ResOk K S' H H' v r → Q v H') : anyE Xs e σ H Q :=
  he _ _ _ _ σ p.ok _ fun v S' H' g s r => q v S' H' (p.grow g s) g s r
theorem Pv.evalF (p : Pv K γ F H0 S0 S H σ) (hi : i < γ.length) (hσ : σ[i]? = some (some v)) (hd : Dat K (uni S F) v d) (he : PED K Xs e (γ.set i (.sh d)) r) {Q : VK}
    (q : ∀ u S' H', Pv K γ F H0 S0 S H' σ → Gr (uni S F) H S' H' → Sub S' H' → ResOk K S' H H' u r → Q u H') : anyE Xs e σ H Q :=
  he _ _ _ _ σ (p.froz hi hσ hd) _ fun u S' H' g s r => q u S' H' (p.back g.hh) g s r
theorem Pv.testF (p : Pv K γ F H0 S0 S H σ) (hi : i < γ.length) (hσ : σ[i]? = some (some v)) (hd : Dat K (uni S F) v d) (hc : PTD K Xs c (γ.set i (.sh d)) tv) {Q : Bool → Hp → Prop}
    (q : ∀ H', Pv K γ F H0 S0 S H' σ → Q tv H') : anyT Xs c σ H Q :=
  hc _ _ _ _ σ (p.froz hi hσ hd) _ fun S' H' g s => q H' (p.back g.hh)
theorem rs_cons {st : Stmt} {sts : List Stmt} {D : Ends} (h : anyS Xs st { D with nx := anySs Xs sts D } σ H) : anySs Xs (st :: sts) D σ H :=
  ⟨tSeq (anyS Xs st) (anySs Xs sts), fun i => pss_cons (ps_any st i) (pss_any sts i), h⟩
theorem as_set (fx : Fx Xs P w K mg base N k) (i : Nat) {D : Ends} (h : anyE Xs e σ H fun v H1 => D.nx (σ.set i (some v)) H1) (hN : N[i]? = some x := by rfl) (hx : ∀ j, Loc (Xs j).env.scope x := by first | exact fun _ => Or.inl rfl | exact fun _ => Or.inr rfl)
    (hs : ∀ j, swapsWith e (some (.Name x pos')) pos.line (Xs j).env = pure false := by exact fun _ => rfl) (hf : ∀ j, (Xs j).fn x = true ∨ (Xs j).env.scope.names.lookup x = some .local := by first | exact fun _ => Or.inl rfl | exact fun _ => Or.inr rfl) : anyS Xs (.Assign [.Name x pos'] e pos) D σ H :=
  ⟨tAsg (anyE Xs e) (gName i), fun j => ps_set (i := i) (by rw [fx.hN j]; exact fx.nd) (by rw [fx.hN j]; exact hN) (hx j) (pe_any e j) (hs j) (hf j), h⟩
theorem as_ifF {sts sts' : List Stmt} {D : Ends} {R : Hp → Prop} (h : ∀ Q : Bool → Hp → Prop, (∀ H1, R H1 → Q false H1) → anyT Xs c σ H Q) (q : ∀ H1, R H1 → anySs Xs sts' D σ H1) : anyS Xs (.If c sts sts' pos) D σ H :=
  ⟨_, fun i => ps_if (pt_any c i) pss_never (pss_any sts' i), h _ fun H1 r => iteF (q H1 r)⟩
end
end Wd
set_option Elab.async false
set_option linter.all false
set_option maxRecDepth 100000
set_option maxHeartbeats 1000000
/-! x[a] = {..}; x[a].update({..}), x an own dict. -/
namespace Wd
open PySem PySem.Spec L2
open PyProof.Rows hiding St
def mrgG (a b : List (Key × D)) : List (Key × D) := b.foldl (fun a p => putG a p.1 p.2) a
theorem nodup_put {l : List (Key × D)} (nd : (l.map (·.1)).Nodup) (k : Key) (v : D) : ((putG l k v).map (·.1)).Nodup := by
  rw [keys_put]
  split
  · exact nd
  · rename_i h
    rw [List.nodup_append]
    exact ⟨nd, by simp, fun a ha b hb z => h (by rw [← List.mem_singleton.mp hb, ← z]; exact ha)⟩
theorem mrg_of {K : PySem.W.Frag} {S : Hp} : ∀ {more : List (Key × V)} {ms : List (Key × D)} {kvs : List (Key × V)} {ds : List (Key × D)}, more.map (·.1) = ms.map (·.1) → Dats K S (more.map (·.2)) (ms.map (·.2)) → kvs.map (·.1) = ds.map (·.1) → (ds.map (·.1)).Nodup → Dats K S (kvs.map (·.2)) (ds.map (·.2)) →
    (mrgK kvs more).map (·.1) = (mrgG ds ms).map (·.1) ∧ Dats K S ((mrgK kvs more).map (·.2)) ((mrgG ds ms).map (·.2))
  | [], [], _, _, _, _, h, _, t => ⟨h, t⟩
  | [], _ :: _, _, _, e, _, _, _, _ => by simp at e
  | _ :: _, [], _, _, e, _, _, _, _ => by simp at e
  | p :: more, q :: ms, kvs, ds, e, tm, h, nd, t => by
    rw [List.map_cons, List.map_cons] at e
    injection e with e1 e2
    rw [List.map_cons, List.map_cons] at tm
    cases tm with
    | cons t1 t2 =>
      obtain ⟨z1, z2⟩ := putV_of (k := q.1) h nd t t1
      have z := mrg_of e2 t2 z1 (nodup_put nd q.1 q.2) z2
      show (mrgK (putK kvs p.1 p.2) more).map (·.1) = (mrgG (putG ds q.1 q.2) ms).map (·.1) ∧ Dats K S ((mrgK (putK kvs p.1 p.2) more).map (·.2)) ((mrgG (putG ds q.1 q.2) ms).map (·.2))
      rw [e1]
      exact z
section
variable {ι : Type} {Xs : ι → Cx} {P : Program} {w : World} {K : PySem.W.Frag} {mg : Str → Option Value} {base : Heap} {N : List Str} {k : Nat} {γ : Gm} {e a a2 e2 : Expr} {pos np np2 tp tp2 ap cp ep : Pos} {x : Str} {rest : List Stmt} {ot : Out}
/-- a, b, .. = a list -/
theorem tgd_lst {γ' : Gm} {ds : List D} {d : D} {tgs : List Expr} {is : List Nat} (fx : Fx Xs P w K mg base N k) {z : Nat} (hd : IsL d ds) (h : TgsD K Xs tgs γ ds γ' is) (hn : ∀ i, (assignEach tgs (Xs i).env).length = ds.length := by exact fun _ => rfl) (hst : ∀ i, (assignEach tgs (Xs i).env).findIdx? (·.1) = none := by exact fun _ => rfl) : TgD K Xs (.Tuple tgs z np) γ d γ' is := fun H0 S0 S H σ v k hv Q q => by
  obtain ⟨p, xs, rfl, hq, t⟩ := isL_of hd hv k.sh
  obtain ⟨u, hu, q2⟩ := h H0 S0 S H σ xs k t Q q
  refine ⟨gLst K ds.length u, fun i => ?_, p, xs, rfl, hq, t.length, q2⟩
  have y := pg_lst (k := z) (pos := np) (fx.calm i) (hu i) (hn i) (hst i)
  rw [fx.hK i] at y
  exact y
theorem pssd_putUpd (fx : Fx Xs P w K mg base N k) (i : Nat) {kvs kv1 kv2 : List (Key × D)} {key : Key} (hg : γ[i]? = some (.ow (.dk kvs))) (hno : noOw (γ.set i .un))
    (he : PED K Xs e (γ.set i .un) (.ow (.dk kv1))) (ha : PED K Xs a (γ.set i .un) (.sh (keyD key))) (ha2 : PED K Xs a2 (γ.set i .un) (.sh (keyD key))) (he2 : PED K Xs e2 (γ.set i .un) (.ow (.dk kv2)))
    (hl : kvs.length < sizeLine) (nd : (kvs.map (·.1)).Nodup) (nd1 : (kv1.map (·.1)).Nodup) (hl1 : kv1.length + kv2.length ≤ sizeLine)
    (hr : PSsD K Xs rest (γ.set i (.ow (.dk (putG kvs key (.dk (mrgG kv1 kv2)))))) ot)
    (hN : N[i]? = some x := by rfl) (hv : ∀ j, Vis (Xs j).env.scope x := by first | exact fun _ => Or.inl rfl | exact fun _ => Or.inr (Or.inl rfl) | exact fun _ => Or.inr (Or.inr rfl))
    (hd : (x == ("__debug__" : Str)) = false := by decide) (hcd : (x == ("__classdict__" : Str)) = false := by decide)
    (hs : ∀ j, swapsWith e (some (.Subscript (.Name x np) a tp)) pos.line (Xs j).env = pure false := by exact fun _ => rfl)
    (hsx : PlainIx a2 := by exact fun _ _ => rfl)
    (hbase : ∀ j, attributeBase (.Subscript (.Name x np2) a2 tp2) "update" (Xs j).env (eval (.Subscript (.Name x np2) a2 tp2) (Xs j).env) = eval (.Subscript (.Name x np2) a2 tp2) (Xs j).env := by exact fun _ => rfl)
    (hfew : ∀ j, ((backTo cp (starEach [e2] (Xs j).env)).all (fun x => !x.1) && (backToKw cp (keywordEach [] (Xs j).env)).all (fun x => x.1.isSome) && decide (([e2] : List Expr).length + ([] : List Keyword).length + (if ([] : List Keyword).isEmpty then 0 else 1) < 30)) = true := by exact fun _ => rfl)
    (hline : (ap.endLine == cp.line) = true := by rfl) (hss : ∀ j, starEach [e2] (Xs j).env = (false, eval e2 (Xs j).env) :: starEach [] (Xs j).env := by exact fun _ => rfl) (hplain : ∀ j, (backTo cp (starEach [] (Xs j).env)).any (·.1) = false := by exact fun _ => rfl)
    (hsw : ∀ j, swapsWith (.Call (.Attribute (.Subscript (.Name x np2) a2 tp2) "update" ap) [e2] [] cp) none ep.line (Xs j).env = pure false := by exact fun _ => rfl) :
    PSsD K Xs (.Assign [.Subscript (.Name x np) a tp] e pos :: .Expr (.Call (.Attribute (.Subscript (.Name x np2) a2 tp2) "update" ap) [e2] [] cp) ep :: rest) γ ot := by
  intro H0 S0 S H σ D k0 q
  obtain ⟨dl, o, hσ, ho, how, pv⟩ := Pv.enter k0 hg hno
  obtain ⟨kv, hkv, hk, t⟩ := how
  have ho2 := ho
  rw [hkv] at ho2
  cases ho2
  have hi : i < (γ.set i .un).length := by rw [List.length_set]; exact (List.getElem?_eq_some_iff.mp hg).1
  refine rs_cons ⟨sDPut (tVar i) (anyE Xs a) (anyE Xs e), fun j => ps_dput (fx.hu j) (pe_self i fx hN hv hd hcd j) (pe_any a j) (pe_any e j) (hs j), ?_⟩
  refine pv.eval he fun v S1 H1 pv1 g1 s1 ⟨l, ev, n1, n2, kvl, hl', hkl, tl⟩ => ⟨_, hσ, pv1.eval ha fun y S2 H2 pv2 g2 s2 ry => ?_⟩
  subst ev
  have ey := kV_of ry
  subst ey
  have hd2 : H2 dl = some (.dK kv) := pv2.fh dl _ upd_same
  have hlen : kv.length = kvs.length := by simpa using congrArg List.length hk
  have hl2 : H2 l = some (.dK kvl) := g2.hh _ _ hl'
  have ne : l ≠ dl := fun z => by rw [z, ho] at n2; cases n2
  have pv3 := pv2.mut upd_same (.dK (putK kv key (.ref l)))
  have pv4 := pv3.add (a := l) (o := .dK kvl) (by rw [upd_ne ne]; exact hl2) (g2.out n1 hl') (Ex.back pv.ok.h0 n2)
  refine ⟨dl, _, rfl, .k hd2 (by rw [hlen]; exact hl), ?_⟩
  refine rs_cons ⟨tDrop (tBM K "dict" rDUpd (tDGet (tVar i) (anyE Xs a2)) (tCons (anyE Xs e2) tNil)), fun j => ps_expr ?_ (hsw j), ?_⟩
  · have z := pe_bm (X := Xs j) (r := rDUpd) PySem.F.plainAttrs_dict PySem.F.slot_dict_update PySem.F.type_dict_update mtd_upd (pe_dget (pos := tp2) (fx.hu j) (pe_self (pos := np2) i fx hN hv hd hcd j) (pe_any a2 j) hsx) (pa_cons (pe_any e2 j) pa_nil (hss j)) (hbase j) (hfew j) hline (hss j) (hplain j)
    rw [fx.hK j] at z
    exact z
  · refine ⟨_, hσ, pv4.eval ha2 fun y S5 H5 pv5 g5 s5 ry2 => ?_⟩
    have ey2 := kV_of ry2
    subst ey2
    have fd : H5 dl = some (.dK (putK kv key (.ref l))) := pv5.fh dl _ (by rw [upd_ne (fun z => ne z.symm)]; exact upd_same)
    have fl : H5 l = some (.dK kvl) := pv5.fh l _ upd_same
    refine ⟨dl, .ref l, rfl, .inl ⟨_, key, .inl fd, rfl, by rw [valV_put, if_pos rfl]⟩, .inr (.inr (.inl ⟨rfl, .inl ⟨_, fl⟩⟩)), pv5.eval he2 fun u S6 H6 pv6 g6 s6 ⟨l2, eu, m1, m2, kv2', hq2, hk2, t2⟩ => ?_⟩
    subst eu
    have ne2 : l ≠ l2 := fun z => by rw [← z, fl] at m2; cases m2
    have fd6 : H6 dl = some (.dK (putK kv key (.ref l))) := g6.hh _ _ fd
    have fl6 : H6 l = some (.dK kvl) := g6.hh _ _ fl
    have ll1 : kvl.length = kv1.length := by simpa using congrArg List.length hkl
    have ll2 : kv2'.length = kv2.length := by simpa using congrArg List.length hk2
    refine ⟨l, l2, kvl, kv2', rfl, rfl, ne2, fl6, hq2, by rw [ll1, ll2]; exact hl1, ?_⟩
    have pv7 := pv6.mut (a := l) upd_same (.dK (mrgK kvl kv2'))
    have gg : Ex S S6 := Same.trans g1.ss (Same.trans g2.ss (Same.trans g5.ss g6.ss))
    have g16 : Ex S1 S6 := Same.trans g2.ss (Same.trans g5.ss g6.ss)
    have fF : ∀ b z, (upd (fun _ => none) l (.dK (mrgK kvl kv2')) : Hp) b = some z → b = l ∧ z = .dK (mrgK kvl kv2') := fun b z h => by
      by_cases e : b = l
      · subst e; rw [upd_same] at h; exact ⟨rfl, (Option.some.inj h).symm⟩
      · rw [upd_ne e] at h; cases h
    have eF : Ex S6 (uni S6 (upd (fun _ => none) l (.dK (mrgK kvl kv2')))) := uni_ex fun b z h => by
      obtain ⟨rfl, _⟩ := fF b z h
      exact pv6.fs _ _ upd_same
    obtain ⟨m1', m2'⟩ := mrg_of (K := K) (S := uni S6 (upd (fun _ => none) l (.dK (mrgK kvl kv2')))) hk2 (t2.ex eF) hkl nd1 (tl.ex (Same.trans g16 eF))
    have dl' : Dat K (uni S6 (upd (fun _ => none) l (.dK (mrgK kvl kv2')))) (.ref l) (.dk (mrgG kv1 kv2)) := .dk (uni_F upd_same) m1' m2'
    obtain ⟨p1, p2⟩ := putV_of (k := key) hk nd (t.ex (Same.trans gg eF)) dl'
    have kk := pv7.exit (i := i) (dl := dl) (F' := upd (fun _ => none) l (.dK (mrgK kvl kv2'))) (d := .dk (putG kvs key (.dk (mrgG kv1 kv2)))) (fun b z h => by obtain ⟨rfl, rfl⟩ := fF b z h; exact upd_same) (by rw [upd_ne (fun z => ne z.symm)]) (by rw [upd_ne (fun z => ne z.symm), upd_ne (fun z => ne z.symm)]; exact upd_same) hi hσ ⟨_, by rw [upd_ne (fun z => ne z.symm)]; exact fd6, p1, p2⟩
    rw [List.set_set] at kk
    exact hr H0 S0 _ _ σ D kk q
end
end Wd
set_option Elab.async false
set_option linter.all false
set_option maxRecDepth 100000
set_option maxHeartbeats 1000000
/-! A private dict of private lists: built in a walk over a dict; one element's item stored; list(d), d[k] of an own dict. -/
namespace Wd
open PySem PySem.Spec L2
open PyProof.Rows hiding St
section
variable {K : PySem.W.Frag} {H0 S0 S H S1 H1 F : Hp} {σ σ1 : St} {γ γ1 : Gm} {a : Addr} {u : HO} {o : Obj}
theorem Pv.lockd (p : Pv K γ F H0 S0 S H σ) (ha : S a = some u) (hu : IsDc u) : Pv K γ F (upd H0 a (.frz o u)) (upd S0 a u) S (upd H a (.frz o u)) σ where
  ok := p.ok.lockd ha hu
  no := p.no
  fh := fun b z h => by
    rw [upd_ne (fun e => by have q := p.fs b z h; rw [e, ha] at q; cases q)]
    exact p.fh b z h
  fs := p.fs
  f0 := fun b z h => by
    rw [upd_ne (fun e => by have q := p.fs b z h; rw [e, ha] at q; cases q)]
    exact p.f0 b z h
theorem Pv.unlockd {y : HO} (k : Ok K H0 S0 S H σ γ) (ha : S a = some u) (hy : H a = some y) (hu : y = u ∨ ∃ ob, y = .frz ob u ∧ IsDc u) (k1 : Pv K γ1 F (upd H0 a (.frz o u)) (upd S0 a u) S1 H1 σ1) : Pv K γ1 F H0 S0 S1 (upd H1 a y) σ1 := by
  have s1 : S1 a = some u := k1.ok.s0 a u upd_same
  have ne : ∀ b z, F b = some z → b ≠ a := fun b z h e => by have q := k1.fs b z h; rw [e, s1] at q; cases q
  refine ⟨k.unlockd ha hy hu k1.ok, k1.no, fun b z h => ?_, k1.fs, fun b z h => ?_⟩
  · rw [upd_ne (ne b z h)]; exact k1.fh b z h
  · have q := k1.f0 b z h
    rw [upd_ne (ne b z h)] at q
    exact q
end
section
variable {ι : Type} {Xs : ι → Cx} {P : Program} {w : World} {K : PySem.W.Frag} {mg : Str → Option Value} {base : Heap} {N : List Str} {k : Nat} {γ : Gm} {e a b : Expr} {pos p p2 np np2 tp tp2 : Pos} {tg : Expr} {sts : List Stmt} {x : Str} {H0 S0 S H F : Hp} {σ : St} {D : Ends}
/-- a walk over a known dict, a private heap changed at each turn -/
theorem as_forKP (fx : Fx Xs P w K mg base N k) (j : Nat) {ds : List (Key × Wd.D)} {α : Type} (xs : List α) (enc : α → Key) (he : ds.map (·.1) = xs.map enc) (I : Nat → Hp → St → Prop) (pv : Pv K γ F H0 S0 S H σ) (i0 : I 0 F σ)
    (turn : ∀ (i : Nat) (y : α), xs[i]? = some y → ∀ (F H0 S0 S H : Hp) (σ : St) (D : Ends), Pv K γ F H0 S0 S H σ → I i F σ → (∀ F' S' H' σ', Pv K γ F' H0 S0 S' H' σ' → I (i + 1) F' σ' → D.nx σ' H') → anyG Xs tg (kV (enc y)) σ H fun σ2 H2 => anySs Xs sts D σ2 H2)
    (q : ∀ F' S' H' σ', Pv K γ F' H0 S0 S' H' σ' → I xs.length F' σ' → D.nx σ' H')
    (hg : γ[j]? = some (.sh (.dk ds)) := by rfl) (hN : N[j]? = some x := by rfl) (hv : ∀ j, Vis (Xs j).env.scope x := by first | exact fun _ => Or.inl rfl | exact fun _ => Or.inr (Or.inl rfl) | exact fun _ => Or.inr (Or.inr rfl))
    (hdb : (x == ("__debug__" : Str)) = false := by decide) (hcd : (x == ("__classdict__" : Str)) = false := by decide)
    (hp : ∀ i, PassesOwn (model (Xs i).prog (Xs i).w) (Xs i).A (Xs i).env (Xs i).xe := by first | exact fun _ => PassesOwn.never | exact fun _ => passes_of rfl)
    (hs : ∀ i, ∀ y, foldedSetIterable (.Name x p) (Xs i).env y = pure y := by exact fun _ _ => rfl) : anyS Xs (.For tg (.Name x p) sts [] pos) D σ H := by
  have pf : ∀ i, PS (Xs i) (.For tg (.Name x p) sts [] pos) (tFor (anyI Xs tg (.Name x p)) (anyG Xs tg) (anySs Xs sts)) := fun i => ps_for (hp i) (fx.calm i) (pi_any tg _ i) (pg_any tg i) (pss_any sts i) (hs i)
  have run : ∀ (ad : Addr) (kvs : List (Key × V)) (o : Obj) (H0 S0 S H F : Hp) (σ : St) (D : Ends), Pv K γ F H0 S0 S H σ → I 0 F σ → σ[j]? = some (some (.ref ad)) → H0 ad = some (.frz o (.dK kvs)) → kvs.map (·.1) = ds.map (·.1) → (∀ F' S' H' σ', Pv K γ F' H0 S0 S' H' σ' → I xs.length F' σ' → D.nx σ' H') → tFor (anyI Xs tg (.Name x p)) (anyG Xs tg) (anySs Xs sts) D σ H := by
    intro ad kvs o H0 S0 S H F σ D pv i0 hσ hf k1 q
    have hl : kvs.length = xs.length := by have z := congrArg List.length (k1.trans he); simpa using z
    refine ⟨iKeys (tVar j), fun i => pi_keys (pe_var (by rw [fx.hN]; exact hN) (hv i) hdb hcd), _, hσ, ad, o, rfl, .inl ⟨kvs, pv.ok.h0 _ _ hf, ?_⟩⟩
    refine ⟨fun i m σ H => m = xs.length - i ∧ i ≤ xs.length ∧ ∃ F S, Pv K γ F H0 S0 S H σ ∧ I i F σ, ⟨_, rfl, Nat.zero_le _, F, S, pv, i0⟩, ?_⟩
    rintro i m σ H ⟨rfl, hle, F, S, pv, hI⟩
    by_cases hlt : i < xs.length
    · refine .inr ⟨⟨pv.ok.h0 _ _ hf, by omega⟩, fun σ' H' => ∃ F' S', Pv K γ F' H0 S0 S' H' σ' ∧ I (i + 1) F' σ', fun σ' H' ⟨F', S', k2, e2⟩ => ⟨xs.length - (i + 1), by omega, rfl, hlt, F', S', k2, e2⟩, fun v H' ⟨hy1, kx, vx, hkv, hvx⟩ => ?_⟩
      subst hy1 hvx
      have hy : xs[i]? = some xs[i] := by simp [hlt]
      have ek : kx = enc xs[i] := by
        have z : (kvs.map (·.1))[i]? = some kx := by rw [List.getElem?_map, hkv]; rfl
        rw [k1, he, List.getElem?_map, hy] at z
        exact (Option.some.inj z).symm
      subst ek
      exact turn i xs[i] hy F H0 S0 S _ σ _ pv hI fun F' S' H' σ' k2 e2 => ⟨F', S', k2, e2⟩
    · have e : i = xs.length := by omega
      subst e
      exact .inl ⟨⟨pv.ok.h0 _ _ hf, by omega⟩, q F S H σ pv hI⟩
  obtain ⟨v, hv', dv⟩ := pv.ok.en j _ hg
  cases dv with
  | @dk ad kvs _ hu k1 t1 =>
    have hc : IsDc (.dK kvs) := trivial
    rcases pv.ok.sh ad _ hu with h | ⟨ob, h, _⟩
    · refine ⟨_, fun i => ps_lock (pf i), ad, _, h, trivial, fun od => ?_⟩
      refine run ad kvs od _ _ S _ F σ _ (pv.lockd (o := od) hu hc) i0 hv' upd_same k1 fun F' S1 H1 σ1 p1 e1 => ⟨p1.ok.h0 ad _ upd_same, ?_⟩
      exact q F' S1 _ σ1 (Pv.unlockd pv.ok hu h (.inl rfl) p1) e1
    · refine ⟨_, pf, ?_⟩
      have k2 := pv.lockd (o := ob) hu hc
      rw [upd_self h] at k2
      refine run ad kvs ob _ _ S _ F σ _ k2 i0 hv' upd_same k1 fun F' S1 H1 σ1 p1 e1 => ?_
      have z := Pv.unlockd pv.ok hu h (.inr ⟨ob, rfl, hc⟩) p1
      rw [upd_self (p1.ok.h0 ad _ upd_same)] at z
      exact q F' S1 _ σ1 z e1
/-- x[a] = a new list, x a private dict -/
theorem as_putNew (fx : Fx Xs P w K mg base N k) (i : Nat) {ds : List Wd.D} {key : Key} {dl : Addr} {kv : List (Key × V)} (pv : Pv K γ F H0 S0 S H σ) (hσ : σ[i]? = some (some (.ref dl))) (hF : F dl = some (.dK kv)) (he : PED K Xs e γ (.ow (.lst ds))) (ha : PED K Xs a γ (.sh (keyD key))) (hl : kv.length < sizeLine)
    (q : ∀ S' H' l xs, l ≠ dl → F l = none → Dats K S' xs ds → Pv K γ (upd (upd F dl (.dK (putK kv key (.ref l)))) l (.lst xs)) H0 S0 S' H' σ → D.nx σ H')
    (hN : N[i]? = some x := by rfl) (hv : ∀ j, Vis (Xs j).env.scope x := by first | exact fun _ => Or.inl rfl | exact fun _ => Or.inr (Or.inl rfl) | exact fun _ => Or.inr (Or.inr rfl))
    (hd : (x == ("__debug__" : Str)) = false := by decide) (hcd : (x == ("__classdict__" : Str)) = false := by decide)
    (hs : ∀ j, swapsWith e (some (.Subscript (.Name x np) a tp)) pos.line (Xs j).env = pure false := by exact fun _ => rfl) : anyS Xs (.Assign [.Subscript (.Name x np) a tp] e pos) D σ H := by
  refine ⟨sDPut (tVar i) (anyE Xs a) (anyE Xs e), fun j => ps_dput (fx.hu j) (pe_self i fx hN hv hd hcd j) (pe_any a j) (pe_any e j) (hs j), ?_⟩
  refine pv.eval he fun v S1 H1 pv1 g1 s1 ⟨l, ev, n1, n2, xs, hl', tl⟩ => ⟨_, hσ, pv1.eval ha fun y S2 H2 pv2 g2 s2 ry => ?_⟩
  subst ev
  have ey := kV_of ry
  subst ey
  have hd2 : H2 dl = some (.dK kv) := pv2.fh dl _ hF
  have hFl : F l = none := by
    cases z : F l with
    | none => rfl
    | some u => have y := pv.fh l u z; rw [n2] at y; cases y
  have ne : l ≠ dl := fun z => by rw [z, hF] at hFl; cases hFl
  have pv3 := pv2.mut hF (.dK (putK kv key (.ref l)))
  have pv4 := pv3.add (a := l) (o := .lst xs) (by rw [upd_ne ne]; exact g2.hh _ _ hl') (g2.out n1 hl') (Ex.back pv.ok.h0 n2)
  exact ⟨dl, _, rfl, .k hd2 hl, q S2 _ l xs ne hFl (tl.ex g2.ss) pv4⟩
/-- x[a][b] = e, x a private dict of private lists -/
theorem as_putAt (fx : Fx Xs P w K mg base N k) (i : Nat) {d : Wd.D} {key : Key} {dl l : Addr} {kv : List (Key × V)} {xs : List V} {m : Int} {n : Nat} (pv : Pv K γ F H0 S0 S H σ) (hi : i < γ.length) (hσ : σ[i]? = some (some (.ref dl))) (hF : F dl = some (.dK kv)) (hval : valV kv key = some (.ref l)) (hFl : F l = some (.lst xs)) (hD : Dat K (uni S F) (.ref dl) d)
    (he : PED K Xs e (γ.set i (.sh d)) (.sh (.int m))) (ha : PED K Xs a γ (.sh (keyD key))) {mi : Int} (hb : PED K Xs b γ (.sh (.int mi))) (hn : ixN xs.length mi = some n)
    (q : ∀ S' H', Gr S H S' H' ∨ True → Ex S S' → Pv K γ (upd F l (.lst (xs.set n (.int m)))) H0 S0 S' H' σ → D.nx σ H')
    (hN : N[i]? = some x := by rfl) (hv : ∀ j, Vis (Xs j).env.scope x := by first | exact fun _ => Or.inl rfl | exact fun _ => Or.inr (Or.inl rfl) | exact fun _ => Or.inr (Or.inr rfl))
    (hd : (x == ("__debug__" : Str)) = false := by decide) (hcd : (x == ("__classdict__" : Str)) = false := by decide) (hsx : PlainIx a := by exact fun _ _ => rfl)
    (hs : ∀ j, swapsWithSole [.Subscript (.Subscript (.Name x np) a np2) b tp] e pos.line (Xs j).env = pure false := by exact fun _ => rfl) (hw : ∀ j, swappedStores [.Subscript (.Subscript (.Name x np) a np2) b tp] e (Xs j).env = pure none := by exact fun _ => rfl)
    (h1 : ∀ j, (assignEach [.Subscript (.Subscript (.Name x np) a np2) b tp] (Xs j).env).map (·.2) = [assign (.Subscript (.Subscript (.Name x np) a np2) b tp) (Xs j).env] := by exact fun _ => rfl)
    (h2 : ∀ j, ∀ v, assign (.Subscript (.Subscript (.Name x np) a np2) b tp) (Xs j).env v = (do
      let ov ← holding [v] (eval (.Subscript (.Name x np) a np2) (Xs j).env)
      let iv ← holding [v, ov] (eval b (Xs j).env)
      standAt tp
      holding [v, ov, iv] (setItem ov iv v)
      release [v, ov, iv] []) := by exact fun _ _ => rfl) : anyS Xs (.Assign [.Subscript (.Subscript (.Name x np) a np2) b tp] e pos) D σ H := by
  refine ⟨tAsg (anyE Xs e) (gSub (tDGet (tVar i) (anyE Xs a)) (anyE Xs b) rSetL), fun j => ps_asg (pe_any e j) (pg_sub (pe_dget (pos := np2) (fx.hu j) (pe_self (pos := np) i fx hN hv hd hcd j) (pe_any a j) hsx) (pe_any b j) set_list (h2 j)) (hs j) (hw j) (h1 j), ?_⟩
  refine pv.evalF hi hσ hD he fun v S1 H1 pv1 g1 s1 r1 => ⟨_, hσ, pv1.eval ha fun y S2 H2 pv2 g2 s2 ry => ?_⟩
  cases r1
  have ey := kV_of ry
  subst ey
  refine ⟨dl, .ref l, rfl, .inl ⟨kv, key, .inl (pv2.fh dl _ hF), rfl, hval.symm⟩, pv2.eval hb fun z S3 H3 pv3 g3 s3 rz => ?_⟩
  cases rz
  exact ⟨l, xs, mi, n, rfl, rfl, pv3.fh l _ hFl, hn, q S3 _ (.inr trivial) (Same.trans g2.ss g3.ss) (pv3.mut hFl _)⟩
/-- x[0].clear(), x a private tuple whose first item is a private dict with tuples' keys -/
theorem as_clrT (fx : Fx Xs P w K mg base N k) (i : Nat) {l pd : Addr} {y : V} {kvs : List (List Key × V)} {jj : Nat} (pv : Pv K γ F H0 S0 S H σ) (hσ : σ[i]? = some (some (.ref l))) (fl : F l = some (.tup [.ref pd, y])) (fp : F pd = some (.dT kvs)) (q : Pv K γ (upd F pd (.dT [])) H0 S0 S (upd H pd (.dT [])) σ → D.nx σ (upd H pd (.dT [])))
    (hN : N[i]? = some x := by rfl) (hv : ∀ j, Vis (Xs j).env.scope x := by first | exact fun _ => Or.inl rfl | exact fun _ => Or.inr (Or.inl rfl) | exact fun _ => Or.inr (Or.inr rfl))
    (hd : (x == ("__debug__" : Str)) = false := by decide) (hcd : (x == ("__classdict__" : Str)) = false := by decide) (hsx : PlainIx (.Constant (.int 0) jj tp2) := by exact fun _ _ => rfl)
    (hbase : ∀ i, attributeBase (.Subscript (.Name x np) (.Constant (.int 0) jj tp2) np2) "clear" (Xs i).env (eval (.Subscript (.Name x np) (.Constant (.int 0) jj tp2) np2) (Xs i).env) = eval (.Subscript (.Name x np) (.Constant (.int 0) jj tp2) np2) (Xs i).env := by exact fun _ => rfl) (hline : (p.endLine == pos.line) = true := by rfl)
    (hsw : ∀ j, swapsWith (.Call (.Attribute (.Subscript (.Name x np) (.Constant (.int 0) jj tp2) np2) "clear" p) [] [] pos) none tp.line (Xs j).env = pure false := by exact fun _ => rfl) : anyS Xs (.Expr (.Call (.Attribute (.Subscript (.Name x np) (.Constant (.int 0) jj tp2) np2) "clear" p) [] [] pos) tp) D σ H := by
  refine ⟨tDrop (tBM0 K "dict" rDClrT (tOp (rIx K) (tVar i) (tC (.int 0)))), fun j => ps_expr ?_ (hsw j), ?_⟩
  · have z := pe_ix (pos := np2) (ix_seq (X := Xs j)) (pe_self (pos := np) i fx hN hv hd hcd j) (pe_int (i := 0) (pos := tp2) (j := jj)) hsx
    rw [fx.hK j] at z
    have z2 := pe_bm0 (X := Xs j) (r := rDClrT) PySem.F.plainAttrs_dict PySem.F.slot_dict_clear PySem.F.type_dict_clear mtd_clrT z (hbase j) hline
    rw [fx.hK j] at z2
    exact z2
  · refine ⟨_, hσ, .inr (.inl ⟨l, [.ref pd, y], 0, .ref pd, rfl, rfl, .inl (.inl (pv.fh l _ fl)), rfl, .inr (.inr (.inl ⟨rfl, .inr ⟨_, pv.fh pd _ fp⟩⟩)), pd, kvs, rfl, rfl, pv.fh pd _ fp, q (pv.mut fp _)⟩)⟩
/-- x[a], x an own dict -/
theorem pd_subO (fx : Fx Xs P w K mg base N k) (i : Nat) {ds : List (Key × Wd.D)} {key : Key} {d : Wd.D} (hg : γ[i]? = some (.ow (.dk ds))) (ha : PED K Xs a γ (.sh (keyD key))) (h : getK ds key = some d) (hN : N[i]? = some x := by rfl) (hv : ∀ j, Vis (Xs j).env.scope x := by first | exact fun _ => Or.inl rfl | exact fun _ => Or.inr (Or.inl rfl) | exact fun _ => Or.inr (Or.inr rfl))
    (hd : (x == ("__debug__" : Str)) = false := by decide) (hcd : (x == ("__classdict__" : Str)) = false := by decide) (hs : PlainIx a := by exact fun _ _ => rfl) : PED K Xs (.Subscript (.Name x np) a pos) γ (.sh d) := by
  refine .of (t := tDGet (tVar i) (anyE Xs a)) (fun j => pe_dget (fx.hu j) (pe_self i fx hN hv hd hcd j) (pe_any a j) hs) fun H0 S0 S H σ k Q q => ?_
  obtain ⟨l, hσ, h1, h2, kv, hl, hk, t⟩ := k.en i _ hg
  refine ⟨_, hσ, ha H0 S0 S H σ k _ fun y S1 H1 g1 s1 ry => ?_⟩
  have ey := kV_of ry
  subst ey
  obtain ⟨v, hv1, hv2⟩ := getV_of hk t h
  exact ⟨l, v, rfl, .inl ⟨kv, key, .inl (g1.hh _ _ hl), rfl, hv1.symm⟩, q v S1 H1 g1 s1 (hv2.ex g1.ss)⟩
/-- list(x), x an own dict -/
theorem pd_listO (fx : Fx Xs P w K mg base N k) (i : Nat) {ds : List (Key × Wd.D)} {ns : List Str} (hg : γ[i]? = some (.ow (.dk ds))) (hns : ds.map (·.1) = ns.map Sum.inr) (hl : mg "list" = none) (hN : N[i]? = some x := by rfl) (hv : ∀ j, Vis (Xs j).env.scope x := by first | exact fun _ => Or.inl rfl | exact fun _ => Or.inr (Or.inl rfl) | exact fun _ => Or.inr (Or.inr rfl))
    (hd : (x == ("__debug__" : Str)) = false := by decide) (hcd : (x == ("__classdict__" : Str)) = false := by decide) (hg2 : ∀ i, Gl (Xs i) "list" := by exact fun _ => rfl)
    (he : ∀ i, starEach [.Name x p] (Xs i).env = (false, eval (.Name x p) (Xs i).env) :: starEach [] (Xs i).env := by exact fun _ => rfl) (hpl : ∀ i, (backTo pos (starEach [] (Xs i).env)).any (·.1) = false := by exact fun _ => rfl) : PED K Xs (.Call (.Name "list" p2) [.Name x p] [] pos) γ (.ow (.lst (ns.map .str))) := by
  refine .of (t := tCB rListD (tCons (tVar i) tNil)) (fun j => pe_callTy (call_list_dK (X := Xs j) (fx.calm j)) (hg2 j) (by rw [fx.hmg j]; exact hl) (by decide +kernel) (pa_cons (pe_self i fx hN hv hd hcd j) pa_nil (he j)) (by decide) (by decide) (he j) (hpl j)) fun H0 S0 S H σ k Q q => ?_
  obtain ⟨l, hσ, h1, h2, kv, hk, hkk, t⟩ := k.en i _ hg
  refine ⟨_, hσ, l, kv, rfl, hk, fun pp hp => ?_⟩
  have e : kv.map (fun kv => kV kv.1) = ns.map V.str := by
    have z : kv.map (fun kv => kV kv.1) = (kv.map (·.1)).map kV := by rw [List.map_map]; rfl
    rw [z, hkk, hns, List.map_map]
    rfl
  rw [e]
  exact new_lst k.sh hp (by
    have : ∀ ns : List Str, Dats K S (ns.map V.str) (ns.map D.str) := fun ns => by
      induction ns with
      | nil => exact .nil
      | cons _ _ ih => exact .cons .str ih
    exact this ns) q
end
end Wd
set_option Elab.async false
set_option linter.all false
set_option maxRecDepth 100000
set_option maxHeartbeats 4000000
namespace K1
open PySem PySem.Spec L2 Wd
open PyProof.Rows hiding St
abbrev N_is_whole : List Str := ["value"]
theorem sc_is_whole : FnScope N_is_whole ["value"] (defScope s_is_whole) := ⟨rfl, rfl, rfl, by decide +kernel, rfl, by decide +kernel, by decide +kernel⟩
abbrev N_is_number : List Str := ["value", "least", "most"]
theorem sc_is_number : FnScope N_is_number ["value", "least", "most"] (defScope s_is_number) := ⟨rfl, rfl, rfl, by decide +kernel, rfl, by decide +kernel, by decide +kernel⟩
abbrev N_is_name : List Str := ["value", "letter"]
theorem sc_is_name : FnScope N_is_name ["value"] (defScope s_is_name) := ⟨rfl, rfl, rfl, by decide +kernel, rfl, by decide +kernel, by decide +kernel⟩
abbrev N_are_unlike_names : List Str := ["values", "value"]
theorem sc_are_unlike_names : FnScope N_are_unlike_names ["values"] (defScope s_are_unlike_names) := ⟨rfl, rfl, rfl, by decide +kernel, rfl, by decide +kernel, by decide +kernel⟩
abbrev N_check_names : List Str := ["names"]
theorem sc_check_names : FnScope N_check_names ["names"] (defScope s_check_names) := ⟨rfl, rfl, rfl, by decide +kernel, rfl, by decide +kernel, by decide +kernel⟩
abbrev N_check_word : List Str := ["word", "words"]
theorem sc_check_word : FnScope N_check_word ["word", "words"] (defScope s_check_word) := ⟨rfl, rfl, rfl, by decide +kernel, rfl, by decide +kernel, by decide +kernel⟩
abbrev N_check_number : List Str := ["value", "least", "most"]
theorem sc_check_number : FnScope N_check_number ["value", "least", "most"] (defScope s_check_number) := ⟨rfl, rfl, rfl, by decide +kernel, rfl, by decide +kernel, by decide +kernel⟩
abbrev N_comes_out : List Str := ["adds", "places", "parts", "number", "upper", "lower", "name", "part", "many", "over", "under"]
theorem sc_comes_out : FnScope N_comes_out ["adds", "places"] (defScope s_comes_out) := ⟨rfl, rfl, rfl, by decide +kernel, rfl, by decide +kernel, by decide +kernel⟩
abbrev N_Saying_names : List Str := ["self"]
theorem sc_Saying_names : FnScope N_Saying_names ["self"] (defScope s_Saying_names) := ⟨rfl, rfl, rfl, by decide +kernel, rfl, by decide +kernel, by decide +kernel⟩
abbrev N_Saying_adds : List Str := ["self"]
theorem sc_Saying_adds : FnScope N_Saying_adds ["self"] (defScope s_Saying_adds) := ⟨rfl, rfl, rfl, by decide +kernel, rfl, by decide +kernel, by decide +kernel⟩
abbrev N_Saying_keeps : List Str := ["self", "places"]
theorem sc_Saying_keeps : FnScope N_Saying_keeps ["self", "places"] (defScope s_Saying_keeps) := ⟨rfl, rfl, rfl, by decide +kernel, rfl, by decide +kernel, by decide +kernel⟩
abbrev N_At_init : List Str := ["self", "name", "part", "number"]
theorem sc_At_init : FnScope N_At_init ["self", "name", "part", "number"] (defScope s_At_init) := ⟨rfl, rfl, rfl, by decide +kernel, rfl, by decide +kernel, by decide +kernel⟩
abbrev N_At_names : List Str := ["self"]
theorem sc_At_names : FnScope N_At_names ["self"] (defScope s_At_names) := ⟨rfl, rfl, rfl, by decide +kernel, rfl, by decide +kernel, by decide +kernel⟩
abbrev N_At_adds : List Str := ["self"]
theorem sc_At_adds : FnScope N_At_adds ["self"] (defScope s_At_adds) := ⟨rfl, rfl, rfl, by decide +kernel, rfl, by decide +kernel, by decide +kernel⟩
abbrev N_At_keeps : List Str := ["self", "places"]
theorem sc_At_keeps : FnScope N_At_keeps ["self", "places"] (defScope s_At_keeps) := ⟨rfl, rfl, rfl, by decide +kernel, rfl, by decide +kernel, by decide +kernel⟩
abbrev N_Beside_init : List Str := ["self", "name", "side", "other", "by"]
theorem sc_Beside_init : FnScope N_Beside_init ["self", "name", "side", "other", "by"] (defScope s_Beside_init) := ⟨rfl, rfl, rfl, by decide +kernel, rfl, by decide +kernel, by decide +kernel⟩
abbrev N_Beside_names : List Str := ["self"]
theorem sc_Beside_names : FnScope N_Beside_names ["self"] (defScope s_Beside_names) := ⟨rfl, rfl, rfl, by decide +kernel, rfl, by decide +kernel, by decide +kernel⟩
abbrev N_Beside_adds : List Str := ["self", "begin", "reach", "ahead", "behind"]
theorem sc_Beside_adds : FnScope N_Beside_adds ["self"] (defScope s_Beside_adds) := ⟨rfl, rfl, rfl, by decide +kernel, rfl, by decide +kernel, by decide +kernel⟩
abbrev N_Beside_keeps : List Str := ["self", "places"]
theorem sc_Beside_keeps : FnScope N_Beside_keeps ["self", "places"] (defScope s_Beside_keeps) := ⟨rfl, rfl, rfl, by decide +kernel, rfl, by decide +kernel, by decide +kernel⟩
abbrev N_Alike_init : List Str := ["self", "name", "part", "other", "times"]
theorem sc_Alike_init : FnScope N_Alike_init ["self", "name", "part", "other", "times"] (defScope s_Alike_init) := ⟨rfl, rfl, rfl, by decide +kernel, rfl, by decide +kernel, by decide +kernel⟩
abbrev N_Alike_names : List Str := ["self"]
theorem sc_Alike_names : FnScope N_Alike_names ["self"] (defScope s_Alike_names) := ⟨rfl, rfl, rfl, by decide +kernel, rfl, by decide +kernel, by decide +kernel⟩
abbrev N_Alike_adds : List Str := ["self"]
theorem sc_Alike_adds : FnScope N_Alike_adds ["self"] (defScope s_Alike_adds) := ⟨rfl, rfl, rfl, by decide +kernel, rfl, by decide +kernel, by decide +kernel⟩
abbrev N_Alike_keeps : List Str := ["self", "places"]
theorem sc_Alike_keeps : FnScope N_Alike_keeps ["self", "places"] (defScope s_Alike_keeps) := ⟨rfl, rfl, rfl, by decide +kernel, rfl, by decide +kernel, by decide +kernel⟩
abbrev N_Amid_init : List Str := ["self", "name", "way", "one", "other"]
theorem sc_Amid_init : FnScope N_Amid_init ["self", "name", "way", "one", "other"] (defScope s_Amid_init) := ⟨rfl, rfl, rfl, by decide +kernel, rfl, by decide +kernel, by decide +kernel⟩
abbrev N_Amid_names : List Str := ["self"]
theorem sc_Amid_names : FnScope N_Amid_names ["self"] (defScope s_Amid_names) := ⟨rfl, rfl, rfl, by decide +kernel, rfl, by decide +kernel, by decide +kernel⟩
abbrev N_Amid_adds : List Str := ["self", "begin", "reach", "parts", "name"]
theorem sc_Amid_adds : FnScope N_Amid_adds ["self"] (defScope s_Amid_adds) := ⟨rfl, rfl, rfl, by decide +kernel, rfl, by decide +kernel, by decide +kernel⟩
abbrev N_Amid_keeps : List Str := ["self", "places"]
theorem sc_Amid_keeps : FnScope N_Amid_keeps ["self", "places"] (defScope s_Amid_keeps) := ⟨rfl, rfl, rfl, by decide +kernel, rfl, by decide +kernel, by decide +kernel⟩
abbrev N_check_boxes : List Str := ["names"]
theorem sc_check_boxes : FnScope N_check_boxes ["names"] (defScope s_check_boxes) := ⟨rfl, rfl, rfl, by decide +kernel, rfl, by decide +kernel, by decide +kernel⟩
abbrev N_is_saying_of : List Str := ["value", "names", "name"]
theorem sc_is_saying_of : FnScope N_is_saying_of ["value", "names"] (defScope s_is_saying_of) := ⟨rfl, rfl, rfl, by decide +kernel, rfl, by decide +kernel, by decide +kernel⟩
abbrev N_check_sayings : List Str := ["sayings", "names", "saying"]
theorem sc_check_sayings : FnScope N_check_sayings ["sayings", "names"] (defScope s_check_sayings) := ⟨rfl, rfl, rfl, by decide +kernel, rfl, by decide +kernel, by decide +kernel⟩
abbrev N_check_sheet : List Str := ["value"]
theorem sc_check_sheet : FnScope N_check_sheet ["value"] (defScope s_check_sheet) := ⟨rfl, rfl, rfl, by decide +kernel, rfl, by decide +kernel, by decide +kernel⟩
abbrev N_check_place : List Str := ["sheet", "at", "behind"]
theorem sc_check_place : FnScope N_check_place ["sheet", "at", "behind"] (defScope s_check_place) := ⟨rfl, rfl, rfl, by decide +kernel, rfl, by decide +kernel, by decide +kernel⟩
abbrev N_Sheet_init : List Str := ["self", "names", "sayings"]
theorem sc_Sheet_init : FnScope N_Sheet_init ["self", "names", "sayings"] (defScope s_Sheet_init) := ⟨rfl, rfl, rfl, by decide +kernel, rfl, by decide +kernel, by decide +kernel⟩
abbrev N_Sheet_names : List Str := ["self"]
theorem sc_Sheet_names : FnScope N_Sheet_names ["self"] (defScope s_Sheet_names) := ⟨rfl, rfl, rfl, by decide +kernel, rfl, by decide +kernel, by decide +kernel⟩
abbrev N_Sheet_sayings : List Str := ["self"]
theorem sc_Sheet_sayings : FnScope N_Sheet_sayings ["self"] (defScope s_Sheet_sayings) := ⟨rfl, rfl, rfl, by decide +kernel, rfl, by decide +kernel, by decide +kernel⟩
abbrev N_put : List Str := ["sheet", "at", "saying", "sayings"]
theorem sc_put : FnScope N_put ["sheet", "at", "saying"] (defScope s_put) := ⟨rfl, rfl, rfl, by decide +kernel, rfl, by decide +kernel, by decide +kernel⟩
abbrev N_taken : List Str := ["sheet", "at", "sayings"]
theorem sc_taken : FnScope N_taken ["sheet", "at"] (defScope s_taken) := ⟨rfl, rfl, rfl, by decide +kernel, rfl, by decide +kernel, by decide +kernel⟩
abbrev N_l_cell_at : List Str := ["_law_script", "_law_k"]
theorem sc_l_cell_at : FnScope N_l_cell_at ["_law_script", "_law_k"] (defScope s_l_cell_at) := ⟨rfl, rfl, rfl, by decide +kernel, rfl, by decide +kernel, by decide +kernel⟩
abbrev N_l_numbers : List Str := ["_law_cell", "_law_bounds", "_law_left_here", "_law_found", "_law_bound"]
theorem sc_l_numbers : FnScope N_l_numbers ["_law_cell", "_law_bounds"] (defScope s_l_numbers) := ⟨rfl, rfl, rfl, by decide +kernel, rfl, by decide +kernel, by decide +kernel⟩
abbrev N_l_names : List Str := ["_law_cell", "_law_words", "_law_start", "_law_many", "_law_k"]
theorem sc_l_names : FnScope N_l_names ["_law_cell"] (defScope s_l_names) := ⟨rfl, rfl, rfl, by decide +kernel, rfl, by decide +kernel, by decide +kernel⟩
abbrev N_l_parts : List Str := []
theorem sc_l_parts : FnScope N_l_parts [] (defScope s_l_parts) := ⟨rfl, rfl, rfl, by decide +kernel, rfl, by decide +kernel, by decide +kernel⟩
abbrev N_l_saying : List Str := ["_law_cell", "_law_names_here", "_law_hidden", "_law_digits", "_law_one", "_law_others", "_law_name", "_law_kind", "_law_part", "_law_spoil", "_law_first", "_law_rest", "_law_said", "_law_side", "_law_many"]
theorem sc_l_saying : FnScope N_l_saying ["_law_cell", "_law_names_here", "_law_hidden"] (defScope s_l_saying) := ⟨rfl, rfl, rfl, by decide +kernel, rfl, by decide +kernel, by decide +kernel⟩
abbrev N_l_by : List Str := ["_law_side", "_law_left_here"]
theorem sc_l_by : FnScope N_l_by ["_law_side", "_law_left_here"] (defScope s_l_by) := ⟨rfl, rfl, rfl, by decide +kernel, rfl, by decide +kernel, by decide +kernel⟩
abbrev N_l_terms : List Str := ["_law_said", "_law_near_here", "_law_far", "_law_found", "_law_name"]
theorem sc_l_terms : FnScope N_l_terms ["_law_said"] (defScope s_l_terms) := ⟨rfl, rfl, rfl, by decide +kernel, rfl, by decide +kernel, by decide +kernel⟩
abbrev N_l_left : List Str := ["_law_names_here", "_law_said", "_law_hidden", "_law_terms_here", "_law_number", "_law_name", "_law_part", "_law_many"]
theorem sc_l_left : FnScope N_l_left ["_law_names_here", "_law_said", "_law_hidden"] (defScope s_l_left) := ⟨rfl, rfl, rfl, by decide +kernel, rfl, by decide +kernel, by decide +kernel⟩
abbrev N_l_sheet : List Str := ["_law_script", "_law_limit", "_law_names_here", "_law_hidden", "_law_k", "_law_said"]
theorem sc_l_sheet : FnScope N_l_sheet ["_law_script", "_law_limit"] (defScope s_l_sheet) := ⟨rfl, rfl, rfl, by decide +kernel, rfl, by decide +kernel, by decide +kernel⟩
abbrev N_l_made : List Str := ["_law_said"]
theorem sc_l_made : FnScope N_l_made ["_law_said"] (defScope s_l_made) := ⟨rfl, rfl, rfl, by decide +kernel, rfl, by decide +kernel, by decide +kernel⟩
abbrev N_l_sheet_of : List Str := ["_law_names_here", "_law_said", "_law_one"]
theorem sc_l_sheet_of : FnScope N_l_sheet_of ["_law_names_here", "_law_said"] (defScope s_l_sheet_of) := ⟨rfl, rfl, rfl, by decide +kernel, rfl, by decide +kernel, by decide +kernel⟩
abbrev N_l_words_kept : List Str := ["_law_said", "_law_places", "_law_parts_here", "_law_name", "_law_left_here", "_law_top", "_law_wide", "_law_high", "_law_bottom", "_law_one", "_law_other", "_law_by_here", "_law_near_here", "_law_far", "_law_last", "_law_both"]
theorem sc_l_words_kept : FnScope N_l_words_kept ["_law_said", "_law_places"] (defScope s_l_words_kept) := ⟨rfl, rfl, rfl, by decide +kernel, rfl, by decide +kernel, by decide +kernel⟩
abbrev N_l_drawn_share : List Str := ["_law_cell", "_law_bottom", "_law_top", "_law_part", "_law_k"]
theorem sc_l_drawn_share : FnScope N_l_drawn_share ["_law_cell"] (defScope s_l_drawn_share) := ⟨rfl, rfl, rfl, by decide +kernel, rfl, by decide +kernel, by decide +kernel⟩
abbrev N_l_saying_right : List Str := ["_law_said", "_law_places", "_law_saying_here", "_law_due", "_law_terms_here", "_law_number", "_law_parts_here", "_law_name", "_law_part", "_law_many", "_law_told_here", "_law_kept"]
theorem sc_l_saying_right : FnScope N_l_saying_right ["_law_said", "_law_places"] (defScope s_l_saying_right) := ⟨rfl, rfl, rfl, by decide +kernel, rfl, by decide +kernel, by decide +kernel⟩
abbrev N_l_near : List Str := ["_law_places", "_law_said", "_law_terms_here", "_law_number", "_law_name", "_law_part", "_law_many", "_law_found", "_law_other", "_law_one", "_law_over", "_law_which", "_law_count", "_law_at"]
theorem sc_l_near : FnScope N_l_near ["_law_places", "_law_said"] (defScope s_l_near) := ⟨rfl, rfl, rfl, by decide +kernel, rfl, by decide +kernel, by decide +kernel⟩
abbrev N_l_as : List Str := ["_law_sayings", "_law_saying_here"]
theorem sc_l_as : FnScope N_l_as ["_law_sayings"] (defScope s_l_as) := ⟨rfl, rfl, rfl, by decide +kernel, rfl, by decide +kernel, by decide +kernel⟩
abbrev N_l_told : List Str := ["_law_sheet_here"]
theorem sc_l_told : FnScope N_l_told ["_law_sheet_here"] (defScope s_l_told) := ⟨rfl, rfl, rfl, by decide +kernel, rfl, by decide +kernel, by decide +kernel⟩
abbrev N_l_sheets_right : List Str := ["_law_names_here", "_law_said", "_law_cell", "_law_made_here", "_law_one", "_law_handed", "_law_sheet_here", "_law_more", "_law_at", "_law_longer", "_law_due", "_law_k"]
theorem sc_l_sheets_right : FnScope N_l_sheets_right ["_law_names_here", "_law_said", "_law_cell"] (defScope s_l_sheets_right) := ⟨rfl, rfl, rfl, by decide +kernel, rfl, by decide +kernel, by decide +kernel⟩
abbrev N_law : List Str := ["_law_script", "_law_names_here", "_law_said", "_law_places", "_law_k", "_law_at", "_law_one"]
theorem sc_law : FnScope N_law ["_law_script"] (defScope s_law) := ⟨rfl, rfl, rfl, by decide +kernel, rfl, by decide +kernel, by decide +kernel⟩
/-- what the head says of the program -/
structure Env (K : PySem.W.Frag) (mg : Str → Option Value) (w : World) where
  p_ : Unit
  d_is_whole : FuncData
  F_is_whole : FunD K "is_whole" "is_whole" (defArgs s_is_whole) (defBody s_is_whole) (defScope s_is_whole) [] [] (He.ga K "is_whole") d_is_whole
  m_is_whole : mg "is_whole" = some (.ref (He.ga K "is_whole"))
  d_is_number : FuncData
  F_is_number : FunD K "is_number" "is_number" (defArgs s_is_number) (defBody s_is_number) (defScope s_is_number) [] [] (He.ga K "is_number") d_is_number
  m_is_number : mg "is_number" = some (.ref (He.ga K "is_number"))
  d_is_name : FuncData
  F_is_name : FunD K "is_name" "is_name" (defArgs s_is_name) (defBody s_is_name) (defScope s_is_name) [] [] (He.ga K "is_name") d_is_name
  m_is_name : mg "is_name" = some (.ref (He.ga K "is_name"))
  d_are_unlike_names : FuncData
  F_are_unlike_names : FunD K "are_unlike_names" "are_unlike_names" (defArgs s_are_unlike_names) (defBody s_are_unlike_names) (defScope s_are_unlike_names) [] [] (He.ga K "are_unlike_names") d_are_unlike_names
  m_are_unlike_names : mg "are_unlike_names" = some (.ref (He.ga K "are_unlike_names"))
  d_check_names : FuncData
  F_check_names : FunD K "check_names" "check_names" (defArgs s_check_names) (defBody s_check_names) (defScope s_check_names) [] [] (He.ga K "check_names") d_check_names
  m_check_names : mg "check_names" = some (.ref (He.ga K "check_names"))
  d_check_word : FuncData
  F_check_word : FunD K "check_word" "check_word" (defArgs s_check_word) (defBody s_check_word) (defScope s_check_word) [] [] (He.ga K "check_word") d_check_word
  m_check_word : mg "check_word" = some (.ref (He.ga K "check_word"))
  d_check_number : FuncData
  F_check_number : FunD K "check_number" "check_number" (defArgs s_check_number) (defBody s_check_number) (defScope s_check_number) [] [] (He.ga K "check_number") d_check_number
  m_check_number : mg "check_number" = some (.ref (He.ga K "check_number"))
  d_comes_out : FuncData
  F_comes_out : FunD K "comes_out" "comes_out" (defArgs s_comes_out) (defBody s_comes_out) (defScope s_comes_out) [] [] (He.ga K "comes_out") d_comes_out
  m_comes_out : mg "comes_out" = some (.ref (He.ga K "comes_out"))
  d_Saying_names : FuncData
  F_Saying_names : FunD K "names" "Saying.names" (defArgs s_Saying_names) (defBody s_Saying_names) (defScope s_Saying_names) [] [] (He.ma K (He.ga K "Saying") "names") d_Saying_names
  M_Saying_names : Meth K (He.ga K "Saying") "names" (He.ma K (He.ga K "Saying") "names")
  d_Saying_adds : FuncData
  F_Saying_adds : FunD K "adds" "Saying.adds" (defArgs s_Saying_adds) (defBody s_Saying_adds) (defScope s_Saying_adds) [] [] (He.ma K (He.ga K "Saying") "adds") d_Saying_adds
  M_Saying_adds : Meth K (He.ga K "Saying") "adds" (He.ma K (He.ga K "Saying") "adds")
  d_Saying_keeps : FuncData
  F_Saying_keeps : FunD K "keeps" "Saying.keeps" (defArgs s_Saying_keeps) (defBody s_Saying_keeps) (defScope s_Saying_keeps) [] [] (He.ma K (He.ga K "Saying") "keeps") d_Saying_keeps
  M_Saying_keeps : Meth K (He.ga K "Saying") "keeps" (He.ma K (He.ga K "Saying") "keeps")
  d_At_init : FuncData
  F_At_init : FunD K "__init__" "At.__init__" (defArgs s_At_init) (defBody s_At_init) (defScope s_At_init) [] [] (He.ma K (He.ga K "At") "__init__") d_At_init
  M_At_init : Mk K (He.ga K "At") (He.ma K (He.ga K "At") "__init__")
  d_At_names : FuncData
  F_At_names : FunD K "names" "At.names" (defArgs s_At_names) (defBody s_At_names) (defScope s_At_names) [] [] (He.ma K (He.ga K "At") "names") d_At_names
  M_At_names : Meth K (He.ga K "At") "names" (He.ma K (He.ga K "At") "names")
  d_At_adds : FuncData
  F_At_adds : FunD K "adds" "At.adds" (defArgs s_At_adds) (defBody s_At_adds) (defScope s_At_adds) [] [] (He.ma K (He.ga K "At") "adds") d_At_adds
  M_At_adds : Meth K (He.ga K "At") "adds" (He.ma K (He.ga K "At") "adds")
  d_At_keeps : FuncData
  F_At_keeps : FunD K "keeps" "At.keeps" (defArgs s_At_keeps) (defBody s_At_keeps) (defScope s_At_keeps) [] [] (He.ma K (He.ga K "At") "keeps") d_At_keeps
  M_At_keeps : Meth K (He.ga K "At") "keeps" (He.ma K (He.ga K "At") "keeps")
  d_Beside_init : FuncData
  F_Beside_init : FunD K "__init__" "Beside.__init__" (defArgs s_Beside_init) (defBody s_Beside_init) (defScope s_Beside_init) [.int 0] [] (He.ma K (He.ga K "Beside") "__init__") d_Beside_init
  M_Beside_init : Mk K (He.ga K "Beside") (He.ma K (He.ga K "Beside") "__init__")
  d_Beside_names : FuncData
  F_Beside_names : FunD K "names" "Beside.names" (defArgs s_Beside_names) (defBody s_Beside_names) (defScope s_Beside_names) [] [] (He.ma K (He.ga K "Beside") "names") d_Beside_names
  M_Beside_names : Meth K (He.ga K "Beside") "names" (He.ma K (He.ga K "Beside") "names")
  d_Beside_adds : FuncData
  F_Beside_adds : FunD K "adds" "Beside.adds" (defArgs s_Beside_adds) (defBody s_Beside_adds) (defScope s_Beside_adds) [] [] (He.ma K (He.ga K "Beside") "adds") d_Beside_adds
  M_Beside_adds : Meth K (He.ga K "Beside") "adds" (He.ma K (He.ga K "Beside") "adds")
  d_Beside_keeps : FuncData
  F_Beside_keeps : FunD K "keeps" "Beside.keeps" (defArgs s_Beside_keeps) (defBody s_Beside_keeps) (defScope s_Beside_keeps) [] [] (He.ma K (He.ga K "Beside") "keeps") d_Beside_keeps
  M_Beside_keeps : Meth K (He.ga K "Beside") "keeps" (He.ma K (He.ga K "Beside") "keeps")
  d_Alike_init : FuncData
  F_Alike_init : FunD K "__init__" "Alike.__init__" (defArgs s_Alike_init) (defBody s_Alike_init) (defScope s_Alike_init) [.int 1] [] (He.ma K (He.ga K "Alike") "__init__") d_Alike_init
  M_Alike_init : Mk K (He.ga K "Alike") (He.ma K (He.ga K "Alike") "__init__")
  d_Alike_names : FuncData
  F_Alike_names : FunD K "names" "Alike.names" (defArgs s_Alike_names) (defBody s_Alike_names) (defScope s_Alike_names) [] [] (He.ma K (He.ga K "Alike") "names") d_Alike_names
  M_Alike_names : Meth K (He.ga K "Alike") "names" (He.ma K (He.ga K "Alike") "names")
  d_Alike_adds : FuncData
  F_Alike_adds : FunD K "adds" "Alike.adds" (defArgs s_Alike_adds) (defBody s_Alike_adds) (defScope s_Alike_adds) [] [] (He.ma K (He.ga K "Alike") "adds") d_Alike_adds
  M_Alike_adds : Meth K (He.ga K "Alike") "adds" (He.ma K (He.ga K "Alike") "adds")
  d_Alike_keeps : FuncData
  F_Alike_keeps : FunD K "keeps" "Alike.keeps" (defArgs s_Alike_keeps) (defBody s_Alike_keeps) (defScope s_Alike_keeps) [] [] (He.ma K (He.ga K "Alike") "keeps") d_Alike_keeps
  M_Alike_keeps : Meth K (He.ga K "Alike") "keeps" (He.ma K (He.ga K "Alike") "keeps")
  d_Amid_init : FuncData
  F_Amid_init : FunD K "__init__" "Amid.__init__" (defArgs s_Amid_init) (defBody s_Amid_init) (defScope s_Amid_init) [] [] (He.ma K (He.ga K "Amid") "__init__") d_Amid_init
  M_Amid_init : Mk K (He.ga K "Amid") (He.ma K (He.ga K "Amid") "__init__")
  d_Amid_names : FuncData
  F_Amid_names : FunD K "names" "Amid.names" (defArgs s_Amid_names) (defBody s_Amid_names) (defScope s_Amid_names) [] [] (He.ma K (He.ga K "Amid") "names") d_Amid_names
  M_Amid_names : Meth K (He.ga K "Amid") "names" (He.ma K (He.ga K "Amid") "names")
  d_Amid_adds : FuncData
  F_Amid_adds : FunD K "adds" "Amid.adds" (defArgs s_Amid_adds) (defBody s_Amid_adds) (defScope s_Amid_adds) [] [] (He.ma K (He.ga K "Amid") "adds") d_Amid_adds
  M_Amid_adds : Meth K (He.ga K "Amid") "adds" (He.ma K (He.ga K "Amid") "adds")
  d_Amid_keeps : FuncData
  F_Amid_keeps : FunD K "keeps" "Amid.keeps" (defArgs s_Amid_keeps) (defBody s_Amid_keeps) (defScope s_Amid_keeps) [] [] (He.ma K (He.ga K "Amid") "keeps") d_Amid_keeps
  M_Amid_keeps : Meth K (He.ga K "Amid") "keeps" (He.ma K (He.ga K "Amid") "keeps")
  d_check_boxes : FuncData
  F_check_boxes : FunD K "check_boxes" "check_boxes" (defArgs s_check_boxes) (defBody s_check_boxes) (defScope s_check_boxes) [] [] (He.ga K "check_boxes") d_check_boxes
  m_check_boxes : mg "check_boxes" = some (.ref (He.ga K "check_boxes"))
  d_is_saying_of : FuncData
  F_is_saying_of : FunD K "is_saying_of" "is_saying_of" (defArgs s_is_saying_of) (defBody s_is_saying_of) (defScope s_is_saying_of) [] [] (He.ga K "is_saying_of") d_is_saying_of
  m_is_saying_of : mg "is_saying_of" = some (.ref (He.ga K "is_saying_of"))
  d_check_sayings : FuncData
  F_check_sayings : FunD K "check_sayings" "check_sayings" (defArgs s_check_sayings) (defBody s_check_sayings) (defScope s_check_sayings) [] [] (He.ga K "check_sayings") d_check_sayings
  m_check_sayings : mg "check_sayings" = some (.ref (He.ga K "check_sayings"))
  d_check_sheet : FuncData
  F_check_sheet : FunD K "check_sheet" "check_sheet" (defArgs s_check_sheet) (defBody s_check_sheet) (defScope s_check_sheet) [] [] (He.ga K "check_sheet") d_check_sheet
  m_check_sheet : mg "check_sheet" = some (.ref (He.ga K "check_sheet"))
  d_check_place : FuncData
  F_check_place : FunD K "check_place" "check_place" (defArgs s_check_place) (defBody s_check_place) (defScope s_check_place) [] [] (He.ga K "check_place") d_check_place
  m_check_place : mg "check_place" = some (.ref (He.ga K "check_place"))
  d_Sheet_init : FuncData
  F_Sheet_init : FunD K "__init__" "Sheet.__init__" (defArgs s_Sheet_init) (defBody s_Sheet_init) (defScope s_Sheet_init) [] [] (He.ma K (He.ga K "Sheet") "__init__") d_Sheet_init
  M_Sheet_init : Mk K (He.ga K "Sheet") (He.ma K (He.ga K "Sheet") "__init__")
  d_Sheet_names : FuncData
  F_Sheet_names : FunD K "names" "Sheet.names" (defArgs s_Sheet_names) (defBody s_Sheet_names) (defScope s_Sheet_names) [] [] (He.ma K (He.ga K "Sheet") "names") d_Sheet_names
  M_Sheet_names : Meth K (He.ga K "Sheet") "names" (He.ma K (He.ga K "Sheet") "names")
  d_Sheet_sayings : FuncData
  F_Sheet_sayings : FunD K "sayings" "Sheet.sayings" (defArgs s_Sheet_sayings) (defBody s_Sheet_sayings) (defScope s_Sheet_sayings) [] [] (He.ma K (He.ga K "Sheet") "sayings") d_Sheet_sayings
  M_Sheet_sayings : Meth K (He.ga K "Sheet") "sayings" (He.ma K (He.ga K "Sheet") "sayings")
  d_put : FuncData
  F_put : FunD K "put" "put" (defArgs s_put) (defBody s_put) (defScope s_put) [] [] (He.ga K "put") d_put
  m_put : mg "put" = some (.ref (He.ga K "put"))
  d_taken : FuncData
  F_taken : FunD K "taken" "taken" (defArgs s_taken) (defBody s_taken) (defScope s_taken) [] [] (He.ga K "taken") d_taken
  m_taken : mg "taken" = some (.ref (He.ga K "taken"))
  d_l_cell_at : FuncData
  F_l_cell_at : FunD K "_law_cell_at" "_law_cell_at" (defArgs s_l_cell_at) (defBody s_l_cell_at) (defScope s_l_cell_at) [] [] (He.ga K "_law_cell_at") d_l_cell_at
  m_l_cell_at : mg "_law_cell_at" = some (.ref (He.ga K "_law_cell_at"))
  d_l_numbers : FuncData
  F_l_numbers : FunD K "_law_numbers" "_law_numbers" (defArgs s_l_numbers) (defBody s_l_numbers) (defScope s_l_numbers) [] [] (He.ga K "_law_numbers") d_l_numbers
  m_l_numbers : mg "_law_numbers" = some (.ref (He.ga K "_law_numbers"))
  d_l_names : FuncData
  F_l_names : FunD K "_law_names" "_law_names" (defArgs s_l_names) (defBody s_l_names) (defScope s_l_names) [] [] (He.ga K "_law_names") d_l_names
  m_l_names : mg "_law_names" = some (.ref (He.ga K "_law_names"))
  d_l_parts : FuncData
  F_l_parts : FunD K "_law_parts" "_law_parts" (defArgs s_l_parts) (defBody s_l_parts) (defScope s_l_parts) [] [] (He.ga K "_law_parts") d_l_parts
  m_l_parts : mg "_law_parts" = some (.ref (He.ga K "_law_parts"))
  d_l_saying : FuncData
  F_l_saying : FunD K "_law_saying" "_law_saying" (defArgs s_l_saying) (defBody s_l_saying) (defScope s_l_saying) [] [] (He.ga K "_law_saying") d_l_saying
  m_l_saying : mg "_law_saying" = some (.ref (He.ga K "_law_saying"))
  d_l_by : FuncData
  F_l_by : FunD K "_law_by" "_law_by" (defArgs s_l_by) (defBody s_l_by) (defScope s_l_by) [] [] (He.ga K "_law_by") d_l_by
  m_l_by : mg "_law_by" = some (.ref (He.ga K "_law_by"))
  d_l_terms : FuncData
  F_l_terms : FunD K "_law_terms" "_law_terms" (defArgs s_l_terms) (defBody s_l_terms) (defScope s_l_terms) [] [] (He.ga K "_law_terms") d_l_terms
  m_l_terms : mg "_law_terms" = some (.ref (He.ga K "_law_terms"))
  d_l_left : FuncData
  F_l_left : FunD K "_law_left" "_law_left" (defArgs s_l_left) (defBody s_l_left) (defScope s_l_left) [] [] (He.ga K "_law_left") d_l_left
  m_l_left : mg "_law_left" = some (.ref (He.ga K "_law_left"))
  d_l_sheet : FuncData
  F_l_sheet : FunD K "_law_sheet" "_law_sheet" (defArgs s_l_sheet) (defBody s_l_sheet) (defScope s_l_sheet) [] [] (He.ga K "_law_sheet") d_l_sheet
  m_l_sheet : mg "_law_sheet" = some (.ref (He.ga K "_law_sheet"))
  d_l_made : FuncData
  F_l_made : FunD K "_law_made" "_law_made" (defArgs s_l_made) (defBody s_l_made) (defScope s_l_made) [] [] (He.ga K "_law_made") d_l_made
  m_l_made : mg "_law_made" = some (.ref (He.ga K "_law_made"))
  d_l_sheet_of : FuncData
  F_l_sheet_of : FunD K "_law_sheet_of" "_law_sheet_of" (defArgs s_l_sheet_of) (defBody s_l_sheet_of) (defScope s_l_sheet_of) [] [] (He.ga K "_law_sheet_of") d_l_sheet_of
  m_l_sheet_of : mg "_law_sheet_of" = some (.ref (He.ga K "_law_sheet_of"))
  d_l_words_kept : FuncData
  F_l_words_kept : FunD K "_law_words_kept" "_law_words_kept" (defArgs s_l_words_kept) (defBody s_l_words_kept) (defScope s_l_words_kept) [] [] (He.ga K "_law_words_kept") d_l_words_kept
  m_l_words_kept : mg "_law_words_kept" = some (.ref (He.ga K "_law_words_kept"))
  d_l_drawn_share : FuncData
  F_l_drawn_share : FunD K "_law_drawn_share" "_law_drawn_share" (defArgs s_l_drawn_share) (defBody s_l_drawn_share) (defScope s_l_drawn_share) [] [] (He.ga K "_law_drawn_share") d_l_drawn_share
  m_l_drawn_share : mg "_law_drawn_share" = some (.ref (He.ga K "_law_drawn_share"))
  d_l_saying_right : FuncData
  F_l_saying_right : FunD K "_law_saying_right" "_law_saying_right" (defArgs s_l_saying_right) (defBody s_l_saying_right) (defScope s_l_saying_right) [] [] (He.ga K "_law_saying_right") d_l_saying_right
  m_l_saying_right : mg "_law_saying_right" = some (.ref (He.ga K "_law_saying_right"))
  d_l_near : FuncData
  F_l_near : FunD K "_law_near" "_law_near" (defArgs s_l_near) (defBody s_l_near) (defScope s_l_near) [] [] (He.ga K "_law_near") d_l_near
  m_l_near : mg "_law_near" = some (.ref (He.ga K "_law_near"))
  d_l_as : FuncData
  F_l_as : FunD K "_law_as" "_law_as" (defArgs s_l_as) (defBody s_l_as) (defScope s_l_as) [] [] (He.ga K "_law_as") d_l_as
  m_l_as : mg "_law_as" = some (.ref (He.ga K "_law_as"))
  d_l_told : FuncData
  F_l_told : FunD K "_law_told" "_law_told" (defArgs s_l_told) (defBody s_l_told) (defScope s_l_told) [] [] (He.ga K "_law_told") d_l_told
  m_l_told : mg "_law_told" = some (.ref (He.ga K "_law_told"))
  d_l_sheets_right : FuncData
  F_l_sheets_right : FunD K "_law_sheets_right" "_law_sheets_right" (defArgs s_l_sheets_right) (defBody s_l_sheets_right) (defScope s_l_sheets_right) [] [] (He.ga K "_law_sheets_right") d_l_sheets_right
  m_l_sheets_right : mg "_law_sheets_right" = some (.ref (He.ga K "_law_sheets_right"))
  d_law : FuncData
  F_law : FunD K "law" "law" (defArgs s_law) (defBody s_law) (defScope s_law) [] [] (He.ga K "law") d_law
  m_law : mg "law" = some (.ref (He.ga K "law"))
  m_SayError : mg "SayError" = some (.ref (He.ga K "SayError"))
  m_BadSaying : mg "BadSaying" = some (.ref (He.ga K "BadSaying"))
  m_BadSheet : mg "BadSheet" = some (.ref (He.ga K "BadSheet"))
  m_Saying : mg "Saying" = some (.ref (He.ga K "Saying"))
  c_Saying : Cls K (He.ga K "Saying")
  o_Saying : OwnC K (He.ga K "Saying")
  m_At : mg "At" = some (.ref (He.ga K "At"))
  c_At : Cls K (He.ga K "At")
  o_At : OwnC K (He.ga K "At")
  na_At_name : NoAttr K (He.ga K "At") "name"
  na_At_part : NoAttr K (He.ga K "At") "part"
  na_At_number : NoAttr K (He.ga K "At") "number"
  m_Beside : mg "Beside" = some (.ref (He.ga K "Beside"))
  c_Beside : Cls K (He.ga K "Beside")
  o_Beside : OwnC K (He.ga K "Beside")
  na_Beside_name : NoAttr K (He.ga K "Beside") "name"
  na_Beside_side : NoAttr K (He.ga K "Beside") "side"
  na_Beside_other : NoAttr K (He.ga K "Beside") "other"
  na_Beside_by : NoAttr K (He.ga K "Beside") "by"
  m_Alike : mg "Alike" = some (.ref (He.ga K "Alike"))
  c_Alike : Cls K (He.ga K "Alike")
  o_Alike : OwnC K (He.ga K "Alike")
  na_Alike_name : NoAttr K (He.ga K "Alike") "name"
  na_Alike_part : NoAttr K (He.ga K "Alike") "part"
  na_Alike_other : NoAttr K (He.ga K "Alike") "other"
  na_Alike_times : NoAttr K (He.ga K "Alike") "times"
  m_Amid : mg "Amid" = some (.ref (He.ga K "Amid"))
  c_Amid : Cls K (He.ga K "Amid")
  o_Amid : OwnC K (He.ga K "Amid")
  na_Amid_name : NoAttr K (He.ga K "Amid") "name"
  na_Amid_way : NoAttr K (He.ga K "Amid") "way"
  na_Amid_one : NoAttr K (He.ga K "Amid") "one"
  na_Amid_other : NoAttr K (He.ga K "Amid") "other"
  m_Sheet : mg "Sheet" = some (.ref (He.ga K "Sheet"))
  c_Sheet : Cls K (He.ga K "Sheet")
  o_Sheet : OwnC K (He.ga K "Sheet")
  na_Sheet_boxes : NoAttr K (He.ga K "Sheet") "boxes"
  na_Sheet_said : NoAttr K (He.ga K "Sheet") "said"
  kt_Saying_Saying : PySem.W.kitOne K (.ref (He.ga K "Saying")) (.ref (He.ga K "Saying")) = some true
  kt_Saying_At : PySem.W.kitOne K (.ref (He.ga K "Saying")) (.ref (He.ga K "At")) = some false
  kt_Saying_Beside : PySem.W.kitOne K (.ref (He.ga K "Saying")) (.ref (He.ga K "Beside")) = some false
  kt_Saying_Alike : PySem.W.kitOne K (.ref (He.ga K "Saying")) (.ref (He.ga K "Alike")) = some false
  kt_Saying_Amid : PySem.W.kitOne K (.ref (He.ga K "Saying")) (.ref (He.ga K "Amid")) = some false
  kt_Saying_Sheet : PySem.W.kitOne K (.ref (He.ga K "Saying")) (.ref (He.ga K "Sheet")) = some false
  kt_At_Saying : PySem.W.kitOne K (.ref (He.ga K "At")) (.ref (He.ga K "Saying")) = some true
  kt_At_At : PySem.W.kitOne K (.ref (He.ga K "At")) (.ref (He.ga K "At")) = some true
  kt_At_Beside : PySem.W.kitOne K (.ref (He.ga K "At")) (.ref (He.ga K "Beside")) = some false
  kt_At_Alike : PySem.W.kitOne K (.ref (He.ga K "At")) (.ref (He.ga K "Alike")) = some false
  kt_At_Amid : PySem.W.kitOne K (.ref (He.ga K "At")) (.ref (He.ga K "Amid")) = some false
  kt_At_Sheet : PySem.W.kitOne K (.ref (He.ga K "At")) (.ref (He.ga K "Sheet")) = some false
  kt_Beside_Saying : PySem.W.kitOne K (.ref (He.ga K "Beside")) (.ref (He.ga K "Saying")) = some true
  kt_Beside_At : PySem.W.kitOne K (.ref (He.ga K "Beside")) (.ref (He.ga K "At")) = some false
  kt_Beside_Beside : PySem.W.kitOne K (.ref (He.ga K "Beside")) (.ref (He.ga K "Beside")) = some true
  kt_Beside_Alike : PySem.W.kitOne K (.ref (He.ga K "Beside")) (.ref (He.ga K "Alike")) = some false
  kt_Beside_Amid : PySem.W.kitOne K (.ref (He.ga K "Beside")) (.ref (He.ga K "Amid")) = some false
  kt_Beside_Sheet : PySem.W.kitOne K (.ref (He.ga K "Beside")) (.ref (He.ga K "Sheet")) = some false
  kt_Alike_Saying : PySem.W.kitOne K (.ref (He.ga K "Alike")) (.ref (He.ga K "Saying")) = some true
  kt_Alike_At : PySem.W.kitOne K (.ref (He.ga K "Alike")) (.ref (He.ga K "At")) = some false
  kt_Alike_Beside : PySem.W.kitOne K (.ref (He.ga K "Alike")) (.ref (He.ga K "Beside")) = some false
  kt_Alike_Alike : PySem.W.kitOne K (.ref (He.ga K "Alike")) (.ref (He.ga K "Alike")) = some true
  kt_Alike_Amid : PySem.W.kitOne K (.ref (He.ga K "Alike")) (.ref (He.ga K "Amid")) = some false
  kt_Alike_Sheet : PySem.W.kitOne K (.ref (He.ga K "Alike")) (.ref (He.ga K "Sheet")) = some false
  kt_Amid_Saying : PySem.W.kitOne K (.ref (He.ga K "Amid")) (.ref (He.ga K "Saying")) = some true
  kt_Amid_At : PySem.W.kitOne K (.ref (He.ga K "Amid")) (.ref (He.ga K "At")) = some false
  kt_Amid_Beside : PySem.W.kitOne K (.ref (He.ga K "Amid")) (.ref (He.ga K "Beside")) = some false
  kt_Amid_Alike : PySem.W.kitOne K (.ref (He.ga K "Amid")) (.ref (He.ga K "Alike")) = some false
  kt_Amid_Amid : PySem.W.kitOne K (.ref (He.ga K "Amid")) (.ref (He.ga K "Amid")) = some true
  kt_Amid_Sheet : PySem.W.kitOne K (.ref (He.ga K "Amid")) (.ref (He.ga K "Sheet")) = some false
  kt_Sheet_Saying : PySem.W.kitOne K (.ref (He.ga K "Sheet")) (.ref (He.ga K "Saying")) = some false
  kt_Sheet_At : PySem.W.kitOne K (.ref (He.ga K "Sheet")) (.ref (He.ga K "At")) = some false
  kt_Sheet_Beside : PySem.W.kitOne K (.ref (He.ga K "Sheet")) (.ref (He.ga K "Beside")) = some false
  kt_Sheet_Alike : PySem.W.kitOne K (.ref (He.ga K "Sheet")) (.ref (He.ga K "Alike")) = some false
  kt_Sheet_Amid : PySem.W.kitOne K (.ref (He.ga K "Sheet")) (.ref (He.ga K "Amid")) = some false
  kt_Sheet_Sheet : PySem.W.kitOne K (.ref (He.ga K "Sheet")) (.ref (He.ga K "Sheet")) = some true
  i_LETTERS : ∃ t, mg "LETTERS" = some (.str "abcdefghijklmnopqrstuvwxyz" t)
  i_LONGEST_NAME : ∃ t, mg "LONGEST_NAME" = some (.int 8 t)
  m_PARTS : mg "PARTS" = some (.ref (He.ga K "PARTS"))
  t_PARTS : ∃ ob its n, (K.lookup (He.ga K "PARTS") = some ob ∧ ob.cls = .type "tuple" ∧ ob.dict = none ∧ ob.data = .seq its n ∧ its.size ≤ sizeLine) ∧ Vals ((["left", "top", "wide", "high"] : List Str).map V.str) its.toList
  m_SIDES : mg "SIDES" = some (.ref (He.ga K "SIDES"))
  k_SIDES : WKeys K (He.ga K "SIDES") ["right", "left", "below", "above"]
  v_SIDES : ∀ z l, (z, l) ∈ ([("right", ["left", "wide"]), ("left", ["left", "wide"]), ("below", ["top", "high"]), ("above", ["top", "high"])] : List (Str × List Str)) → ∃ q, KDct K w (He.ga K "SIDES") z (.ref q) ∧ ∃ ob its n, (K.lookup q = some ob ∧ ob.cls = .type "tuple" ∧ ob.dict = none ∧ ob.data = .seq its n ∧ its.size ≤ sizeLine) ∧ Vals (l.map V.str) its.toList
  m_WAYS : mg "WAYS" = some (.ref (He.ga K "WAYS"))
  k_WAYS : WKeys K (He.ga K "WAYS") ["across", "down"]
  v_WAYS : ∀ z l, (z, l) ∈ ([("across", ["left", "wide"]), ("down", ["top", "high"])] : List (Str × List Str)) → ∃ q, KDct K w (He.ga K "WAYS") z (.ref q) ∧ ∃ ob its n, (K.lookup q = some ob ∧ ob.cls = .type "tuple" ∧ ob.dict = none ∧ ob.data = .seq its n ∧ its.size ≤ sizeLine) ∧ Vals (l.map V.str) its.toList
  i_FARTHEST : ∃ t, mg "FARTHEST" = some (.int 1000 t)
  i_MOST_TIMES : ∃ t, mg "MOST_TIMES" = some (.int 9 t)
  i_MOST_NAMES : ∃ t, mg "MOST_NAMES" = some (.int 6 t)
  i_MOST_SAYINGS : ∃ t, mg "MOST_SAYINGS" = some (.int 16 t)
  b_all : mg "all" = none
  b_bool : mg "bool" = none
  b_dict : mg "dict" = none
  b_int : mg "int" = none
  b_isinstance : mg "isinstance" = none
  b_len : mg "len" = none
  b_list : mg "list" = none
  b_max : mg "max" = none
  b_range : mg "range" = none
  b_set : mg "set" = none
  b_str : mg "str" = none
  b_sum : mg "sum" = none
  b_tuple : mg "tuple" = none
end K1
set_option Elab.async false
set_option linter.all false
set_option maxRecDepth 100000
set_option maxHeartbeats 4000000
namespace K1
open PySem PySem.Spec L2 Wd
open PyProof.Rows hiding St

/-! ### names and numbers -/
theorem pd_not {ι : Type} {Xs : ι → Cx} {K : PySem.W.Frag} {γ : Gm} {a : Expr} {pos : Pos} {tv : Bool} (h : PED K Xs a γ (.sh (.bl tv))) : PED K Xs (.UnaryOp .Not a pos) γ (.sh (.bl (!tv))) :=
  .of (fun i => pe_not (pe_any a i)) fun H0 S0 S H σ k Q q => h H0 S0 S H σ k _ fun v S' H' g s r => by
    cases r
    exact ⟨tv, rfl, q _ S' H' g s .bl⟩
def PrWhole (ds : List D) (r : Wd.Slot) : Prop := ∃ v : Int, ds = [.int v] ∧ r = .sh (.bl true)
def letters : Str := "abcdefghijklmnopqrstuvwxyz"
def nameOk (x : Str) : Bool := (decide (1 ≤ (x.length : Int)) && decide ((x.length : Int) ≤ 8)) && x.cps.toList.all fun c => decide (c ∈ letters.cps.toList)
def PrNum (ds : List D) (r : Wd.Slot) : Prop := ∃ v a b : Int, ds = [.int v, .int a, .int b] ∧ r = .sh (.bl (decide (a ≤ v) && decide (v ≤ b)))
def PrName (ds : List D) (r : Wd.Slot) : Prop := ∃ x : Str, x.length ≤ 1000 ∧ ds = [.str x] ∧ r = .sh (.bl (nameOk x))
def unlikeOk (xs : List Str) : Bool := xs.all nameOk && decide (unlikes xs = xs.length)
def PrUnlike (ds : List D) (r : Wd.Slot) : Prop := ∃ xs : List Str, (xs.length ≤ 1000 ∧ ∀ x ∈ xs, x.length ≤ 1000) ∧ ds = [.lst (xs.map .str)] ∧ r = .sh (.bl (unlikeOk xs))
def PrNames (ds : List D) (r : Wd.Slot) : Prop := ∃ xs : List Str, (xs.length ≤ 1000 ∧ ∀ x ∈ xs, x.length ≤ 1000) ∧ unlikeOk xs = true ∧ ds = [.lst (xs.map .str)] ∧ r = .sh .non
theorem inV_mem {x : Str} {xs : List Str} (h : x ∈ xs) : inV (.str x) (xs.map V.str) = true := by
  unfold inV
  rw [List.any_map]
  exact List.any_eq_true.mpr ⟨x, h, beq_self_eq_true x⟩
section
variable {P : Program} {w : World} {K : PySem.W.Frag} {mg : Str → Option Value} {base : Heap} (Z : Env K mg w)
include Z
theorem ok_is_whole : FnOk P w K mg base (L2.CX P w) 1 (He.ga K "is_whole") Z.d_is_whole ["value"] (spD K PrWhole) := by
  refine fn_data Z.F_is_whole sc_is_whole (fun ds r ⟨v, e, _⟩ => (by rw [e]; rfl)) fun cdv A outer s H E fx ds r hp => ?_
  obtain ⟨v, rfl, rfl⟩ := hp
  exact ⟨.rt _, pssd_rt (psd_ret (pd_and (tv := true) (tw := true) (pd_isi fx (pad_cons (pd_var fx 0) (pad_cons (pd_ty fx (n := "int") Z.b_int) pad_nil)) Z.b_isinstance (.one (.bt rfl) rfl rfl)) fun _ => pd_one (pd_not (tv := false) (pd_isi fx (pad_cons (pd_var fx 0) (pad_cons (pd_ty fx (n := "bool") Z.b_bool) pad_nil)) Z.b_isinstance (.one (.bt rfl) rfl rfl))))), .rt⟩
theorem bi_is_whole : Binds K Z.d_is_whole ["value"] [] := Z.F_is_whole.bindsN fun _ _ _ _ _ _ us hl => match us, hl with | [_], _ => rfl
theorem ok_is_number : FnOk P w K mg base (L2.CX P w) 2 (He.ga K "is_number") Z.d_is_number ["value", "least", "most"] (spD K PrNum) := by
  refine fn_data Z.F_is_number sc_is_number (fun ds r ⟨v, a, b, e, _⟩ => (by rw [e]; rfl)) fun cdv A outer s H E fx ds r hp => ?_
  obtain ⟨v, a, b, rfl, rfl⟩ := hp
  exact ⟨.rt _, pssd_rt (psd_ret (pd_cast (congrArg (fun b => Wd.Slot.sh (.bl b)) (Bool.true_and _)) (pd_and (tv := true) (tw := decide (a ≤ v) && decide (v ≤ b)) (pd_call fx (ok_is_whole Z) Z.m_is_whole Z.F_is_whole.kp (bi_is_whole Z) .nil (fun _ => .nil) (pad_cons (pd_var fx 0) pad_nil) ⟨v, rfl, rfl⟩) fun _ => pd_one (pd_within (pd_var fx 1) (pd_var fx 0) (pd_var fx 2))))), .rt⟩
theorem ok_is_name : FnOk P w K mg base (L2.CX P w) 1 (He.ga K "is_name") Z.d_is_name ["value"] (spD K PrName) := by
  refine fn_data Z.F_is_name sc_is_name (fun ds r ⟨x, _, e, _⟩ => (by rw [e]; rfl)) fun cdv A outer s H E fx ds r hp => ?_
  obtain ⟨x, hx, rfl, rfl⟩ := hp
  refine ⟨.rt _, ?_, .rt⟩
  obtain ⟨t1, g1⟩ := Z.i_LONGEST_NAME
  obtain ⟨t2, g2⟩ := Z.i_LETTERS
  refine pssd_ifret (PWD.t (pwd_or (tv := false) (ptd_not (tv := true) (ptd_val (pd_isi fx (pad_cons (pd_var fx 0) (pad_cons (pd_ty fx (n := "str") Z.b_str) pad_nil)) Z.b_isinstance (.one (.bt rfl) rfl rfl)))) fun _ => pwd_or1 (ptd_not (ptd_within pd_int (pd_blt fx (fun _ => call_lenU) Z.b_len (pad_cons (pd_var fx 0) pad_nil) (rc_len (.str (by rw [sizeLine_eq]; omega)))) (pd_globI fx g1))))) (fun h => ?_) (fun h => pssd_rt (psd_ret ?_))
  · have e : nameOk x = false := by
      unfold nameOk
      simp only [Bool.false_or, Bool.not_eq_true'] at h
      rw [h]
      rfl
    rw [e]
    exact pssd_rt (psd_ret pd_bl)
  · have e : nameOk x = x.cps.toList.all fun c => decide (c ∈ letters.cps.toList) := by
      unfold nameOk
      simp only [Bool.false_or, Bool.not_eq_false'] at h
      rw [h]
      rfl
    rw [e]
    exact pd_allC fx [("letter", 1)] x.cps.toList (fun c => D.str ⟨#[c]⟩) _ Z.b_all (pid_str (pd_var fx 0)) (by rw [Array.length_toList, sizeLine_eq]; exact Nat.lt_of_le_of_lt hx (by decide)) fun c hc => ⟨_, _, tgd_name fx.bk 1, fun _ h => h, pd_in fx.bk (pd_var fx.bk 1) (pd_globS fx.bk g2) .sign⟩
theorem bi_is_number : Binds K Z.d_is_number ["value", "least", "most"] [] := Z.F_is_number.bindsN fun _ _ _ _ _ _ us hl => match us, hl with | [_, _, _], _ => rfl
theorem bi_is_name : Binds K Z.d_is_name ["value"] [] := Z.F_is_name.bindsN fun _ _ _ _ _ _ us hl => match us, hl with | [_], _ => rfl
theorem bi_are_unlike_names : Binds K Z.d_are_unlike_names ["values"] [] := Z.F_are_unlike_names.bindsN fun _ _ _ _ _ _ us hl => match us, hl with | [_], _ => rfl
theorem bi_check_names : Binds K Z.d_check_names ["names"] [] := Z.F_check_names.bindsN fun _ _ _ _ _ _ us hl => match us, hl with | [_], _ => rfl
theorem bi_check_word : Binds K Z.d_check_word ["word", "words"] [] := Z.F_check_word.bindsN fun _ _ _ _ _ _ us hl => match us, hl with | [_, _], _ => rfl
theorem bi_check_number : Binds K Z.d_check_number ["value", "least", "most"] [] := Z.F_check_number.bindsN fun _ _ _ _ _ _ us hl => match us, hl with | [_, _, _], _ => rfl
theorem ok_are_unlike_names : FnOk P w K mg base (L2.CX P w) 2 (He.ga K "are_unlike_names") Z.d_are_unlike_names ["values"] (spD K PrUnlike) := by
  refine fn_data Z.F_are_unlike_names sc_are_unlike_names (fun ds r ⟨x, _, e, _⟩ => (by rw [e]; rfl)) fun cdv A outer s H E fx ds r hp => ?_
  obtain ⟨xs, ⟨hx, hy⟩, rfl, rfl⟩ := hp
  refine ⟨.rt _, ?_, .rt⟩
  refine pssd_ifret (tv := !(xs.all nameOk)) (ptd_not (ptd_val (pd_allC fx [("value", 1)] xs (fun x => D.str x) nameOk Z.b_all (pid_list fx .lst (pd_var fx 0)) (by rw [sizeLine_eq]; omega) fun x hm => ⟨_, _, tgd_name fx.bk 1, fun _ h => h, pd_call fx.bk (ok_is_name Z) Z.m_is_name Z.F_is_name.kp (bi_is_name Z) .nil (fun _ => .nil) (pad_cons (pd_var fx.bk 1) pad_nil) ⟨x, hy x hm, rfl, rfl⟩⟩))) (fun h => ?_) (fun h => ?_)
  · have e : unlikeOk xs = false := by
      unfold unlikeOk
      rw [show xs.all nameOk = false by simpa using h]
      rfl
    rw [e]
    exact pssd_rt (psd_ret pd_bl)
  · have e : unlikeOk xs = decide (V.int (unlikes xs : Nat) = V.int (xs.map D.str).length) := by
      unfold unlikeOk
      rw [show xs.all nameOk = true by simpa using h, List.length_map, Bool.true_and]
      exact decide_eq_decide.mpr ⟨fun z => by rw [z], fun z => by injection z with z; exact Int.ofNat.inj z⟩
    rw [e]
    exact pssd_rt (psd_ret (pd_eq fx (pd_lenSet fx (pd_var fx 0) .lst Z.b_len Z.b_set (by omega)) (pd_blt fx (fun _ => call_lenU) Z.b_len (pad_cons (pd_var fx 0) pad_nil) (rc_len (.lst .lst))) (.flat rfl rfl rfl)))
theorem ok_check_names : FnOk P w K mg base (L2.CX P w) 3 (He.ga K "check_names") Z.d_check_names ["names"] (spD K PrNames) := by
  refine fn_data Z.F_check_names sc_check_names (fun ds r ⟨x, _, _, e, _⟩ => (by rw [e]; rfl)) fun cdv A outer s H E fx ds r hp => ?_
  obtain ⟨xs, hx, hu, rfl, rfl⟩ := hp
  refine ⟨.nx (γ0 N_check_names [.lst (xs.map .str)]), ?_, .nx⟩
  exact pssd_ifF (ptd_not (tv := true) (ptd_cast hu (ptd_val (pd_call fx (ok_are_unlike_names Z) Z.m_are_unlike_names Z.F_are_unlike_names.kp (bi_are_unlike_names Z) .nil (fun _ => .nil) (pad_cons (pd_var fx 0) pad_nil) ⟨xs, hx, rfl, rfl⟩)))) pssd_nil
/-! words and numbers -/
def PrWord (ds : List D) (r : Wd.Slot) : Prop := ∃ (x : Str) (xs : List Str) (c : D), (IsL c (xs.map .str) ∨ IsT c (xs.map .str)) ∧ x ∈ xs ∧ ds = [.str x, c] ∧ r = .sh .non
theorem ok_check_word : FnOk P w K mg base (L2.CX P w) 1 (He.ga K "check_word") Z.d_check_word ["word", "words"] (spD K PrWord) := by
  refine fn_data Z.F_check_word sc_check_word (fun ds r ⟨x, xs, c, _, _, e, _⟩ => (by rw [e]; rfl)) fun cdv A outer s H E fx ds r hp => ?_
  obtain ⟨x, xs, c, hc, hx, rfl, rfl⟩ := hp
  refine ⟨.nx (γ0 N_check_word [.str x, c]), ?_, .nx⟩
  have i : InD (.str x) c true := by
    rw [← inV_mem hx]
    rcases hc with hc | hc
    · exact .lst hc (by rw [List.map_map, List.map_map]; rfl) rfl
    · exact .tup hc (by rw [List.map_map, List.map_map]; rfl) rfl
  exact pssd_ifF (PWD.t (pwd_or (tv := false) (tw := false) (ptd_not (tv := true) (ptd_val (pd_isi fx (pad_cons (pd_var fx 0) (pad_cons (pd_ty fx (n := "str") Z.b_str) pad_nil)) Z.b_isinstance (.one (.bt rfl) rfl rfl)))) fun _ => pwd_or1 (ptd_ni fx (pd_var fx 0) (pd_var fx 1) i))) pssd_nil
def PrNumb (ds : List D) (r : Wd.Slot) : Prop := ∃ v a b : Int, (a ≤ v ∧ v ≤ b) ∧ ds = [.int v, .int a, .int b] ∧ r = .sh .non
theorem ok_check_number : FnOk P w K mg base (L2.CX P w) 3 (He.ga K "check_number") Z.d_check_number ["value", "least", "most"] (spD K PrNumb) := by
  refine fn_data Z.F_check_number sc_check_number (fun ds r ⟨v, a, b, _, e, _⟩ => (by rw [e]; rfl)) fun cdv A outer s H E fx ds r hp => ?_
  obtain ⟨v, a, b, hv, rfl, rfl⟩ := hp
  refine ⟨.nx (γ0 N_check_number [.int v, .int a, .int b]), ?_, .nx⟩
  exact pssd_ifF (ptd_not (tv := true) (ptd_cast (by rw [decide_eq_true hv.1, decide_eq_true hv.2]; rfl) (ptd_val (pd_call fx (ok_is_number Z) Z.m_is_number Z.F_is_number.kp (bi_is_number Z) .nil (fun _ => .nil) (pad_cons (pd_var fx 0) (pad_cons (pd_var fx 1) (pad_cons (pd_var fx 2) pad_nil))) ⟨v, a, b, rfl, rfl⟩)))) pssd_nil
end
end K1
set_option Elab.async false
set_option linter.all false
set_option maxRecDepth 100000
set_option maxHeartbeats 4000000
namespace K1
open PySem PySem.Spec L2 Wd
open PyProof.Rows hiding St

/-! ### comes_out -/
abbrev Sh : Type := Int × Int
abbrev Tm : Type := Str × Str × Int
abbrev Pls : Type := List (Str × List Sh)
def partL : List Str := ["left", "top", "wide", "high"]
def encSh (s : Sh) : D := .tup [.int s.1, .int s.2]
def encPls (ps : Pls) : D := .dk (ps.map fun p => ((Sum.inr p.1 : Key), D.tup (p.2.map encSh)))
def encTms (ts : List Tm) : D := .dt (ts.map fun t => ([(Sum.inr t.1 : Key), (Sum.inr t.2.1 : Key)], D.int t.2.2))
def partIx (p : Str) : Nat := partL.findIdx (· == p)
/-- the share of a part of a box -/
def shareAt (ps : Pls) (n p : Str) : Option Sh := (getK ps n).bind fun l => l[partIx p]?
def stepOut (ps : Pls) (a : Int × Int) (t : Tm) : Int × Int :=
  match shareAt ps t.1 t.2.1 with
  | some s => (a.1 * s.2 + t.2.2 * s.1 * a.2, a.2 * s.2)
  | none => a
def sumOut (ps : Pls) (ts : List Tm) (n : Int) : Int × Int := ts.foldl (stepOut ps) (-n, 1)
def sm (i : Int) : Prop := -(2 ^ 30) < i ∧ i < 2 ^ 30
def TmOk (ps : Pls) (t : Tm) : Prop := t.2.1 ∈ partL ∧ sm t.2.2 ∧ ∃ s, shareAt ps t.1 t.2.1 = some s ∧ sm s.1 ∧ sm s.2
def PrOut (ds : List D) (r : Wd.Slot) : Prop := ∃ (ps : Pls) (ts : List Tm) (n : Int), ts.length ≤ 1000 ∧ (∀ t ∈ ts, TmOk ps t) ∧ ds = [.tup [encTms ts, .int n], encPls ps] ∧ r = .sh (.bl (decide ((sumOut ps ts n).1 = 0)))
theorem getK_map {κ α β : Type} [DecidableEq κ] {κ' : Type} [DecidableEq κ'] (f : κ → κ') (hf : ∀ a b, f a = f b → a = b) (g : α → β) : ∀ (l : List (κ × α)) (k : κ), getK (l.map fun p => (f p.1, g p.2)) (f k) = (getK l k).map g
  | [], _ => rfl
  | p :: r, k => by
    rw [List.map_cons]
    unfold getK
    by_cases e : p.1 = k
    · rw [if_pos e, if_pos (congrArg f e)]; rfl
    · rw [if_neg e, if_neg (fun z => e (hf _ _ z))]; exact getK_map f hf g r k
theorem inr_inj (a b : Str) (h : (Sum.inr a : Key) = Sum.inr b) : a = b := by injection h
theorem part_first {p : Str} (h : p ∈ partL) : firstAt partL p (partIx p) := by
  unfold partL at h
  simp only [List.mem_cons, List.not_mem_nil, or_false] at h
  rcases h with rfl | rfl | rfl | rfl
  · exact ⟨by decide +kernel, by decide +kernel⟩
  · exact ⟨by decide +kernel, by decide +kernel⟩
  · exact ⟨by decide +kernel, by decide +kernel⟩
  · exact ⟨by decide +kernel, by decide +kernel⟩
theorem sm64 {i : Int} (h : sm i) : -(2 ^ 64) < i ∧ i < 2 ^ 64 := by unfold sm at h; omega
theorem smm {i j : Int} (h : sm i) (g : sm j) : -(2 ^ 64) < i * j ∧ i * j < 2 ^ 64 := by
  unfold sm at h g
  have h1 : (i * j).natAbs < 2 ^ 60 := by
    rw [Int.natAbs_mul]
    have a : i.natAbs < 2 ^ 30 := by omega
    have b : j.natAbs < 2 ^ 30 := by omega
    calc i.natAbs * j.natAbs ≤ i.natAbs * 2 ^ 30 := Nat.mul_le_mul_left _ (Nat.le_of_lt b)
      _ < 2 ^ 30 * 2 ^ 30 := Nat.mul_lt_mul_of_pos_right a (by decide)
      _ = 2 ^ 60 := by decide
  omega
theorem atI_nat {α : Type} {xs : List α} {j : Nat} {x : α} (h : xs[j]? = some x) : atI xs (j : Int) = some x := by
  have hj : j < xs.length := by
    rcases Nat.lt_or_ge j xs.length with z | z
    · exact z
    · rw [List.getElem?_eq_none z] at h; cases h
  unfold atI ixN
  rw [if_pos (by omega), if_pos (by omega)]
  exact h
theorem decV {i j : Int} : decide (V.int i = V.int j) = decide (i = j) := decide_eq_decide.mpr ⟨fun z => by injection z, fun z => by rw [z]⟩
section
variable {P : Program} {w : World} {K : PySem.W.Frag} {mg : Str → Option Value} {base : Heap} (Z : Env K mg w)
include Z
theorem bi_comes_out : Binds K Z.d_comes_out ["adds", "places"] [] := Z.F_comes_out.bindsN fun _ _ _ _ _ _ us hl => match us, hl with | [_, _], _ => rfl
theorem ok_comes_out : FnOk P w K mg base (L2.CX P w) 1 (He.ga K "comes_out") Z.d_comes_out ["adds", "places"] (spD K PrOut) := by
  refine fn_data Z.F_comes_out sc_comes_out (fun ds r ⟨ps, ts, n, _, _, e, _⟩ => (by rw [e]; rfl)) fun cdv A outer s H E fx ds r hp => ?_
  obtain ⟨ps, ts, n, hl, hok, rfl, rfl⟩ := hp
  obtain ⟨ob, its, m, hk, hv⟩ := Z.t_PARTS
  refine ⟨.rt _, ?_, .rt⟩
  refine pssd_cons (psd_asg fx (pd_var fx 0) (tgd_tup fx .tup (tgsd_cons (tgd_name fx 2) (tgsd_cons (tgd_name fx 3) tgsd_nil)))) ?_
  refine pssd_cons (psd_set fx 4 (pd_neg (pd_var fx 3))) ?_
  refine pssd_cons (psd_set fx 5 pd_int) ?_
  refine pssd_cons (psd_forIT fx 2 ts (fun t => Sum.inr t.1) (fun t => Sum.inr t.2.1) (fun t => .int t.2.2) rfl
    (fun i => [.sh (.tup [encTms ts, .int n]), .sh (encPls ps), .sh (encTms ts), .sh (.int n), .sh (.int ((ts.take i).foldl (stepOut ps) (-n, 1)).1), .sh (.int ((ts.take i).foldl (stepOut ps) (-n, 1)).2), .un, .un, .un, .un, .un])
    (.s (.s (.s (.s (.s (.s (.u (.u (.u (.u (.u .n))))))))))) 6 7 8 (fun i t ht => ?_) (fun i => ⟨Nat.le_of_ble_eq_true rfl, Nat.le_of_ble_eq_true rfl, Nat.le_of_ble_eq_true rfl⟩)) ?_
  · obtain ⟨hp, ht3, sh, hsh, h1, h2⟩ := hok t (List.mem_of_getElem? ht)
    obtain ⟨l, hl1, hl2⟩ := Option.bind_eq_some_iff.mp hsh
    have e1 : getK (ps.map fun p => ((Sum.inr p.1 : Key), D.tup (p.2.map encSh))) (Sum.inr t.1) = some (.tup (l.map encSh)) := (getK_map (κ' := Key) Sum.inr inr_inj (fun v : List Sh => D.tup (v.map encSh)) ps t.1).trans (by rw [hl1]; rfl)
    have e2 : atI (l.map encSh) (partIx t.2.1 : Nat) = some (encSh sh) := atI_nat (by rw [List.getElem?_map, hl2]; rfl)
    have et : ts.take (i + 1) = ts.take i ++ [t] := by rw [List.take_add_one, ht]; rfl
    have es : (ts.take (i + 1)).foldl (stepOut ps) (-n, 1) = (((ts.take i).foldl (stepOut ps) (-n, 1)).1 * sh.2 + t.2.2 * sh.1 * ((ts.take i).foldl (stepOut ps) (-n, 1)).2, ((ts.take i).foldl (stepOut ps) (-n, 1)).2 * sh.2) := by
      rw [et, List.foldl_append]
      show stepOut ps _ t = _
      unfold stepOut
      rw [hsh]
    refine ⟨_, .inl (pssd_cons (psd_asg fx (pd_sub fx (pd_sub fx (pd_var fx 1) (pd_var fx 6) (.dks e1)) (pd_indexG fx Z.m_PARTS hk hv (pd_var fx 7) (part_first hp)) (.tup .tup e2)) (tgd_tup fx .tup (tgsd_cons (tgd_name fx 9) (tgsd_cons (tgd_name fx 10) tgsd_nil)))) (pssd_cons (psd_set fx 4 (pd_plus (pd_mul (pd_var fx 4) (pd_var fx 10) (.inr (sm64 h2))) (pd_mul (pd_mul (pd_var fx 8) (pd_var fx 9) (.inl (sm64 ht3))) (pd_var fx 5) (.inl (smm ht3 h1))))) (pssd_one (psd_set fx 5 (pd_mul (pd_var fx 5) (pd_var fx 10) (.inr (sm64 h2))))))), ?_⟩
    rw [es]
    exact .s (.s (.s (.s (.s (.s (.u (.u (.u (.u (.u .n))))))))))
  · exact pssd_rt (psd_ret (pd_cast (r := .sh (.bl (decide (V.int ((ts.take ts.length).foldl (stepOut ps) (-n, 1)).1 = V.int 0)))) (by rw [List.take_length, decV]; rfl) (pd_eq fx (pd_var fx 4) pd_int (.flat rfl rfl rfl))))
end
end K1
set_option Elab.async false
set_option linter.all false
set_option maxRecDepth 100000
set_option maxHeartbeats 4000000
namespace K1
open PySem PySem.Spec L2 Wd
open PyProof.Rows hiding St

/-! ### the class At -/
def atF (n p : Str) (i : Int) : List (Str × D) := [("name", .str n), ("part", .str p), ("number", .int i)]
def AtOk (n p : Str) (i : Int) : Prop := n.length ≤ 1000 ∧ nameOk n = true ∧ p ∈ partL ∧ -1000 ≤ i ∧ i ≤ 1000
def PrAtI (ds : List D) (fs : List (Str × D)) : Prop := ∃ (n p : Str) (i : Int), AtOk n p i ∧ ds = [.str n, .str p, .int i] ∧ fs = atF n p i
def PrAtNames (ds : List D) (r : Wd.Slot) : Prop := ∃ (n p : Str) (i : Int), ds = [.obj "At" (atF n p i)] ∧ r = .ow (.lst [.str n])
def atT (n p : Str) : List Tm := [(n, p, 1)]
def tmK (ts : List Tm) : List (List Key × D) := ts.map fun t => ([(Sum.inr t.1 : Key), (Sum.inr t.2.1 : Key)], D.int t.2.2)
def PrAtAdds (ds : List D) (r : Wd.Slot) : Prop := ∃ (n p : Str) (i : Int), ds = [.obj "At" (atF n p i)] ∧ r = .tw (tmK (atT n p)) (.int i)
def PrAtKeeps (ds : List D) (r : Wd.Slot) : Prop := ∃ (n p : Str) (i : Int) (ps : Pls), (∀ t ∈ atT n p, TmOk ps t) ∧ ds = [.obj "At" (atF n p i), encPls ps] ∧ r = .sh (.bl (decide ((sumOut ps (atT n p) i).1 = 0)))
theorem unlike1 {n : Str} (h : nameOk n = true) : unlikeOk [n] = true := by
  unfold unlikeOk
  rw [List.all_cons, h]
  rfl
section
variable {P : Program} {w : World} {K : PySem.W.Frag} {mg : Str → Option Value} {base : Heap} (Z : Env K mg w)
include Z
theorem dat_PARTS : ∀ S, Dat K S (.ref (He.ga K "PARTS")) (.rot (partL.map .str)) := fun S => by
  obtain ⟨ob, its, m, hk, hv⟩ := Z.t_PARTS
  exact .rot (.inr ⟨ob, its, m, hk.1, hk.2.1, hk.2.2.2.1, hk.2.2.2.2, hv⟩) (.cons .str (.cons .str (.cons .str (.cons .str .nil))))
theorem bi_At_init : Binds K Z.d_At_init ["self", "name", "part", "number"] [] := Z.F_At_init.bindsN fun _ _ _ _ _ _ us hl => match us, hl with | [_, _, _, _], _ => rfl
theorem bi_At_names : Binds K Z.d_At_names ["self"] [] := Z.F_At_names.bindsN fun _ _ _ _ _ _ us hl => match us, hl with | [_], _ => rfl
theorem bi_At_adds : Binds K Z.d_At_adds ["self"] [] := Z.F_At_adds.bindsN fun _ _ _ _ _ _ us hl => match us, hl with | [_], _ => rfl
theorem bi_At_keeps : Binds K Z.d_At_keeps ["self", "places"] [] := Z.F_At_keeps.bindsN fun _ _ _ _ _ _ us hl => match us, hl with | [_, _], _ => rfl
theorem ok_At_init : FnOk P w K mg base (L2.CX P w) 4 (He.ma K (He.ga K "At") "__init__") Z.d_At_init ["self", "name", "part", "number"] (spI K "At" PrAtI) := by
  refine init_data Z.F_At_init sc_At_init (fun ds fs ⟨n, p, i, _, e, _⟩ => (by rw [e]; rfl)) fun cdv A outer s H E fx ds fs hp => ?_
  obtain ⟨n, p, i, ⟨h0, h1, h2, h3, h4⟩, rfl, rfl⟩ := hp
  obtain ⟨t1, g1⟩ := Z.i_FARTHEST
  refine ⟨_, psse_cons (pse_expr (pd_call fx (ok_check_names Z) Z.m_check_names Z.F_check_names.kp (bi_check_names Z) .nil (fun _ => .nil) (pad_cons (PED.share (pd_lst (pad_cons (pd_var fx 1) pad_nil))) pad_nil) ⟨[n], ⟨Nat.le_of_ble_eq_true rfl, fun x hx => (List.mem_singleton.mp hx) ▸ h0⟩, unlike1 h1, rfl, rfl⟩))
    (psse_cons (pse_expr (pd_call fx (ok_check_word Z) Z.m_check_word Z.F_check_word.kp (bi_check_word Z) .nil (fun _ => .nil) (pad_cons (pd_var fx 2) (pad_cons (pd_globR fx Z.m_PARTS (dat_PARTS Z)) pad_nil)) ⟨p, partL, .rot (partL.map .str), .inr .rot, h2, rfl, rfl⟩))
    (psse_cons (pse_expr (pd_call fx (ok_check_number Z) Z.m_check_number Z.F_check_number.kp (bi_check_number Z) .nil (fun _ => .nil) (pad_cons (pd_var fx 3) (pad_cons (pd_neg (pd_globI fx g1)) (pad_cons (pd_globI fx g1) pad_nil))) ⟨i, -1000, 1000, ⟨h3, h4⟩, rfl, rfl⟩))
    (psse_cons (pse_fput fx (he := pd_var fx 1) (hc := Z.c_At) (hn := Z.na_At_name)) (psse_cons (pse_fput fx (he := pd_var fx 2) (hc := Z.c_At) (hn := Z.na_At_part)) (psse_cons (pse_fput fx (he := pd_var fx 3) (hc := Z.c_At) (hn := Z.na_At_number)) psse_nil))))), ?_⟩
  rfl
theorem ok_At_names : FnOk P w K mg base (L2.CX P w) 1 (He.ma K (He.ga K "At") "names") Z.d_At_names ["self"] (spD K PrAtNames) := by
  refine fn_data Z.F_At_names sc_At_names (fun ds r ⟨n, p, i, e, _⟩ => (by rw [e]; rfl)) fun cdv A outer s H E fx ds r hp => ?_
  obtain ⟨n, p, i, rfl, rfl⟩ := hp
  exact ⟨.rt _, pssd_rt (psd_ret (pd_lst (pad_cons (pd_fld fx (pd_var fx 0) Z.c_At Z.na_At_name rfl) pad_nil))), .rt⟩
theorem ok_At_adds : FnOk P w K mg base (L2.CX P w) 1 (He.ma K (He.ga K "At") "adds") Z.d_At_adds ["self"] (spD K PrAtAdds) := by
  refine fn_data Z.F_At_adds sc_At_adds (fun ds r ⟨n, p, i, e, _⟩ => (by rw [e]; rfl)) fun cdv A outer s H E fx ds r hp => ?_
  obtain ⟨n, p, i, rfl, rfl⟩ := hp
  exact ⟨.rt _, pssd_rt (psd_ret (pd_tupTw (pd_dispT fx (tmK (atT n p)) (ppd_cons (pd_tup (pad_cons (pd_fld fx (pd_var fx 0) Z.c_At Z.na_At_name rfl) (pad_cons (pd_fld fx (pd_var fx 0) Z.c_At Z.na_At_part rfl) pad_nil))) pd_int ppd_nil) (by simp [tmK, atT]) (Nat.le_of_ble_eq_true rfl)) (pd_fld fx (pd_var fx 0) Z.c_At Z.na_At_number rfl))), .rt⟩
theorem ok_At_keeps : FnOk P w K mg base (L2.CX P w) 2 (He.ma K (He.ga K "At") "keeps") Z.d_At_keeps ["self", "places"] (spD K PrAtKeeps) := by
  refine fn_data Z.F_At_keeps sc_At_keeps (fun ds r ⟨n, p, i, ps, _, e, _⟩ => (by rw [e]; rfl)) fun cdv A outer s H E fx ds r hp => ?_
  obtain ⟨n, p, i, ps, hok, rfl, rfl⟩ := hp
  exact ⟨.rt _, pssd_rt (psd_ret (pd_call fx (ok_comes_out Z) Z.m_comes_out Z.F_comes_out.kp (bi_comes_out Z) .nil (fun _ => .nil) (pad_cons (PED.shareT (pd_meth0 fx (pd_var fx 0) Z.c_At Z.M_At_adds (ok_At_adds Z) (bi_At_adds Z) .nil (fun _ => .nil) rfl ⟨n, p, i, rfl, rfl⟩)) (pad_cons (pd_var fx 1) pad_nil)) ⟨ps, atT n p, i, by show 1 ≤ 1000; decide, hok, rfl, rfl⟩)), .rt⟩
end
end K1
set_option Elab.async false
set_option linter.all false
set_option maxRecDepth 100000
set_option maxHeartbeats 4000000
namespace K1
open PySem PySem.Spec L2 Wd
open PyProof.Rows hiding St

/-! ### the class Beside -/
def sideL : List Str := ["right", "left", "below", "above"]
def sidesT : List (Str × List Str) := [("right", ["left", "wide"]), ("left", ["left", "wide"]), ("below", ["top", "high"]), ("above", ["top", "high"])]
def near (s : Str) : Str := if s = "right" ∨ s = "left" then "left" else "top"
def far (s : Str) : Str := if s = "right" ∨ s = "left" then "wide" else "high"
def fwd (s : Str) : Bool := inV (.str s) [.str "right", .str "below"]
def besF (n s o : Str) (b : Int) : List (Str × D) := [("name", .str n), ("side", .str s), ("other", .str o), ("by", .int b)]
def besT (n s o : Str) : List Tm := if fwd s = true then [(n, near s, 1), (o, near s, -1), (o, far s, -1)] else [(n, near s, 1), (n, far s, 1), (o, near s, -1)]
def besN (s : Str) (b : Int) : Int := if fwd s = true then b else -b
def BesOk (n s o : Str) (b : Int) : Prop := (n.length ≤ 1000 ∧ o.length ≤ 1000) ∧ unlikeOk [n, o] = true ∧ s ∈ sideL ∧ -1000 ≤ b ∧ b ≤ 1000
def PrBesI (ds : List D) (fs : List (Str × D)) : Prop := ∃ (n s o : Str) (b : Int), BesOk n s o b ∧ ds = [.str n, .str s, .str o, .int b] ∧ fs = besF n s o b
def PrBesNames (ds : List D) (r : Wd.Slot) : Prop := ∃ (n s o : Str) (b : Int), ds = [.obj "Beside" (besF n s o b)] ∧ r = .ow (.lst [.str n, .str o])
def PrBesAdds (ds : List D) (r : Wd.Slot) : Prop := ∃ (n s o : Str) (b : Int), s ∈ sideL ∧ n ≠ o ∧ ds = [.obj "Beside" (besF n s o b)] ∧ r = .tw (tmK (besT n s o)) (.int (besN s b))
def PrBesKeeps (ds : List D) (r : Wd.Slot) : Prop := ∃ (n s o : Str) (b : Int) (ps : Pls), s ∈ sideL ∧ n ≠ o ∧ (∀ t ∈ besT n s o, TmOk ps t) ∧ ds = [.obj "Beside" (besF n s o b), encPls ps] ∧ r = .sh (.bl (decide ((sumOut ps (besT n s o) (besN s b)).1 = 0)))
theorem side_t {s : Str} (h : s ∈ sideL) : (s, [near s, far s]) ∈ sidesT := by
  unfold sideL at h
  simp only [List.mem_cons, List.not_mem_nil, or_false] at h
  rcases h with rfl | rfl | rfl | rfl <;> decide +kernel
theorem near_far {s : Str} (h : s ∈ sideL) : near s ≠ far s := by
  unfold sideL at h
  simp only [List.mem_cons, List.not_mem_nil, or_false] at h
  rcases h with rfl | rfl | rfl | rfl <;> decide +kernel
theorem key2 {a b c d : Str} : ([(Sum.inr a : Key), (Sum.inr b : Key)] = [Sum.inr c, Sum.inr d]) ↔ a = c ∧ b = d := by
  constructor
  · intro h
    injection h with h1 h2
    injection h2 with h2 _
    injection h1 with h1
    injection h2 with h2
    exact ⟨h1, h2⟩
  · rintro ⟨rfl, rfl⟩; rfl
section
variable {P : Program} {w : World} {K : PySem.W.Frag} {mg : Str → Option Value} {base : Heap} (Z : Env K mg w)
include Z
theorem bi_Beside_names : Binds K Z.d_Beside_names ["self"] [] := Z.F_Beside_names.bindsN fun _ _ _ _ _ _ us hl => match us, hl with | [_], _ => rfl
theorem bi_Beside_adds : Binds K Z.d_Beside_adds ["self"] [] := Z.F_Beside_adds.bindsN fun _ _ _ _ _ _ us hl => match us, hl with | [_], _ => rfl
theorem bi_Beside_keeps : Binds K Z.d_Beside_keeps ["self", "places"] [] := Z.F_Beside_keeps.bindsN fun _ _ _ _ _ _ us hl => match us, hl with | [_, _], _ => rfl
theorem ok_Beside_init : FnOk P w K mg base (L2.CX P w) 4 (He.ma K (He.ga K "Beside") "__init__") Z.d_Beside_init ["self", "name", "side", "other", "by"] (spI K "Beside" PrBesI) := by
  refine init_data Z.F_Beside_init sc_Beside_init (fun ds fs ⟨n, s, o, b, _, e, _⟩ => (by rw [e]; rfl)) fun cdv A outer s H E fx ds fs hp => ?_
  obtain ⟨n, s, o, b, ⟨⟨l1, l2⟩, h1, h2, h3, h4⟩, rfl, rfl⟩ := hp
  obtain ⟨t1, g1⟩ := Z.i_FARTHEST
  refine ⟨_, psse_cons (pse_expr (pd_call fx (ok_check_names Z) Z.m_check_names Z.F_check_names.kp (bi_check_names Z) .nil (fun _ => .nil) (pad_cons (PED.share (pd_lst (pad_cons (pd_var fx 1) (pad_cons (pd_var fx 3) pad_nil)))) pad_nil) ⟨[n, o], ⟨Nat.le_of_ble_eq_true rfl, fun x hx => ?_⟩, h1, rfl, rfl⟩))
    (psse_cons (pse_expr (pd_call fx (ok_check_word Z) Z.m_check_word Z.F_check_word.kp (bi_check_word Z) .nil (fun _ => .nil) (pad_cons (pd_var fx 2) (pad_cons (PED.share (pd_listW fx Z.b_list Z.m_SIDES Z.k_SIDES (by decide))) pad_nil)) ⟨s, sideL, .lst (sideL.map .str), .inl .lst, h2, rfl, rfl⟩))
    (psse_cons (pse_expr (pd_call fx (ok_check_number Z) Z.m_check_number Z.F_check_number.kp (bi_check_number Z) .nil (fun _ => .nil) (pad_cons (pd_var fx 4) (pad_cons (pd_neg (pd_globI fx g1)) (pad_cons (pd_globI fx g1) pad_nil))) ⟨b, -1000, 1000, ⟨h3, h4⟩, rfl, rfl⟩))
    (psse_cons (pse_fput fx (he := pd_var fx 1) (hc := Z.c_Beside) (hn := Z.na_Beside_name)) (psse_cons (pse_fput fx (he := pd_var fx 2) (hc := Z.c_Beside) (hn := Z.na_Beside_side)) (psse_cons (pse_fput fx (he := pd_var fx 3) (hc := Z.c_Beside) (hn := Z.na_Beside_other)) (psse_cons (pse_fput fx (he := pd_var fx 4) (hc := Z.c_Beside) (hn := Z.na_Beside_by)) psse_nil)))))), ?_⟩
  · rcases List.mem_cons.mp hx with rfl | hx
    · exact l1
    · exact (List.mem_singleton.mp hx) ▸ l2
  · rfl
theorem ok_Beside_names : FnOk P w K mg base (L2.CX P w) 1 (He.ma K (He.ga K "Beside") "names") Z.d_Beside_names ["self"] (spD K PrBesNames) := by
  refine fn_data Z.F_Beside_names sc_Beside_names (fun ds r ⟨n, s, o, b, e, _⟩ => (by rw [e]; rfl)) fun cdv A outer s H E fx ds r hp => ?_
  obtain ⟨n, s, o, b, rfl, rfl⟩ := hp
  exact ⟨.rt _, pssd_rt (psd_ret (pd_lst (pad_cons (pd_fld fx (pd_var fx 0) Z.c_Beside Z.na_Beside_name rfl) (pad_cons (pd_fld fx (pd_var fx 0) Z.c_Beside Z.na_Beside_other rfl) pad_nil)))), .rt⟩
theorem ok_Beside_adds : FnOk P w K mg base (L2.CX P w) 1 (He.ma K (He.ga K "Beside") "adds") Z.d_Beside_adds ["self"] (spD K PrBesAdds) := by
  refine fn_data Z.F_Beside_adds sc_Beside_adds (fun ds r ⟨n, s, o, b, _, _, e, _⟩ => (by rw [e]; rfl)) fun cdv A outer s H E fx ds r hp => ?_
  obtain ⟨n, s, o, b, hs, hno, rfl, rfl⟩ := hp
  obtain ⟨q, kd, ob, its, m, hk, hv⟩ := Z.v_SIDES s [near s, far s] (side_t hs)
  have dq : ∀ S, Dat K S (.ref q) (.rot [.str (near s), .str (far s)]) := fun S => .rot (.inr ⟨ob, its, m, hk.1, hk.2.1, hk.2.2.2.1, hk.2.2.2.2, hv⟩) (.cons .str (.cons .str .nil))
  have nf := near_far hs
  refine ⟨.rt _, ?_, .rt⟩
  refine pssd_cons (psd_asg fx (pd_subW fx Z.m_SIDES (pd_fld fx (pd_var fx 0) Z.c_Beside Z.na_Beside_side rfl) kd dq) (tgd_tup fx .rot (tgsd_cons (tgd_name fx 1) (tgsd_cons (tgd_name fx 2) tgsd_nil)))) ?_
  refine pssd_cons (psd_set fx 3 (pd_tup (pad_cons (pd_fld fx (pd_var fx 0) Z.c_Beside Z.na_Beside_name rfl) (pad_cons (pd_var fx 1) pad_nil)))) ?_
  refine pssd_cons (psd_set fx 4 (pd_tup (pad_cons (pd_fld fx (pd_var fx 0) Z.c_Beside Z.na_Beside_other rfl) (pad_cons (pd_var fx 1) pad_nil)))) ?_
  refine pssd_ifret (tv := fwd s) (ptd_in fx (pd_fld fx (pd_var fx 0) Z.c_Beside Z.na_Beside_side rfl) (pd_tup (pad_cons pd_str (pad_cons pd_str pad_nil))) (.tup .tup rfl rfl)) (fun h => ?_) (fun h => ?_)
  · have e : (Wd.Slot.tw (tmK (besT n s o)) (.int (besN s b))) = .tw (tmK [(n, near s, 1), (o, near s, -1), (o, far s, -1)]) (.int b) := by unfold besT besN; rw [if_pos h, if_pos h]
    rw [e]
    exact pssd_rt (psd_ret (pd_tupTw (pd_dispT fx (tmK [(n, near s, 1), (o, near s, -1), (o, far s, -1)]) (ppd_cons (pd_var fx 3) pd_int (ppd_cons (pd_var fx 4) (pd_neg pd_int) (ppd_cons (pd_tup (pad_cons (pd_fld fx (pd_var fx 0) Z.c_Beside Z.na_Beside_other rfl) (pad_cons (pd_var fx 2) pad_nil))) (pd_neg pd_int) ppd_nil))) (by simp [tmK, hno, nf]) (Nat.le_of_ble_eq_true rfl)) (pd_fld fx (pd_var fx 0) Z.c_Beside Z.na_Beside_by rfl)))
  · have e : (Wd.Slot.tw (tmK (besT n s o)) (.int (besN s b))) = .tw (tmK [(n, near s, 1), (n, far s, 1), (o, near s, -1)]) (.int (-b)) := by unfold besT besN; rw [if_neg (by rw [h]; decide), if_neg (by rw [h]; decide)]
    rw [e]
    exact pssd_rt (psd_ret (pd_tupTw (pd_dispT fx (tmK [(n, near s, 1), (n, far s, 1), (o, near s, -1)]) (ppd_cons (pd_var fx 3) pd_int (ppd_cons (pd_tup (pad_cons (pd_fld fx (pd_var fx 0) Z.c_Beside Z.na_Beside_name rfl) (pad_cons (pd_var fx 2) pad_nil))) pd_int (ppd_cons (pd_var fx 4) (pd_neg pd_int) ppd_nil))) (by simp [tmK, hno, nf]) (Nat.le_of_ble_eq_true rfl)) (pd_neg (pd_fld fx (pd_var fx 0) Z.c_Beside Z.na_Beside_by rfl))))
end
end K1
set_option Elab.async false
set_option linter.all false
set_option maxRecDepth 100000
set_option maxHeartbeats 4000000
namespace K1
open PySem PySem.Spec L2 Wd
open PyProof.Rows hiding St

/-! ### the classes Alike and Amid -/
def alkF (n p o : Str) (m : Int) : List (Str × D) := [("name", .str n), ("part", .str p), ("other", .str o), ("times", .int m)]
def alkT (n p o : Str) (m : Int) : List Tm := [(n, p, 1), (o, p, -m)]
def AlkOk (n p o : Str) (m : Int) : Prop := (n.length ≤ 1000 ∧ o.length ≤ 1000) ∧ unlikeOk [n, o] = true ∧ p ∈ partL ∧ 1 ≤ m ∧ m ≤ 9
def PrAlkI (ds : List D) (fs : List (Str × D)) : Prop := ∃ (n p o : Str) (m : Int), AlkOk n p o m ∧ ds = [.str n, .str p, .str o, .int m] ∧ fs = alkF n p o m
def PrAlkNames (ds : List D) (r : Wd.Slot) : Prop := ∃ (n p o : Str) (m : Int), ds = [.obj "Alike" (alkF n p o m)] ∧ r = .ow (.lst [.str n, .str o])
def PrAlkAdds (ds : List D) (r : Wd.Slot) : Prop := ∃ (n p o : Str) (m : Int), n ≠ o ∧ ds = [.obj "Alike" (alkF n p o m)] ∧ r = .tw (tmK (alkT n p o m)) (.int 0)
def PrAlkKeeps (ds : List D) (r : Wd.Slot) : Prop := ∃ (n p o : Str) (m : Int) (ps : Pls), n ≠ o ∧ (∀ t ∈ alkT n p o m, TmOk ps t) ∧ ds = [.obj "Alike" (alkF n p o m), encPls ps] ∧ r = .sh (.bl (decide ((sumOut ps (alkT n p o m) 0).1 = 0)))
def wayL : List Str := ["across", "down"]
def nearW (s : Str) : Str := if s = "across" then "left" else "top"
def farW (s : Str) : Str := if s = "across" then "wide" else "high"
def amdF (n v o u : Str) : List (Str × D) := [("name", .str n), ("way", .str v), ("one", .str o), ("other", .str u)]
def amdT (n v o u : Str) : List Tm := [(n, nearW v, 4), (n, farW v, 2), (o, nearW v, -2), (o, farW v, -1), (u, nearW v, -2), (u, farW v, -1)]
def AmdOk (n v o u : Str) : Prop := (n.length ≤ 1000 ∧ o.length ≤ 1000 ∧ u.length ≤ 1000) ∧ unlikeOk [n, o, u] = true ∧ v ∈ wayL
def PrAmdI (ds : List D) (fs : List (Str × D)) : Prop := ∃ (n v o u : Str), AmdOk n v o u ∧ ds = [.str n, .str v, .str o, .str u] ∧ fs = amdF n v o u
def PrAmdNames (ds : List D) (r : Wd.Slot) : Prop := ∃ (n v o u : Str), ds = [.obj "Amid" (amdF n v o u)] ∧ r = .ow (.lst [.str n, .str o, .str u])
def Un3 (n o u : Str) : Prop := n ≠ o ∧ n ≠ u ∧ o ≠ u
def PrAmdAdds (ds : List D) (r : Wd.Slot) : Prop := ∃ (n v o u : Str), v ∈ wayL ∧ Un3 n o u ∧ ds = [.obj "Amid" (amdF n v o u)] ∧ r = .tw (tmK (amdT n v o u)) (.int 0)
def PrAmdKeeps (ds : List D) (r : Wd.Slot) : Prop := ∃ (n v o u : Str) (ps : Pls), v ∈ wayL ∧ Un3 n o u ∧ (∀ t ∈ amdT n v o u, TmOk ps t) ∧ ds = [.obj "Amid" (amdF n v o u), encPls ps] ∧ r = .sh (.bl (decide ((sumOut ps (amdT n v o u) 0).1 = 0)))
theorem way_t {s : Str} (h : s ∈ wayL) : (s, [nearW s, farW s]) ∈ ([("across", ["left", "wide"]), ("down", ["top", "high"])] : List (Str × List Str)) := by
  unfold wayL at h
  simp only [List.mem_cons, List.not_mem_nil, or_false] at h
  rcases h with rfl | rfl <;> decide +kernel
theorem near_farW {s : Str} (h : s ∈ wayL) : nearW s ≠ farW s := by
  unfold wayL at h
  simp only [List.mem_cons, List.not_mem_nil, or_false] at h
  rcases h with rfl | rfl <;> decide +kernel
section
variable {P : Program} {w : World} {K : PySem.W.Frag} {mg : Str → Option Value} {base : Heap} (Z : Env K mg w)
include Z
theorem ok_Beside_keeps : FnOk P w K mg base (L2.CX P w) 2 (He.ma K (He.ga K "Beside") "keeps") Z.d_Beside_keeps ["self", "places"] (spD K PrBesKeeps) := by
  refine fn_data Z.F_Beside_keeps sc_Beside_keeps (fun ds r ⟨n, s, o, b, ps, _, _, _, e, _⟩ => (by rw [e]; rfl)) fun cdv A outer s H E fx ds r hp => ?_
  obtain ⟨n, s, o, b, ps, hs, hno, hok, rfl, rfl⟩ := hp
  exact ⟨.rt _, pssd_rt (psd_ret (pd_call fx (ok_comes_out Z) Z.m_comes_out Z.F_comes_out.kp (bi_comes_out Z) .nil (fun _ => .nil) (pad_cons (PED.shareT (pd_meth0 fx (pd_var fx 0) Z.c_Beside Z.M_Beside_adds (ok_Beside_adds Z) (bi_Beside_adds Z) .nil (fun _ => .nil) rfl ⟨n, s, o, b, hs, hno, rfl, rfl⟩)) (pad_cons (pd_var fx 1) pad_nil)) ⟨ps, besT n s o, besN s b, by unfold besT; split <;> exact Nat.le_of_ble_eq_true rfl, hok, rfl, rfl⟩)), .rt⟩
theorem bi_Alike_names : Binds K Z.d_Alike_names ["self"] [] := Z.F_Alike_names.bindsN fun _ _ _ _ _ _ us hl => match us, hl with | [_], _ => rfl
theorem bi_Alike_adds : Binds K Z.d_Alike_adds ["self"] [] := Z.F_Alike_adds.bindsN fun _ _ _ _ _ _ us hl => match us, hl with | [_], _ => rfl
theorem bi_Alike_keeps : Binds K Z.d_Alike_keeps ["self", "places"] [] := Z.F_Alike_keeps.bindsN fun _ _ _ _ _ _ us hl => match us, hl with | [_, _], _ => rfl
theorem ok_Alike_init : FnOk P w K mg base (L2.CX P w) 4 (He.ma K (He.ga K "Alike") "__init__") Z.d_Alike_init ["self", "name", "part", "other", "times"] (spI K "Alike" PrAlkI) := by
  refine init_data Z.F_Alike_init sc_Alike_init (fun ds fs ⟨n, s, o, b, _, e, _⟩ => (by rw [e]; rfl)) fun cdv A outer s H E fx ds fs hp => ?_
  obtain ⟨n, p, o, b, ⟨⟨l1, l2⟩, h1, h2, h3, h4⟩, rfl, rfl⟩ := hp
  obtain ⟨t1, g1⟩ := Z.i_MOST_TIMES
  refine ⟨_, psse_cons (pse_expr (pd_call fx (ok_check_names Z) Z.m_check_names Z.F_check_names.kp (bi_check_names Z) .nil (fun _ => .nil) (pad_cons (PED.share (pd_lst (pad_cons (pd_var fx 1) (pad_cons (pd_var fx 3) pad_nil)))) pad_nil) ⟨[n, o], ⟨Nat.le_of_ble_eq_true rfl, fun x hx => ?_⟩, h1, rfl, rfl⟩))
    (psse_cons (pse_expr (pd_call fx (ok_check_word Z) Z.m_check_word Z.F_check_word.kp (bi_check_word Z) .nil (fun _ => .nil) (pad_cons (pd_var fx 2) (pad_cons (pd_globR fx Z.m_PARTS (dat_PARTS Z)) pad_nil)) ⟨p, partL, .rot (partL.map .str), .inr .rot, h2, rfl, rfl⟩))
    (psse_cons (pse_expr (pd_call fx (ok_check_number Z) Z.m_check_number Z.F_check_number.kp (bi_check_number Z) .nil (fun _ => .nil) (pad_cons (pd_var fx 4) (pad_cons pd_int (pad_cons (pd_globI fx g1) pad_nil))) ⟨b, 1, 9, ⟨h3, h4⟩, rfl, rfl⟩))
    (psse_cons (pse_fput fx (he := pd_var fx 1) (hc := Z.c_Alike) (hn := Z.na_Alike_name)) (psse_cons (pse_fput fx (he := pd_var fx 2) (hc := Z.c_Alike) (hn := Z.na_Alike_part)) (psse_cons (pse_fput fx (he := pd_var fx 3) (hc := Z.c_Alike) (hn := Z.na_Alike_other)) (psse_cons (pse_fput fx (he := pd_var fx 4) (hc := Z.c_Alike) (hn := Z.na_Alike_times)) psse_nil)))))), ?_⟩
  · rcases List.mem_cons.mp hx with rfl | hx
    · exact l1
    · exact (List.mem_singleton.mp hx) ▸ l2
  · rfl
theorem ok_Alike_names : FnOk P w K mg base (L2.CX P w) 1 (He.ma K (He.ga K "Alike") "names") Z.d_Alike_names ["self"] (spD K PrAlkNames) := by
  refine fn_data Z.F_Alike_names sc_Alike_names (fun ds r ⟨n, s, o, b, e, _⟩ => (by rw [e]; rfl)) fun cdv A outer s H E fx ds r hp => ?_
  obtain ⟨n, s, o, b, rfl, rfl⟩ := hp
  exact ⟨.rt _, pssd_rt (psd_ret (pd_lst (pad_cons (pd_fld fx (pd_var fx 0) Z.c_Alike Z.na_Alike_name rfl) (pad_cons (pd_fld fx (pd_var fx 0) Z.c_Alike Z.na_Alike_other rfl) pad_nil)))), .rt⟩
theorem ok_Alike_adds : FnOk P w K mg base (L2.CX P w) 1 (He.ma K (He.ga K "Alike") "adds") Z.d_Alike_adds ["self"] (spD K PrAlkAdds) := by
  refine fn_data Z.F_Alike_adds sc_Alike_adds (fun ds r ⟨n, s, o, b, _, e, _⟩ => (by rw [e]; rfl)) fun cdv A outer s H E fx ds r hp => ?_
  obtain ⟨n, p, o, m, hno, rfl, rfl⟩ := hp
  exact ⟨.rt _, pssd_rt (psd_ret (pd_tupTw (pd_dispT fx (tmK (alkT n p o m)) (ppd_cons (pd_tup (pad_cons (pd_fld fx (pd_var fx 0) Z.c_Alike Z.na_Alike_name rfl) (pad_cons (pd_fld fx (pd_var fx 0) Z.c_Alike Z.na_Alike_part rfl) pad_nil))) pd_int (ppd_cons (pd_tup (pad_cons (pd_fld fx (pd_var fx 0) Z.c_Alike Z.na_Alike_other rfl) (pad_cons (pd_fld fx (pd_var fx 0) Z.c_Alike Z.na_Alike_part rfl) pad_nil))) (pd_neg (pd_fld fx (pd_var fx 0) Z.c_Alike Z.na_Alike_times rfl)) ppd_nil)) (by simp [tmK, alkT, hno]) (Nat.le_of_ble_eq_true rfl)) pd_int)), .rt⟩
theorem ok_Alike_keeps : FnOk P w K mg base (L2.CX P w) 2 (He.ma K (He.ga K "Alike") "keeps") Z.d_Alike_keeps ["self", "places"] (spD K PrAlkKeeps) := by
  refine fn_data Z.F_Alike_keeps sc_Alike_keeps (fun ds r ⟨n, s, o, b, ps, _, _, e, _⟩ => (by rw [e]; rfl)) fun cdv A outer s H E fx ds r hp => ?_
  obtain ⟨n, p, o, m, ps, hno, hok, rfl, rfl⟩ := hp
  exact ⟨.rt _, pssd_rt (psd_ret (pd_call fx (ok_comes_out Z) Z.m_comes_out Z.F_comes_out.kp (bi_comes_out Z) .nil (fun _ => .nil) (pad_cons (PED.shareT (pd_meth0 fx (pd_var fx 0) Z.c_Alike Z.M_Alike_adds (ok_Alike_adds Z) (bi_Alike_adds Z) .nil (fun _ => .nil) rfl ⟨n, p, o, m, hno, rfl, rfl⟩)) (pad_cons (pd_var fx 1) pad_nil)) ⟨ps, alkT n p o m, 0, Nat.le_of_ble_eq_true rfl, hok, rfl, rfl⟩)), .rt⟩
end
end K1
set_option Elab.async false
set_option linter.all false
set_option maxRecDepth 100000
set_option maxHeartbeats 4000000
namespace K1
open PySem PySem.Spec L2 Wd
open PyProof.Rows hiding St
section
variable {P : Program} {w : World} {K : PySem.W.Frag} {mg : Str → Option Value} {base : Heap} (Z : Env K mg w)
include Z
theorem bi_Amid_names : Binds K Z.d_Amid_names ["self"] [] := Z.F_Amid_names.bindsN fun _ _ _ _ _ _ us hl => match us, hl with | [_], _ => rfl
theorem bi_Amid_adds : Binds K Z.d_Amid_adds ["self"] [] := Z.F_Amid_adds.bindsN fun _ _ _ _ _ _ us hl => match us, hl with | [_], _ => rfl
theorem bi_Amid_keeps : Binds K Z.d_Amid_keeps ["self", "places"] [] := Z.F_Amid_keeps.bindsN fun _ _ _ _ _ _ us hl => match us, hl with | [_, _], _ => rfl
theorem bi_Amid_init : Binds K Z.d_Amid_init ["self", "name", "way", "one", "other"] [] := Z.F_Amid_init.bindsN fun _ _ _ _ _ _ us hl => match us, hl with | [_, _, _, _, _], _ => rfl
theorem ok_Amid_init : FnOk P w K mg base (L2.CX P w) 4 (He.ma K (He.ga K "Amid") "__init__") Z.d_Amid_init ["self", "name", "way", "one", "other"] (spI K "Amid" PrAmdI) := by
  refine init_data Z.F_Amid_init sc_Amid_init (fun ds fs ⟨n, s, o, b, _, e, _⟩ => (by rw [e]; rfl)) fun cdv A outer s H E fx ds fs hp => ?_
  obtain ⟨n, v, o, u, ⟨⟨l1, l2, l3⟩, h1, h2⟩, rfl, rfl⟩ := hp
  refine ⟨_, psse_cons (pse_expr (pd_call fx (ok_check_names Z) Z.m_check_names Z.F_check_names.kp (bi_check_names Z) .nil (fun _ => .nil) (pad_cons (PED.share (pd_lst (pad_cons (pd_var fx 1) (pad_cons (pd_var fx 3) (pad_cons (pd_var fx 4) pad_nil))))) pad_nil) ⟨[n, o, u], ⟨Nat.le_of_ble_eq_true rfl, fun x hx => ?_⟩, h1, rfl, rfl⟩))
    (psse_cons (pse_expr (pd_call fx (ok_check_word Z) Z.m_check_word Z.F_check_word.kp (bi_check_word Z) .nil (fun _ => .nil) (pad_cons (pd_var fx 2) (pad_cons (PED.share (pd_listW fx Z.b_list Z.m_WAYS Z.k_WAYS (by decide))) pad_nil)) ⟨v, wayL, .lst (wayL.map .str), .inl .lst, h2, rfl, rfl⟩))
    (psse_cons (pse_fput fx (he := pd_var fx 1) (hc := Z.c_Amid) (hn := Z.na_Amid_name)) (psse_cons (pse_fput fx (he := pd_var fx 2) (hc := Z.c_Amid) (hn := Z.na_Amid_way)) (psse_cons (pse_fput fx (he := pd_var fx 3) (hc := Z.c_Amid) (hn := Z.na_Amid_one)) (psse_cons (pse_fput fx (he := pd_var fx 4) (hc := Z.c_Amid) (hn := Z.na_Amid_other)) psse_nil))))), ?_⟩
  · rcases List.mem_cons.mp hx with rfl | hx
    · exact l1
    · rcases List.mem_cons.mp hx with rfl | hx
      · exact l2
      · exact (List.mem_singleton.mp hx) ▸ l3
  · rfl
theorem ok_Amid_names : FnOk P w K mg base (L2.CX P w) 1 (He.ma K (He.ga K "Amid") "names") Z.d_Amid_names ["self"] (spD K PrAmdNames) := by
  refine fn_data Z.F_Amid_names sc_Amid_names (fun ds r ⟨n, s, o, b, e, _⟩ => (by rw [e]; rfl)) fun cdv A outer s H E fx ds r hp => ?_
  obtain ⟨n, v, o, u, rfl, rfl⟩ := hp
  exact ⟨.rt _, pssd_rt (psd_ret (pd_lst (pad_cons (pd_fld fx (pd_var fx 0) Z.c_Amid Z.na_Amid_name rfl) (pad_cons (pd_fld fx (pd_var fx 0) Z.c_Amid Z.na_Amid_one rfl) (pad_cons (pd_fld fx (pd_var fx 0) Z.c_Amid Z.na_Amid_other rfl) pad_nil))))), .rt⟩
theorem ok_Amid_adds : FnOk P w K mg base (L2.CX P w) 1 (He.ma K (He.ga K "Amid") "adds") Z.d_Amid_adds ["self"] (spD K PrAmdAdds) := by
  refine fn_data Z.F_Amid_adds sc_Amid_adds (fun ds r ⟨n, s, o, b, _, _, e, _⟩ => (by rw [e]; rfl)) fun cdv A outer s H E fx ds r hp => ?_
  obtain ⟨n, v, o, u, hs, ⟨n1, n2, n3⟩, rfl, rfl⟩ := hp
  obtain ⟨q, kd, ob, its, m, hk, hv⟩ := Z.v_WAYS v [nearW v, farW v] (way_t hs)
  have dq : ∀ S, Dat K S (.ref q) (.rot [.str (nearW v), .str (farW v)]) := fun S => .rot (.inr ⟨ob, its, m, hk.1, hk.2.1, hk.2.2.2.1, hk.2.2.2.2, hv⟩) (.cons .str (.cons .str .nil))
  have nf := near_farW hs
  have step : ∀ (l : List Tm) (x : Str), (∀ t ∈ l, t.1 ≠ x) → putG (putG (tmK l) [Sum.inr x, Sum.inr (nearW v)] (D.int (-2))) [Sum.inr x, Sum.inr (farW v)] (D.int (-1)) = tmK (l ++ [(x, nearW v, -2), (x, farW v, -1)]) := fun l x hl => by
    have e1 : putG (tmK l) [Sum.inr x, Sum.inr (nearW v)] (D.int (-2)) = tmK (l ++ [(x, nearW v, -2)]) := by
      rw [putG_new _ _ _ fun z => ?_]
      · simp [tmK]
      · simp only [tmK, List.map_map, List.mem_map, Function.comp_apply] at z
        obtain ⟨t, ht, e⟩ := z
        exact hl t ht (key2.mp e).1
    rw [e1, putG_new _ _ _ fun z => ?_]
    · simp [tmK]
    · simp only [tmK, List.map_map, List.mem_map, Function.comp_apply] at z
      obtain ⟨t, ht, e⟩ := z
      obtain ⟨e2, e3⟩ := key2.mp e
      rcases List.mem_append.mp ht with ht | ht
      · exact hl t ht e2
      · rw [List.mem_singleton.mp ht] at e3
        exact nf e3
  let l0 : List Tm := [(n, nearW v, 4), (n, farW v, 2)]
  let ls : Nat → List Tm := fun i => if i = 0 then l0 else if i = 1 then l0 ++ [(o, nearW v, -2), (o, farW v, -1)] else amdT n v o u
  refine ⟨.rt _, ?_, .rt⟩
  refine pssd_cons (psd_asg fx (pd_subW fx Z.m_WAYS (pd_fld fx (pd_var fx 0) Z.c_Amid Z.na_Amid_way rfl) kd dq) (tgd_tup fx .rot (tgsd_cons (tgd_name fx 1) (tgsd_cons (tgd_name fx 2) tgsd_nil)))) ?_
  refine pssd_cons (psd_set fx 3 (pd_dispT fx (tmK l0) (ppd_cons (pd_tup (pad_cons (pd_fld fx (pd_var fx 0) Z.c_Amid Z.na_Amid_name rfl) (pad_cons (pd_var fx 1) pad_nil))) pd_int (ppd_cons (pd_tup (pad_cons (pd_fld fx (pd_var fx 0) Z.c_Amid Z.na_Amid_name rfl) (pad_cons (pd_var fx 2) pad_nil))) pd_int ppd_nil)) (by simp [tmK, l0, nf]) (Nat.le_of_ble_eq_true rfl))) ?_
  refine pssd_cons (psd_for fx [o, u] (fun x => D.str x) (fun i => [.sh (.obj "Amid" (amdF n v o u)), .sh (.str (nearW v)), .sh (.str (farW v)), .ow (.dt (tmK (ls i))), .un]) (pid_tup fx .tup (pd_tup (pad_cons (pd_fld fx (pd_var fx 0) Z.c_Amid Z.na_Amid_one rfl) (pad_cons (pd_fld fx (pd_var fx 0) Z.c_Amid Z.na_Amid_other rfl) pad_nil)))) (.s (.s (.s (.s (.u .n))))) fun i x hx => ?_) ?_
  · have facts : (ls i).length ≤ 10 ∧ ((tmK (ls i)).map (·.1)).Nodup ∧ (∀ t ∈ ls i, t.1 ≠ x) ∧ ls (i + 1) = ls i ++ [(x, nearW v, -2), (x, farW v, -1)] := by
      rcases i with _ | _ | i
      · obtain rfl : o = x := Option.some.inj hx
        exact ⟨Nat.le_of_ble_eq_true rfl, by simp [ls, l0, tmK, nf], by simp [ls, l0, n1], rfl⟩
      · obtain rfl : u = x := Option.some.inj hx
        exact ⟨Nat.le_of_ble_eq_true rfl, by simp [ls, l0, tmK, nf, n1], by simp [ls, l0, n2, n3], rfl⟩
      · simp at hx
    obtain ⟨f1, f2, f3, f4⟩ := facts
    have len : (tmK (ls i)).length ≤ 10 := by unfold tmK; rw [List.length_map]; exact f1
    have e1 : [(Sum.inr x : Key), Sum.inr (nearW v)] ∉ (tmK (ls i)).map (·.1) := fun z => by
      simp only [tmK, List.map_map, List.mem_map, Function.comp_apply] at z
      obtain ⟨t, ht, e⟩ := z
      exact f3 t ht (key2.mp e).1
    refine ⟨_, _, _, tgd_name fx 4, .inl (pssd_cons (psd_dputT fx 3 (key := [Sum.inr x, Sum.inr (nearW v)]) rfl (pd_neg pd_int) (pd_tup (pad_cons (pd_var fx 4) (pad_cons (pd_var fx 1) pad_nil))) (by rw [sizeLine_eq]; omega) f2)
      (pssd_one (psd_dputT fx 3 (key := [Sum.inr x, Sum.inr (farW v)]) rfl (pd_neg pd_int) (pd_tup (pad_cons (pd_var fx 4) (pad_cons (pd_var fx 2) pad_nil))) (by rw [putG_new _ _ _ e1, List.length_append, sizeLine_eq]; simp; omega) (by rw [keys_put, if_neg e1, List.nodup_append]; exact ⟨f2, by simp, fun a ha b hb z => e1 (by rw [← List.mem_singleton.mp hb, ← z]; exact ha)⟩)))), ?_⟩
    rw [f4, ← step (ls i) x f3]
    exact .s (.s (.s (.s (.u .n))))
  · exact pssd_rt (psd_retTw fx 3 pd_int)
theorem ok_Amid_keeps : FnOk P w K mg base (L2.CX P w) 2 (He.ma K (He.ga K "Amid") "keeps") Z.d_Amid_keeps ["self", "places"] (spD K PrAmdKeeps) := by
  refine fn_data Z.F_Amid_keeps sc_Amid_keeps (fun ds r ⟨n, s, o, b, ps, _, _, _, e, _⟩ => (by rw [e]; rfl)) fun cdv A outer s H E fx ds r hp => ?_
  obtain ⟨n, v, o, u, ps, hv, hu, hok, rfl, rfl⟩ := hp
  exact ⟨.rt _, pssd_rt (psd_ret (pd_call fx (ok_comes_out Z) Z.m_comes_out Z.F_comes_out.kp (bi_comes_out Z) .nil (fun _ => .nil) (pad_cons (PED.shareT (pd_meth0 fx (pd_var fx 0) Z.c_Amid Z.M_Amid_adds (ok_Amid_adds Z) (bi_Amid_adds Z) .nil (fun _ => .nil) rfl ⟨n, v, o, u, hv, hu, rfl, rfl⟩)) (pad_cons (pd_var fx 1) pad_nil)) ⟨ps, amdT n v o u, 0, Nat.le_of_ble_eq_true rfl, hok, rfl, rfl⟩)), .rt⟩
end
end K1
set_option Elab.async false
set_option linter.all false
set_option maxRecDepth 100000
set_option maxHeartbeats 4000000
namespace K1
open PySem PySem.Spec L2 Wd
open PyProof.Rows hiding St

/-! ### sayings of all sorts -/
inductive Say where
  | at_ (n p : Str) (i : Int) | bes (n s o : Str) (b : Int) | alk (n p o : Str) (m : Int) | amd (n v o u : Str)
def Say.ok : Say → Prop
  | .at_ n p i => AtOk n p i
  | .bes n s o b => BesOk n s o b
  | .alk n p o m => AlkOk n p o m
  | .amd n v o u => AmdOk n v o u
def Say.cls : Say → Str
  | .at_ .. => "At" | .bes .. => "Beside" | .alk .. => "Alike" | .amd .. => "Amid"
def Say.fs : Say → List (Str × D)
  | .at_ n p i => atF n p i | .bes n s o b => besF n s o b | .alk n p o m => alkF n p o m | .amd n v o u => amdF n v o u
def Say.d (x : Say) : D := .obj x.cls x.fs
def Say.names : Say → List Str
  | .at_ n _ _ => [n] | .bes n _ o _ => [n, o] | .alk n _ o _ => [n, o] | .amd n _ o u => [n, o, u]
def Say.tms : Say → List Tm
  | .at_ n p _ => atT n p | .bes n s o _ => besT n s o | .alk n p o m => alkT n p o m | .amd n v o u => amdT n v o u
def Say.num : Say → Int
  | .at_ _ _ i => i | .bes _ s _ b => besN s b | .alk .. => 0 | .amd .. => 0
def shOk (xs : List Str) : Prop := xs.length ≤ 6 ∧ ∀ x ∈ xs, x.length ≤ 1000
theorem unl_iff {xs : List Str} (h : unlikeOk xs = true) : xs.Nodup := by
  unfold unlikeOk at h
  rw [Bool.and_eq_true] at h
  exact (unlikes_iff xs).mp (of_decide_eq_true h.2)
def PrBoxes (ds : List D) (r : Wd.Slot) : Prop := ∃ xs : List Str, (1 ≤ xs.length ∧ xs.length ≤ 6 ∧ ∀ x ∈ xs, x.length ≤ 1000) ∧ unlikeOk xs = true ∧ ds = [.lst (xs.map .str)] ∧ r = .sh .non
def ofNames (x : Say) (ns : List Str) : Bool := x.names.all fun n => inV (.str n) (ns.map V.str)
def PrSayOf (ds : List D) (r : Wd.Slot) : Prop := ∃ (x : Say) (ns : List Str), ns.length ≤ 100 ∧ ds = [x.d, .lst (ns.map .str)] ∧ r = .sh (.bl (ofNames x ns))
def PrSays (ds : List D) (r : Wd.Slot) : Prop := ∃ (xs : List Say) (ns : List Str), ns.length ≤ 100 ∧ xs.length ≤ 16 ∧ (∀ x ∈ xs, ofNames x ns = true) ∧ ds = [.lst (xs.map Say.d), .lst (ns.map .str)] ∧ r = .sh .non
section
variable {P : Program} {w : World} {K : PySem.W.Frag} {mg : Str → Option Value} {base : Heap} (Z : Env K mg w)
include Z
theorem bi_check_boxes : Binds K Z.d_check_boxes ["names"] [] := Z.F_check_boxes.bindsN fun _ _ _ _ _ _ us hl => match us, hl with | [_], _ => rfl
theorem bi_is_saying_of : Binds K Z.d_is_saying_of ["value", "names"] [] := Z.F_is_saying_of.bindsN fun _ _ _ _ _ _ us hl => match us, hl with | [_, _], _ => rfl
theorem bi_check_sayings : Binds K Z.d_check_sayings ["sayings", "names"] [] := Z.F_check_sayings.bindsN fun _ _ _ _ _ _ us hl => match us, hl with | [_, _], _ => rfl
theorem ok_check_boxes : FnOk P w K mg base (L2.CX P w) 3 (He.ga K "check_boxes") Z.d_check_boxes ["names"] (spD K PrBoxes) := by
  refine fn_data Z.F_check_boxes sc_check_boxes (fun ds r ⟨x, _, _, e, _⟩ => (by rw [e]; rfl)) fun cdv A outer s H E fx ds r hp => ?_
  obtain ⟨xs, ⟨h1, h2, h3⟩, hu, rfl, rfl⟩ := hp
  obtain ⟨t1, g1⟩ := Z.i_MOST_NAMES
  refine ⟨.nx (γ0 N_check_boxes [.lst (xs.map .str)]), ?_, .nx⟩
  have e : (decide ((1 : Int) ≤ ((xs.map D.str).length : Nat)) && decide ((((xs.map D.str).length : Nat) : Int) ≤ 6)) = true := by
    rw [List.length_map, decide_eq_true (by omega), decide_eq_true (by omega)]; rfl
  refine pssd_ifF (PWD.t (pwd_or (tv := false) (tw := false) (ptd_not (tv := true) (ptd_val (pd_isi fx (pad_cons (pd_var fx 0) (pad_cons (pd_ty fx (n := "list") Z.b_list) pad_nil)) Z.b_isinstance (.one (.bt rfl) rfl rfl)))) fun _ => pwd_or1 (ptd_not (tv := true) (ptd_cast e (ptd_within pd_int (pd_blt fx (fun _ => call_lenU) Z.b_len (pad_cons (pd_var fx 0) pad_nil) (rc_len (.lst .lst))) (pd_globI fx g1)))))) ?_
  exact pssd_ifF (ptd_not (tv := true) (ptd_cast hu (ptd_val (pd_call fx (ok_are_unlike_names Z) Z.m_are_unlike_names Z.F_are_unlike_names.kp (bi_are_unlike_names Z) .nil (fun _ => .nil) (pad_cons (pd_var fx 0) pad_nil) ⟨xs, ⟨by omega, h3⟩, rfl, rfl⟩)))) pssd_nil
theorem isi_say (x : Say) : IsiD K x.d (.tup [.cls "At", .cls "Beside", .cls "Alike", .cls "Amid"]) true := by
  cases x with
  | at_ n p i => exact .tup (us := [.ref (He.ga K "At"), .ref (He.ga K "Beside"), .ref (He.ga K "Alike"), .ref (He.ga K "Amid")]) (.own Z.o_At) rfl (by show PySem.W.kitAny K (.ref (He.ga K "At")) _ = _; unfold PySem.W.kitAny; rw [Z.kt_At_At])
  | bes n s o b => exact .tup (us := [.ref (He.ga K "At"), .ref (He.ga K "Beside"), .ref (He.ga K "Alike"), .ref (He.ga K "Amid")]) (.own Z.o_Beside) rfl (by show PySem.W.kitAny K (.ref (He.ga K "Beside")) _ = _; unfold PySem.W.kitAny; rw [Z.kt_Beside_At]; show PySem.W.kitAny K (.ref (He.ga K "Beside")) _ = _; unfold PySem.W.kitAny; rw [Z.kt_Beside_Beside])
  | alk n p o m => exact .tup (us := [.ref (He.ga K "At"), .ref (He.ga K "Beside"), .ref (He.ga K "Alike"), .ref (He.ga K "Amid")]) (.own Z.o_Alike) rfl (by show PySem.W.kitAny K (.ref (He.ga K "Alike")) _ = _; unfold PySem.W.kitAny; rw [Z.kt_Alike_At]; show PySem.W.kitAny K (.ref (He.ga K "Alike")) _ = _; unfold PySem.W.kitAny; rw [Z.kt_Alike_Beside]; show PySem.W.kitAny K (.ref (He.ga K "Alike")) _ = _; unfold PySem.W.kitAny; rw [Z.kt_Alike_Alike])
  | amd n v o u => exact .tup (us := [.ref (He.ga K "At"), .ref (He.ga K "Beside"), .ref (He.ga K "Alike"), .ref (He.ga K "Amid")]) (.own Z.o_Amid) rfl (by show PySem.W.kitAny K (.ref (He.ga K "Amid")) _ = _; unfold PySem.W.kitAny; rw [Z.kt_Amid_At]; show PySem.W.kitAny K (.ref (He.ga K "Amid")) _ = _; unfold PySem.W.kitAny; rw [Z.kt_Amid_Beside]; show PySem.W.kitAny K (.ref (He.ga K "Amid")) _ = _; unfold PySem.W.kitAny; rw [Z.kt_Amid_Alike]; show PySem.W.kitAny K (.ref (He.ga K "Amid")) _ = _; unfold PySem.W.kitAny; rw [Z.kt_Amid_Amid])
/-- x.names() of any saying -/
theorem pd_sayNames {ι : Type} {Xs : ι → Cx} {N : List Str} {k : Nat} (fx : Fx Xs P w K mg base N k) {γ : Gm} {o : Expr} {pos apos : Pos} {pl : ι → Sem Bool} (x : Say) (ho : PED K Xs o γ (.sh x.d)) (hk : 1 ≤ k)
    (ht : ∀ i, eval (.Call (.Attribute o "names" apos) [] [] pos) (Xs i).env = (do
      let ov ← eval o (Xs i).env
      standAt apos.atName
      let (f, first) ← holding [ov] (getMethod ov "names" (pl i))
      callWith pos f first (backTo pos (starEach [] (Xs i).env)) (backToKw pos (keywordEach [] (Xs i).env))) := by exact fun _ => rfl) : PED K Xs (.Call (.Attribute o "names" apos) [] [] pos) γ (.ow (.lst (x.names.map .str))) := by
  cases x with
  | at_ n p i => exact pd_meth0 fx ho Z.c_At Z.M_At_names (ok_At_names Z) (bi_At_names Z) .nil (fun _ => .nil) rfl ⟨n, p, i, rfl, rfl⟩ hk ht
  | bes n s o b => exact pd_meth0 fx ho Z.c_Beside Z.M_Beside_names (ok_Beside_names Z) (bi_Beside_names Z) .nil (fun _ => .nil) rfl ⟨n, s, o, b, rfl, rfl⟩ hk ht
  | alk n p o m => exact pd_meth0 fx ho Z.c_Alike Z.M_Alike_names (ok_Alike_names Z) (bi_Alike_names Z) .nil (fun _ => .nil) rfl ⟨n, p, o, m, rfl, rfl⟩ hk ht
  | amd n v o u => exact pd_meth0 fx ho Z.c_Amid Z.M_Amid_names (ok_Amid_names Z) (bi_Amid_names Z) .nil (fun _ => .nil) rfl ⟨n, v, o, u, rfl, rfl⟩ hk ht
theorem dat_cls : ∀ (c : Str) S, Dat K S (.ref (He.ga K c)) (.cls c) := fun c S => .cls
theorem ok_is_saying_of : FnOk P w K mg base (L2.CX P w) 2 (He.ga K "is_saying_of") Z.d_is_saying_of ["value", "names"] (spD K PrSayOf) := by
  refine fn_data Z.F_is_saying_of sc_is_saying_of (fun ds r ⟨x, ns, _, e, _⟩ => (by rw [e]; rfl)) fun cdv A outer s H E fx ds r hp => ?_
  obtain ⟨x, ns, hn, rfl, rfl⟩ := hp
  refine ⟨.rt _, ?_, .rt⟩
  refine pssd_ifF (ptd_not (tv := true) (ptd_val (pd_isi fx (pad_cons (pd_var fx 0) (pad_cons (pd_tup (pad_cons (pd_globR fx Z.m_At (dat_cls Z "At")) (pad_cons (pd_globR fx Z.m_Beside (dat_cls Z "Beside")) (pad_cons (pd_globR fx Z.m_Alike (dat_cls Z "Alike")) (pad_cons (pd_globR fx Z.m_Amid (dat_cls Z "Amid")) pad_nil))))) pad_nil)) Z.b_isinstance (isi_say Z x)))) ?_
  exact pssd_rt (psd_ret (pd_allC fx [("name", 2)] x.names (fun n => D.str n) _ Z.b_all (pid_list fx .lst (PED.share (pd_sayNames Z fx x (pd_var fx 0) (Nat.le_refl _)))) (by rw [sizeLine_eq]; cases x <;> exact Nat.le_of_ble_eq_true rfl) fun n hm => ⟨_, _, tgd_name fx.bk 2, fun _ h => h, pd_in fx.bk (pd_var fx.bk 2) (pd_var fx.bk 1) (.lst .lst (by rw [List.map_map, List.map_map]; rfl) rfl)⟩))
end
end K1
set_option Elab.async false
set_option linter.all false
set_option maxRecDepth 100000
set_option maxHeartbeats 4000000
namespace K1
open PySem PySem.Spec L2 Wd
open PyProof.Rows hiding St

/-! ### sheets -/
def shF (ns : List Str) (xs : List Say) : List (Str × D) := [("boxes", .lst (ns.map .str)), ("said", .lst (xs.map Say.d))]
def NsOk (ns : List Str) : Prop := (1 ≤ ns.length ∧ ns.length ≤ 6 ∧ ∀ x ∈ ns, x.length ≤ 1000) ∧ unlikeOk ns = true
def XsOk (ns : List Str) (xs : List Say) : Prop := xs.length ≤ 16 ∧ ∀ x ∈ xs, ofNames x ns = true
def PrShI (ds : List D) (fs : List (Str × D)) : Prop := ∃ (ns : List Str) (xs : List Say), NsOk ns ∧ XsOk ns xs ∧ ds = [.lst (ns.map .str), .lst (xs.map Say.d)] ∧ fs = shF ns xs
def PrShNames (ds : List D) (r : Wd.Slot) : Prop := ∃ (ns : List Str) (xs : List Say), ds = [.obj "Sheet" (shF ns xs)] ∧ r = .ow (.lst (ns.map .str))
def PrShSays (ds : List D) (r : Wd.Slot) : Prop := ∃ (ns : List Str) (xs : List Say), ds = [.obj "Sheet" (shF ns xs)] ∧ r = .ow (.lst (xs.map Say.d))
def PrIsSheet (ds : List D) (r : Wd.Slot) : Prop := ∃ (ns : List Str) (xs : List Say), ds = [.obj "Sheet" (shF ns xs)] ∧ r = .sh .non
def PrPlace (ds : List D) (r : Wd.Slot) : Prop := ∃ (ns : List Str) (xs : List Say) (i b : Int), (0 ≤ i ∧ i ≤ (xs.length : Int) - 1 + b) ∧ ds = [.obj "Sheet" (shF ns xs), .int i, .int b] ∧ r = .sh .non
def PrPut (ds : List D) (r : Wd.Slot) : Prop := ∃ (ns : List Str) (xs : List Say) (i : Nat) (x : Say), NsOk ns ∧ XsOk ns (xs.take i ++ [x] ++ xs.drop i) ∧ i ≤ xs.length ∧ ds = [.obj "Sheet" (shF ns xs), .int i, x.d] ∧ r = .ow (.obj "Sheet" (shF ns (xs.take i ++ [x] ++ xs.drop i)))
def PrTaken (ds : List D) (r : Wd.Slot) : Prop := ∃ (ns : List Str) (xs : List Say) (i : Nat), NsOk ns ∧ XsOk ns (xs.eraseIdx i) ∧ i < xs.length ∧ xs.length ≤ 100 ∧ ds = [.obj "Sheet" (shF ns xs), .int i] ∧ r = .ow (.obj "Sheet" (shF ns (xs.eraseIdx i)))
section
variable {P : Program} {w : World} {K : PySem.W.Frag} {mg : Str → Option Value} {base : Heap} (Z : Env K mg w)
include Z
theorem ok_check_sayings : FnOk P w K mg base (L2.CX P w) 3 (He.ga K "check_sayings") Z.d_check_sayings ["sayings", "names"] (spD K PrSays) := by
  refine fn_data Z.F_check_sayings sc_check_sayings (fun ds r ⟨x, _, _, _, _, e, _⟩ => (by rw [e]; rfl)) fun cdv A outer s H E fx ds r hp => ?_
  obtain ⟨xs, ns, hn, hx, hof, rfl, rfl⟩ := hp
  obtain ⟨t1, g1⟩ := Z.i_MOST_SAYINGS
  refine ⟨.nx (γ0 N_check_sayings [.lst (xs.map Say.d), .lst (ns.map .str)]), ?_, .nx⟩
  have e : decide ((16 : Int) < ((xs.map Say.d).length : Nat)) = false := decide_eq_false (by rw [List.length_map]; omega)
  refine pssd_ifF (PWD.t (pwd_or (tv := false) (tw := false) (ptd_not (tv := true) (ptd_val (pd_isi fx (pad_cons (pd_var fx 0) (pad_cons (pd_ty fx (n := "list") Z.b_list) pad_nil)) Z.b_isinstance (.one (.bt rfl) rfl rfl)))) fun _ => pwd_or1 (ptd_cast e (ptd_cmp (fun _ => op_gt) (nomark _) (pd_blt fx (fun _ => call_lenU) Z.b_len (pad_cons (pd_var fx 0) pad_nil) (rc_len (.lst .lst))) (pd_globI fx g1) rd_gt)))) ?_
  have e2 : (xs.all fun x => ofNames x ns) = true := List.all_eq_true.mpr hof
  exact pssd_ifF (ptd_not (tv := true) (ptd_cast e2 (ptd_val (pd_allC fx [("saying", 2)] xs Say.d _ Z.b_all (pid_list fx .lst (pd_var fx 0)) (by rw [sizeLine_eq]; omega) fun x hm => ⟨_, _, tgd_name fx.bk 2, fun _ h => h, pd_call fx.bk (ok_is_saying_of Z) Z.m_is_saying_of Z.F_is_saying_of.kp (bi_is_saying_of Z) .nil (fun _ => .nil) (pad_cons (pd_var fx.bk 2) (pad_cons (pd_var fx.bk 1) pad_nil)) ⟨x, ns, hn, rfl, rfl⟩⟩)))) pssd_nil
theorem bi_Sheet_names : Binds K Z.d_Sheet_names ["self"] [] := Z.F_Sheet_names.bindsN fun _ _ _ _ _ _ us hl => match us, hl with | [_], _ => rfl
theorem bi_Sheet_sayings : Binds K Z.d_Sheet_sayings ["self"] [] := Z.F_Sheet_sayings.bindsN fun _ _ _ _ _ _ us hl => match us, hl with | [_], _ => rfl
theorem bi_Sheet_init : Binds K Z.d_Sheet_init ["self", "names", "sayings"] [] := Z.F_Sheet_init.bindsN fun _ _ _ _ _ _ us hl => match us, hl with | [_, _, _], _ => rfl
theorem bi_check_place : Binds K Z.d_check_place ["sheet", "at", "behind"] [] := Z.F_check_place.bindsN fun _ _ _ _ _ _ us hl => match us, hl with | [_, _, _], _ => rfl
theorem ok_Sheet_init : FnOk P w K mg base (L2.CX P w) 4 (He.ma K (He.ga K "Sheet") "__init__") Z.d_Sheet_init ["self", "names", "sayings"] (spI K "Sheet" PrShI) := by
  refine init_data Z.F_Sheet_init sc_Sheet_init (fun ds fs ⟨n, s, _, _, e, _⟩ => (by rw [e]; rfl)) fun cdv A outer s H E fx ds fs hp => ?_
  obtain ⟨ns, xs, ⟨h1, h2⟩, ⟨h3, h4⟩, rfl, rfl⟩ := hp
  refine ⟨_, psse_cons (pse_expr (pd_call fx (ok_check_boxes Z) Z.m_check_boxes Z.F_check_boxes.kp (bi_check_boxes Z) .nil (fun _ => .nil) (pad_cons (pd_var fx 1) pad_nil) ⟨ns, h1, h2, rfl, rfl⟩))
    (psse_cons (pse_expr (pd_call fx (ok_check_sayings Z) Z.m_check_sayings Z.F_check_sayings.kp (bi_check_sayings Z) .nil (fun _ => .nil) (pad_cons (pd_var fx 2) (pad_cons (pd_var fx 1) pad_nil)) ⟨xs, ns, by omega, h3, h4, rfl, rfl⟩))
    (psse_cons (pse_fput fx (he := pd_bty fx (fun _ => call_listU) Z.b_list (pad_cons (pd_var fx 1) pad_nil) (rc_list (.inl .lst))) (hc := Z.c_Sheet) (hn := Z.na_Sheet_boxes)) (psse_cons (pse_fput fx (he := pd_bty fx (fun _ => call_listU) Z.b_list (pad_cons (pd_var fx 2) pad_nil) (rc_list (.inl .lst))) (hc := Z.c_Sheet) (hn := Z.na_Sheet_said)) psse_nil))), ?_⟩
  rfl
theorem ok_Sheet_names : FnOk P w K mg base (L2.CX P w) 1 (He.ma K (He.ga K "Sheet") "names") Z.d_Sheet_names ["self"] (spD K PrShNames) := by
  refine fn_data Z.F_Sheet_names sc_Sheet_names (fun ds r ⟨n, s, e, _⟩ => (by rw [e]; rfl)) fun cdv A outer s H E fx ds r hp => ?_
  obtain ⟨ns, xs, rfl, rfl⟩ := hp
  exact ⟨.rt _, pssd_rt (psd_ret (pd_bty fx (fun _ => call_listU) Z.b_list (pad_cons (pd_fld fx (pd_var fx 0) Z.c_Sheet Z.na_Sheet_boxes rfl) pad_nil) (rc_list (.inl .lst)))), .rt⟩
theorem ok_Sheet_sayings : FnOk P w K mg base (L2.CX P w) 1 (He.ma K (He.ga K "Sheet") "sayings") Z.d_Sheet_sayings ["self"] (spD K PrShSays) := by
  refine fn_data Z.F_Sheet_sayings sc_Sheet_sayings (fun ds r ⟨n, s, e, _⟩ => (by rw [e]; rfl)) fun cdv A outer s H E fx ds r hp => ?_
  obtain ⟨ns, xs, rfl, rfl⟩ := hp
  exact ⟨.rt _, pssd_rt (psd_ret (pd_bty fx (fun _ => call_listU) Z.b_list (pad_cons (pd_fld fx (pd_var fx 0) Z.c_Sheet Z.na_Sheet_said rfl) pad_nil) (rc_list (.inl .lst)))), .rt⟩
theorem bi_check_sheet : Binds K Z.d_check_sheet ["value"] [] := Z.F_check_sheet.bindsN fun _ _ _ _ _ _ us hl => match us, hl with | [_], _ => rfl
theorem ok_check_sheet : FnOk P w K mg base (L2.CX P w) 1 (He.ga K "check_sheet") Z.d_check_sheet ["value"] (spD K PrIsSheet) := by
  refine fn_data Z.F_check_sheet sc_check_sheet (fun ds r ⟨n, s, e, _⟩ => (by rw [e]; rfl)) fun cdv A outer s H E fx ds r hp => ?_
  obtain ⟨ns, xs, rfl, rfl⟩ := hp
  exact ⟨.nx (γ0 N_check_sheet [.obj "Sheet" (shF ns xs)]), pssd_ifF (ptd_not (tv := true) (ptd_val (pd_isi fx (pad_cons (pd_var fx 0) (pad_cons (pd_globR fx Z.m_Sheet (dat_cls Z "Sheet")) pad_nil)) Z.b_isinstance (.one (.own Z.o_Sheet) rfl Z.kt_Sheet_Sheet)))) pssd_nil, .nx⟩
theorem ok_check_place : FnOk P w K mg base (L2.CX P w) 3 (He.ga K "check_place") Z.d_check_place ["sheet", "at", "behind"] (spD K PrPlace) := by
  refine fn_data Z.F_check_place sc_check_place (fun ds r ⟨n, s, i, b, _, e, _⟩ => (by rw [e]; rfl)) fun cdv A outer s H E fx ds r hp => ?_
  obtain ⟨ns, xs, i, b, ⟨h1, h2⟩, rfl, rfl⟩ := hp
  refine ⟨.nx (γ0 N_check_place [.obj "Sheet" (shF ns xs), .int i, .int b]), ?_, .nx⟩
  refine pssd_cons (psd_expr (pd_call fx (ok_check_sheet Z) Z.m_check_sheet Z.F_check_sheet.kp (bi_check_sheet Z) .nil (fun _ => .nil) (pad_cons (pd_var fx 0) pad_nil) ⟨ns, xs, rfl, rfl⟩)) ?_
  have e : (decide ((0 : Int) ≤ i) && decide (i ≤ ((xs.map Say.d).length : Nat) - 1 + b)) = true := by rw [List.length_map, decide_eq_true h1, decide_eq_true h2]; rfl
  exact pssd_ifF (ptd_not (tv := true) (ptd_cast e (ptd_val (pd_call fx (ok_is_number Z) Z.m_is_number Z.F_is_number.kp (bi_is_number Z) .nil (fun _ => .nil) (pad_cons (pd_var fx 1) (pad_cons pd_int (pad_cons (pd_plus (pd_minus (pd_blt fx (fun _ => call_lenU) Z.b_len (pad_cons (PED.share (pd_meth0 fx (pd_var fx 0) Z.c_Sheet Z.M_Sheet_sayings (ok_Sheet_sayings Z) (bi_Sheet_sayings Z) .nil (fun _ => .nil) rfl ⟨ns, xs, rfl, rfl⟩)) pad_nil) (rc_len (.lst .lst))) pd_int) (pd_var fx 2)) pad_nil))) ⟨i, 0, _, rfl, rfl⟩)))) pssd_nil
end
end K1
set_option Elab.async false
set_option linter.all false
set_option maxRecDepth 100000
set_option maxHeartbeats 4000000
namespace K1
open PySem PySem.Spec L2 Wd
open PyProof.Rows hiding St
theorem er {α β : Type} {f : α → β} : ∀ (i : Nat) (xs : List α), (xs.map f).eraseIdx i = (xs.eraseIdx i).map f
  | _, [] => rfl
  | 0, _ :: _ => rfl
  | i + 1, x :: r => by rw [List.map_cons, List.eraseIdx_cons_succ, List.eraseIdx_cons_succ, List.map_cons, er i r]
section
variable {P : Program} {w : World} {K : PySem.W.Frag} {mg : Str → Option Value} {base : Heap} (Z : Env K mg w)
include Z
theorem bi_put : Binds K Z.d_put ["sheet", "at", "saying"] [] := Z.F_put.bindsN fun _ _ _ _ _ _ us hl => match us, hl with | [_, _, _], _ => rfl
theorem bi_taken : Binds K Z.d_taken ["sheet", "at"] [] := Z.F_taken.bindsN fun _ _ _ _ _ _ us hl => match us, hl with | [_, _], _ => rfl
theorem ok_put : FnOk P w K mg base (L2.CX P w) 6 (He.ga K "put") Z.d_put ["sheet", "at", "saying"] (spD K PrPut) := by
  refine fn_data Z.F_put sc_put (fun ds r ⟨n, s, i, x, _, _, _, e, _⟩ => (by rw [e]; rfl)) fun cdv A outer s H E fx ds r hp => ?_
  obtain ⟨ns, xs, i, x, h1, h2, h3, rfl, rfl⟩ := hp
  have hl : xs.length ≤ 16 := by
    have z := h2.1
    simp only [List.length_append, List.length_take, List.length_drop, List.length_cons, List.length_nil] at z
    omega
  refine ⟨.rt _, ?_, .rt⟩
  refine pssd_cons (psd_expr (pd_call fx (ok_check_place Z) Z.m_check_place Z.F_check_place.kp (bi_check_place Z) .nil (fun _ => .nil) (pad_cons (pd_var fx 0) (pad_cons (pd_var fx 1) (pad_cons pd_int pad_nil))) ⟨ns, xs, i, 1, by omega, rfl, rfl⟩)) ?_
  refine pssd_cons (psd_set fx 3 (pd_meth0 fx (pd_var fx 0) Z.c_Sheet Z.M_Sheet_sayings (ok_Sheet_sayings Z) (bi_Sheet_sayings Z) .nil (fun _ => .nil) rfl ⟨ns, xs, rfl, rfl⟩)) ?_
  refine pssd_cons (psd_insert fx 3 (m := i) rfl (pad_cons (pd_var fx 1) (pad_cons (pd_var fx 2) pad_nil)) (by rw [List.length_map, sizeLine_eq]; omega) (by omega)) ?_
  refine pssd_freeze 3 rfl ?_
  have e : (xs.map Say.d).take i ++ [x.d] ++ (xs.map Say.d).drop i = (xs.take i ++ [x] ++ xs.drop i).map Say.d := by simp [List.map_take, List.map_drop]
  refine pssd_rt (psd_ret (pd_make fx Z.M_Sheet_init (ok_Sheet_init Z) Z.m_Sheet (bi_Sheet_init Z) .nil (fun _ => .nil) (pad_cons (PED.share (pd_meth0 fx (pd_var fx 0) Z.c_Sheet Z.M_Sheet_names (ok_Sheet_names Z) (bi_Sheet_names Z) .nil (fun _ => .nil) rfl ⟨ns, xs, rfl, rfl⟩)) (pad_cons (pd_var fx 3) pad_nil)) ⟨ns, xs.take i ++ [x] ++ xs.drop i, h1, h2, by rw [← e]; rfl, rfl⟩))
theorem ok_taken : FnOk P w K mg base (L2.CX P w) 6 (He.ga K "taken") Z.d_taken ["sheet", "at"] (spD K PrTaken) := by
  refine fn_data Z.F_taken sc_taken (fun ds r ⟨n, s, i, _, _, _, _, e, _⟩ => (by rw [e]; rfl)) fun cdv A outer s H E fx ds r hp => ?_
  obtain ⟨ns, xs, i, h1, h2, h3, h4, rfl, rfl⟩ := hp
  refine ⟨.rt _, ?_, .rt⟩
  refine pssd_cons (psd_expr (pd_call fx (ok_check_place Z) Z.m_check_place Z.F_check_place.kp (bi_check_place Z) .nil (fun _ => .nil) (pad_cons (pd_var fx 0) (pad_cons (pd_var fx 1) (pad_cons pd_int pad_nil))) ⟨ns, xs, i, 0, by omega, rfl, rfl⟩)) ?_
  refine pssd_cons (psd_set fx 2 (pd_meth0 fx (pd_var fx 0) Z.c_Sheet Z.M_Sheet_sayings (ok_Sheet_sayings Z) (bi_Sheet_sayings Z) .nil (fun _ => .nil) rfl ⟨ns, xs, rfl, rfl⟩)) ?_
  refine pssd_cons (psd_ldel fx 2 (n := i) rfl (pd_var fx 1) (by omega) (by rw [List.length_map]; exact PySem.StrLaws.seqIndex_nonneg (by omega) (by omega))) ?_
  refine pssd_freeze 2 rfl ?_
  have e : (xs.map Say.d).eraseIdx i = (xs.eraseIdx i).map Say.d := er i xs
  refine pssd_rt (psd_ret (pd_make fx Z.M_Sheet_init (ok_Sheet_init Z) Z.m_Sheet (bi_Sheet_init Z) .nil (fun _ => .nil) (pad_cons (PED.share (pd_meth0 fx (pd_var fx 0) Z.c_Sheet Z.M_Sheet_names (ok_Sheet_names Z) (bi_Sheet_names Z) .nil (fun _ => .nil) rfl ⟨ns, xs, rfl, rfl⟩)) (pad_cons (pd_var fx 2) pad_nil)) ⟨ns, xs.eraseIdx i, h1, h2, by rw [← e]; rfl, rfl⟩))
end
end K1
set_option Elab.async false
set_option linter.all false
set_option maxRecDepth 100000
set_option maxHeartbeats 4000000
namespace K1
open PySem PySem.Spec L2 Wd
open PyProof.Rows hiding St

/-! ### the law's defs: numbers of the script -/
def cell (ns : List Int) (k : Nat) : Int := if k < ns.length then ns.getD k 0 else if ns = [] then k * 48271 else ((ns.getD (k % ns.length) 0 + k) * 48271) % 2147483647
def PrCell (ds : List D) (r : Wd.Slot) : Prop := ∃ (ns : List Int) (k : Nat), ns.length ≤ 63 ∧ k ≤ 1000 ∧ ds = [.ro (ns.map .int), .int k] ∧ r = .sh (.int (cell ns k))
def mixed (c : Int) : Int := if c < 10 ^ 18 then ((c % 2147483647 * 48271 + 12345) ^ 5) / 1013 else c
def digSt (l : Int) (bs : List Int) : Int × List Int := bs.foldl (fun a b => (a.1 / b, a.2 ++ [a.1 % b])) (l, [])
def digs (c : Int) (bs : List Int) : List Int := (digSt (mixed c) bs).2
def PrNums (ds : List D) (r : Wd.Slot) : Prop := ∃ (c : Int) (bs : List Int) (b : D), IsL b (bs.map .int) ∧ bs.length ≤ 100 ∧ (∀ x ∈ bs, 0 < x ∧ x < 1000) ∧ ds = [.int c, b] ∧ r = .ow (.lst ((digs c bs).map .int))
theorem digSt_len (l : Int) (bs : List Int) : (digSt l bs).2.length = bs.length := by
  have h : ∀ (bs : List Int) (a : Int × List Int), (bs.foldl (fun a b => (a.1 / b, a.2 ++ [a.1 % b])) a).2.length = a.2.length + bs.length := fun bs => by
    induction bs with
    | nil => intro a; rfl
    | cons b r ih => intro a; rw [List.foldl_cons, ih]; simp; omega
  unfold digSt
  rw [h]
  simp
def PrParts (ds : List D) (r : Wd.Slot) : Prop := ds = [] ∧ r = .ow (.lst (partL.map .str))
def byL (s : Str) (l : Int) : Int := if fwd s = true then l else -l
def PrBy (ds : List D) (r : Wd.Slot) : Prop := ∃ (s : Str) (l : Int), ds = [.str s, .int l] ∧ r = .sh (.int (byL s l))
section
variable {P : Program} {w : World} {K : PySem.W.Frag} {mg : Str → Option Value} {base : Heap} (Z : Env K mg w)
include Z
theorem bi_l_cell_at : Binds K Z.d_l_cell_at ["_law_script", "_law_k"] [] := Z.F_l_cell_at.bindsN fun _ _ _ _ _ _ us hl => match us, hl with | [_, _], _ => rfl
theorem ok_l_cell_at : FnOk P w K mg base (L2.CX P w) 1 (He.ga K "_law_cell_at") Z.d_l_cell_at ["_law_script", "_law_k"] (spD K PrCell) := by
  refine fn_data Z.F_l_cell_at sc_l_cell_at (fun ds r ⟨n, k, _, _, e, _⟩ => (by rw [e]; rfl)) fun cdv A outer s H E fx ds r hp => ?_
  obtain ⟨ns, k, hn, hk, rfl, rfl⟩ := hp
  refine ⟨.rt _, ?_, .rt⟩
  refine pssd_ifret (ptd_cmp (fun _ => op_lt) (nomark _) (pd_var fx 1) (pd_blt fx (fun _ => call_lenU) Z.b_len (pad_cons (pd_var fx 0) pad_nil) (rc_len (.lst .ro))) rd_lt) (fun h1 => ?_) (fun h1 => ?_)
  · have h2 : k < ns.length := by have z := of_decide_eq_true h1; rw [List.length_map] at z; omega
    have e : cell ns k = ns[k] := by unfold cell; rw [if_pos h2, List.getD_eq_getElem?_getD, List.getElem?_eq_getElem h2]; rfl
    rw [e]
    exact pssd_rt (psd_ret (pd_sub fx (pd_var fx 0) (pd_var fx 1) (.lst .ro (atI_nat (by rw [List.getElem?_map, List.getElem?_eq_getElem h2]; rfl)))))
  · have h2 : ¬ k < ns.length := by have z := of_decide_eq_false h1; rw [List.length_map] at z; omega
    refine pssd_ifret (ptd_eq fx (pd_var fx 0) (PED.share (pd_lst pad_nil)) (.py (.lst .ro (PysOf.map (g := PyData.int) (fun x => .int) ns)) (.lst .lst .nil) (Nat.le_trans (Nat.min_le_right _ _) (by decide)))) (fun h3 => ?_) (fun h3 => ?_)
    · have h4 : ns = [] := by
        cases ns with
        | nil => rfl
        | cons x r => simp [PyData.eqv, PyData.eqvAll] at h3
      have e : cell ns k = k * 48271 := by unfold cell; rw [if_neg h2, if_pos h4]
      rw [e]
      exact pssd_rt (psd_ret (pd_mul (pd_var fx 1) pd_int (.inr (by decide))))
    · have h4 : ns ≠ [] := fun z => by subst z; simp [PyData.eqv, PyData.eqvAll] at h3
      have h5 : 0 < ns.length := List.length_pos_iff.mpr h4
      have h6 : k % ns.length < ns.length := Nat.mod_lt _ h5
      have e : cell ns k = ((ns[k % ns.length] + k) * 48271) % 2147483647 := by unfold cell; rw [if_neg h2, if_neg h4, List.getD_eq_getElem?_getD, List.getElem?_eq_getElem h6]; rfl
      have e2 : ((k : Int) % ((ns.map D.int).length : Nat)) = ((k % ns.length : Nat) : Int) := by rw [List.length_map]; exact (Int.natCast_emod k ns.length).symm
      rw [e]
      refine pssd_rt (psd_ret (pd_op (fun _ => op_mod) (pd_mul (pd_plus (pd_sub fx (pd_var fx 0) (pd_cast (congrArg (fun z => Wd.Slot.sh (D.int z)) e2) (pd_op (fun _ => op_mod) (pd_var fx 1) (pd_blt fx (fun _ => call_lenU) Z.b_len (pad_cons (pd_var fx 0) pad_nil) (rc_len (.lst .ro))) (rd_mod (by rw [List.length_map]; omega)))) (.lst .ro (atI_nat (by rw [List.getElem?_map, List.getElem?_eq_getElem h6]; rfl)))) (pd_var fx 1)) pd_int (.inr (by decide))) pd_int (rd_mod (by decide))))
theorem bi_l_numbers : Binds K Z.d_l_numbers ["_law_cell", "_law_bounds"] [] := Z.F_l_numbers.bindsN fun _ _ _ _ _ _ us hl => match us, hl with | [_, _], _ => rfl
theorem bi_l_parts : Binds K Z.d_l_parts [] [] := Z.F_l_parts.bindsN fun _ _ _ _ _ _ us hl => match us, hl with | [], _ => rfl
theorem bi_l_by : Binds K Z.d_l_by ["_law_side", "_law_left_here"] [] := Z.F_l_by.bindsN fun _ _ _ _ _ _ us hl => match us, hl with | [_, _], _ => rfl
theorem ok_l_parts : FnOk P w K mg base (L2.CX P w) 1 (He.ga K "_law_parts") Z.d_l_parts [] (spD K PrParts) := by
  refine fn_data Z.F_l_parts sc_l_parts (fun ds r ⟨e, _⟩ => (by rw [e]; rfl)) fun cdv A outer s H E fx ds r hp => ?_
  obtain ⟨rfl, rfl⟩ := hp
  exact ⟨.rt _, pssd_rt (psd_ret (pd_lst (pad_cons pd_str (pad_cons pd_str (pad_cons pd_str (pad_cons pd_str pad_nil)))))), .rt⟩
theorem ok_l_by : FnOk P w K mg base (L2.CX P w) 1 (He.ga K "_law_by") Z.d_l_by ["_law_side", "_law_left_here"] (spD K PrBy) := by
  refine fn_data Z.F_l_by sc_l_by (fun ds r ⟨x, l, e, _⟩ => (by rw [e]; rfl)) fun cdv A outer s H E fx ds r hp => ?_
  obtain ⟨x, l, rfl, rfl⟩ := hp
  exact ⟨.rt _, pssd_rt (psd_ret (pd_if (tv := fwd x) (ptd_in fx (pd_var fx 0) (pd_tup (pad_cons pd_str (pad_cons pd_str pad_nil))) (.tup .tup rfl rfl)) (fun h => pd_cast (by unfold byL; rw [if_pos h]) (pd_var fx 1)) (fun h => pd_cast (by unfold byL; rw [if_neg (by rw [h]; decide)]) (pd_neg (pd_var fx 1))))), .rt⟩
theorem ok_l_numbers : FnOk P w K mg base (L2.CX P w) 1 (He.ga K "_law_numbers") Z.d_l_numbers ["_law_cell", "_law_bounds"] (spD K PrNums) := by
  refine fn_data Z.F_l_numbers sc_l_numbers (fun ds r ⟨c, bs, b, _, _, _, e, _⟩ => (by rw [e]; rfl)) fun cdv A outer s H E fx ds r hp => ?_
  obtain ⟨c, bs, b, hb, hn, hp, rfl, rfl⟩ := hp
  refine ⟨.rt _, ?_, .rt⟩
  refine pssd_cons (psd_set fx 2 (pd_var fx 0)) ?_
  refine pssd_cons (γ1 := [.sh (.int c), .sh b, .sh (.int (mixed c)), .un, .un]) ?_ ?_
  · by_cases h : c < 10 ^ 18
    · have e : mixed c = ((c % 2147483647 * 48271 + 12345) ^ 5) / 1013 := by unfold mixed; rw [if_pos h]
      rw [e]
      have b1 : 0 ≤ c % 2147483647 := Int.emod_nonneg _ (by decide)
      have b2 : c % 2147483647 < 2147483647 := Int.emod_lt_of_pos _ (by decide)
      exact psd_ifT (ptd_cast (decide_eq_true h) (ptd_cmp (fun _ => op_lt) (nomark _) (pd_var fx 0) (pd_op (fun _ => op_pow) pd_int pd_int (rd_pow (by unfold CPow; decide))) rd_lt)) (pssd_one (psd_set fx 2 (pd_op (fun _ => op_fdiv) (pd_op (fun _ => op_pow) (pd_plus (pd_mul (pd_op (fun _ => op_mod) (pd_var fx 0) pd_int (rd_mod (by decide))) pd_int (.inr (by decide))) pd_int) pd_int (rd_pow (by unfold CPow; omega))) pd_int (rd_fdiv (by unfold CDiv; decide)))))
    · have e : mixed c = c := by unfold mixed; rw [if_neg h]
      rw [e]
      exact psd_ifF (ptd_cast (decide_eq_false h) (ptd_cmp (fun _ => op_lt) (nomark _) (pd_var fx 0) (pd_op (fun _ => op_pow) pd_int pd_int (rd_pow (by unfold CPow; decide))) rd_lt)) pssd_nil
  refine pssd_cons (psd_set fx 3 (pd_lst pad_nil)) ?_
  refine pssd_cons (psd_for fx bs (fun x => D.int x) (fun i => [.sh (.int c), .sh b, .sh (.int (digSt (mixed c) (bs.take i)).1), .ow (.lst ((digSt (mixed c) (bs.take i)).2.map .int)), .un]) (pid_list fx hb (pd_var fx 1)) (.s (.s (.s (.s (.u .n))))) fun i x hx => ?_) ?_
  · obtain ⟨p1, p2⟩ := hp x (List.mem_of_getElem? hx)
    have et : bs.take (i + 1) = bs.take i ++ [x] := by rw [List.take_add_one, hx]; rfl
    have e1 : digSt (mixed c) (bs.take (i + 1)) = ((digSt (mixed c) (bs.take i)).1 / x, (digSt (mixed c) (bs.take i)).2 ++ [(digSt (mixed c) (bs.take i)).1 % x]) := by
      unfold digSt
      rw [et, List.foldl_append]
      rfl
    refine ⟨_, _, _, tgd_name fx 4, .inl (pssd_cons (psd_append fx 3 rfl (pd_op (fun _ => op_mod) (pd_var fx 2) (pd_var fx 4) (rd_mod p1)) (by rw [List.length_map, digSt_len, List.length_take, sizeLine_eq]; omega)) (pssd_one (psd_set fx 2 (pd_op (fun _ => op_fdiv) (pd_var fx 2) (pd_var fx 4) (rd_fdiv (by unfold CDiv; omega)))))), ?_⟩
    rw [e1]
    refine .s (.s (.s ?_))
    rw [List.map_append]
    exact .s (.u .n)
  · have e : digs c bs = (digSt (mixed c) (bs.take bs.length)).2 := by rw [List.take_length]; rfl
    rw [e]
    exact pssd_rt (psd_retOw fx 3)
end
end K1
set_option Elab.async false
set_option linter.all false
set_option maxRecDepth 100000
set_option maxHeartbeats 4000000
namespace K1
open PySem PySem.Spec L2 Wd
open PyProof.Rows hiding St
/-! ### the law's names -/
def wordL : List Str := ["a", "box", "left", "of", "by", "b", "wide", "amid", "across", "as", "times", "c"]
def wordAt (c : Int) (k : Nat) : Str := wordL.getD ((c / 6 % 12 + 5 * (k : Int)) % 12).toNat Str.empty
def namesOf (c : Int) : List Str := (List.range (1 + c % 6).toNat).map (wordAt c)
def PrLNames (ds : List D) (r : Wd.Slot) : Prop := ∃ c : Int, ds = [.int c] ∧ r = .ow (.lst ((namesOf c).map .str))
section
variable {P : Program} {w : World} {K : PySem.W.Frag} {mg : Str → Option Value} {base : Heap} (Z : Env K mg w)
include Z
theorem bi_l_names : Binds K Z.d_l_names ["_law_cell"] [] := Z.F_l_names.bindsN fun _ _ _ _ _ _ us hl => match us, hl with | [_], _ => rfl
theorem ok_l_names : FnOk P w K mg base (L2.CX P w) 1 (He.ga K "_law_names") Z.d_l_names ["_law_cell"] (spD K PrLNames) := by
  refine fn_data Z.F_l_names sc_l_names (fun ds r ⟨c, e, _⟩ => (by rw [e]; rfl)) fun cdv A outer s H E fx ds r hp => ?_
  obtain ⟨c, rfl, rfl⟩ := hp
  refine ⟨.rt _, ?_, .rt⟩
  have b1 : 0 ≤ c % 6 := Int.emod_nonneg _ (by decide)
  have b2 : c % 6 < 6 := Int.emod_lt_of_pos _ (by decide)
  refine pssd_cons (psd_set fx 1 (PED.share (pd_lst (pad_cons pd_str (pad_cons pd_str (pad_cons pd_str (pad_cons pd_str (pad_cons pd_str (pad_cons pd_str (pad_cons pd_str (pad_cons pd_str (pad_cons pd_str (pad_cons pd_str (pad_cons pd_str (pad_cons pd_str pad_nil))))))))))))))) ?_
  refine pssd_cons (psd_asg fx (pd_tup (pad_cons (pd_op (fun _ => op_mod) (pd_op (fun _ => op_fdiv) (pd_var fx 0) pd_int (rd_fdiv (by unfold CDiv; decide))) pd_int (rd_mod (by decide))) (pad_cons (pd_plus pd_int (pd_op (fun _ => op_mod) (pd_var fx 0) pd_int (rd_mod (by decide)))) pad_nil))) (tgd_tup fx .tup (tgsd_cons (tgd_name fx 2) (tgsd_cons (tgd_name fx 3) tgsd_nil)))) ?_
  have e : (namesOf c).map D.str = (List.range (1 + c % 6).toNat).map fun k => D.str (wordAt c k) := by unfold namesOf; rw [List.map_map]; rfl
  rw [e]
  refine pssd_rt (psd_ret (pd_lcA fx [("_law_k", 4)] (List.range (1 + c % 6).toNat) (fun k : Nat => D.int (0 + (k : Int))) (fun k => D.str (wordAt c k)) (pid_range1 fx (pad_cons (pd_var fx 3) pad_nil) Z.b_range (by omega)) (by rw [List.length_range, sizeLine_eq]; omega) fun k hk => ⟨_, _, tgd_name fx.bk 4, fun _ h => h, ?_⟩))
  have hk6 : k < 6 := by rw [List.mem_range] at hk; omega
  have m1 : 0 ≤ (c / 6 % 12 + 5 * (k : Int)) % 12 := Int.emod_nonneg _ (by decide)
  have m2 : (c / 6 % 12 + 5 * (k : Int)) % 12 < 12 := Int.emod_lt_of_pos _ (by decide)
  have m3 : ((c / 6 % 12 + 5 * (k : Int)) % 12).toNat < wordL.length := by show _ < 12; omega
  have ix : atI (wordL.map D.str) ((c / 6 % 12 + 5 * (0 + (k : Int))) % 12) = some (D.str (wordAt c k)) := by
    have e2 : (c / 6 % 12 + 5 * (0 + (k : Int))) % 12 = (((c / 6 % 12 + 5 * (k : Int)) % 12).toNat : Int) := by rw [Int.zero_add, Int.toNat_of_nonneg m1]
    rw [e2]
    refine atI_nat ?_
    rw [List.getElem?_map, List.getElem?_eq_getElem m3]
    unfold wordAt
    rw [List.getD_eq_getElem?_getD, List.getElem?_eq_getElem m3]
    rfl
  exact pd_sub fx.bk (pd_var fx.bk 1) (pd_op (fun _ => op_mod) (pd_plus (pd_var fx.bk 2) (pd_mul pd_int (pd_var fx.bk 4) (.inl (by decide)))) pd_int (rd_mod (by decide))) (.lst .lst ix)
end
end K1
set_option Elab.async false
set_option linter.all false
set_option maxRecDepth 100000
set_option maxHeartbeats 4000000
namespace K1
open PySem PySem.Spec L2 Wd
open PyProof.Rows hiding St
/-! ### the law's sayings: tuples -/
def Say.t : Say → D
  | .at_ n p i => .tup [.str "at", .str n, .str p, .int i]
  | .bes n s o b => .tup [.str "beside", .str n, .str s, .str o, .int b]
  | .alk n p o m => .tup [.str "alike", .str n, .str p, .str o, .int m]
  | .amd n v o u => .tup [.str "amid", .str n, .str v, .str o, .str u]
def Say.wd : Say → Prop
  | .at_ .. => True
  | .bes _ s _ _ => s ∈ sideL
  | .alk .. => True
  | .amd _ v _ _ => v ∈ wayL
def encTm (t : Tm) : D := .tup [.str t.1, .str t.2.1, .int t.2.2]
def PrTerms (ds : List D) (r : Wd.Slot) : Prop := ∃ x : Say, x.wd ∧ ds = [x.t] ∧ r = .sh (.tup [.lst (x.tms.map encTm), .int x.num])
theorem sideRLA {s : Str} (h : s ∈ sideL) : (inV (.str s) [.str "right", .str "left", .str "across"] = true ∧ near s = "left" ∧ far s = "wide") ∨ (inV (.str s) [.str "right", .str "left", .str "across"] = false ∧ near s = "top" ∧ far s = "high") := by
  unfold sideL at h
  simp only [List.mem_cons, List.not_mem_nil, or_false] at h
  rcases h with rfl | rfl | rfl | rfl
  · exact .inl (by decide +kernel)
  · exact .inl (by decide +kernel)
  · exact .inr (by decide +kernel)
  · exact .inr (by decide +kernel)
theorem wayRLA {s : Str} (h : s ∈ wayL) : (inV (.str s) [.str "right", .str "left", .str "across"] = true ∧ nearW s = "left" ∧ farW s = "wide") ∨ (inV (.str s) [.str "right", .str "left", .str "across"] = false ∧ nearW s = "top" ∧ farW s = "high") := by
  unfold wayL at h
  simp only [List.mem_cons, List.not_mem_nil, or_false] at h
  rcases h with rfl | rfl
  · exact .inl (by decide +kernel)
  · exact .inr (by decide +kernel)
section
variable {P : Program} {w : World} {K : PySem.W.Frag} {mg : Str → Option Value} {base : Heap} (Z : Env K mg w)
include Z
theorem ptd_is {ι : Type} {Xs : ι → Cx} {N : List Str} {k : Nat} (fx : Fx Xs P w K mg base N k) {γ : Gm} {a b : Expr} {pos : Pos} {x y : Str} {tv : Bool} (ha : PED K Xs a γ (.sh (.str x))) (hb : PED K Xs b γ (.sh (.str y))) (h : decide (V.str x = V.str y) = tv) (hm : behindInMarks .Eq b = false := by exact nomark _) : PTD K Xs (.Compare a [.Eq] [b] pos) γ tv :=
  ptd_cast h (ptd_eq fx ha hb (.flat rfl rfl rfl) hm)
theorem bi_l_terms : Binds K Z.d_l_terms ["_law_said"] [] := Z.F_l_terms.bindsN fun _ _ _ _ _ _ us hl => match us, hl with | [_], _ => rfl
theorem ok_l_terms : FnOk P w K mg base (L2.CX P w) 1 (He.ga K "_law_terms") Z.d_l_terms ["_law_said"] (spD K PrTerms) := by
  refine fn_data Z.F_l_terms sc_l_terms (fun ds r ⟨x, _, e, _⟩ => (by rw [e]; rfl)) fun cdv A outer s H E fx ds r hp => ?_
  obtain ⟨x, hw, rfl, rfl⟩ := hp
  refine ⟨.rt _, ?_, .rt⟩
  cases x with
  | at_ n p i =>
    exact pssd_ifT (ptd_is Z fx (pd_sub fx (pd_var fx 0) pd_int (.tup .tup rfl)) pd_str (by decide +kernel)) (pssd_rt (psd_ret (pd_tup (pad_cons (PED.share (pd_lst (pad_cons (pd_tup (pad_cons (pd_sub fx (pd_var fx 0) pd_int (.tup .tup rfl)) (pad_cons (pd_sub fx (pd_var fx 0) pd_int (.tup .tup rfl)) (pad_cons pd_int pad_nil)))) pad_nil))) (pad_cons (pd_sub fx (pd_var fx 0) pd_int (.tup .tup rfl)) pad_nil))))) (fun _ z => nomatch z)
  | alk n p o m =>
    refine pssd_ifF (ptd_is Z fx (pd_sub fx (pd_var fx 0) pd_int (.tup .tup rfl)) pd_str (by decide +kernel)) ?_
    exact pssd_ifT (ptd_is Z fx (pd_sub fx (pd_var fx 0) pd_int (.tup .tup rfl)) pd_str (by decide +kernel)) (pssd_rt (psd_ret (pd_tup (pad_cons (PED.share (pd_lst (pad_cons (pd_tup (pad_cons (pd_sub fx (pd_var fx 0) pd_int (.tup .tup rfl)) (pad_cons (pd_sub fx (pd_var fx 0) pd_int (.tup .tup rfl)) (pad_cons pd_int pad_nil)))) (pad_cons (pd_tup (pad_cons (pd_sub fx (pd_var fx 0) pd_int (.tup .tup rfl)) (pad_cons (pd_sub fx (pd_var fx 0) pd_int (.tup .tup rfl)) (pad_cons (pd_neg (pd_sub fx (pd_var fx 0) pd_int (.tup .tup rfl))) pad_nil)))) pad_nil)))) (pad_cons pd_int pad_nil))))) (fun _ z => nomatch z)
  | bes n s o b =>
    have nf := sideRLA hw
    refine pssd_ifF (ptd_is Z fx (pd_sub fx (pd_var fx 0) pd_int (.tup .tup rfl)) pd_str (by decide +kernel)) ?_
    refine pssd_ifF (ptd_is Z fx (pd_sub fx (pd_var fx 0) pd_int (.tup .tup rfl)) pd_str (by decide +kernel)) ?_
    refine pssd_cons (psd_asg fx (d := .tup [.str (near s), .str (far s)]) (pd_if (tv := inV (.str s) [.str "right", .str "left", .str "across"]) (ptd_in fx (pd_sub fx (pd_var fx 0) pd_int (.tup .tup rfl)) (pd_tup (pad_cons pd_str (pad_cons pd_str (pad_cons pd_str pad_nil)))) (.tup .tup rfl rfl))
      (fun h => pd_cast (by rcases nf with ⟨_, e1, e2⟩ | ⟨e0, _⟩ <;> first | rw [e1, e2] | (rw [e0] at h; cases h)) (pd_tup (pad_cons pd_str (pad_cons pd_str pad_nil)))) (fun h => pd_cast (by rcases nf with ⟨e0, _⟩ | ⟨_, e1, e2⟩ <;> first | rw [e1, e2] | (rw [e0] at h; cases h)) (pd_tup (pad_cons pd_str (pad_cons pd_str pad_nil))))) (tgd_tup fx .tup (tgsd_cons (tgd_name fx 1) (tgsd_cons (tgd_name fx 2) tgsd_nil)))) ?_
    refine pssd_ifF (ptd_is Z fx (pd_sub fx (pd_var fx 0) pd_int (.tup .tup rfl)) pd_str (by decide +kernel)) ?_
    refine pssd_ifret (tv := fwd s) (ptd_in fx (pd_sub fx (pd_var fx 0) pd_int (.tup .tup rfl)) (pd_tup (pad_cons pd_str (pad_cons pd_str pad_nil))) (.tup .tup rfl rfl)) (fun h => ?_) (fun h => ?_)
    · have e : (Say.bes n s o b).tms = [(n, near s, 1), (o, near s, -1), (o, far s, -1)] ∧ (Say.bes n s o b).num = b := ⟨show besT n s o = _ by unfold besT; rw [if_pos h], show besN s b = _ by unfold besN; rw [if_pos h]⟩
      rw [e.1, e.2]
      exact pssd_rt (psd_ret (pd_tup (pad_cons (PED.share (pd_lst (pad_cons (pd_tup (pad_cons (pd_sub fx (pd_var fx 0) pd_int (.tup .tup rfl)) (pad_cons (pd_var fx 1) (pad_cons pd_int pad_nil)))) (pad_cons (pd_tup (pad_cons (pd_sub fx (pd_var fx 0) pd_int (.tup .tup rfl)) (pad_cons (pd_var fx 1) (pad_cons (pd_neg pd_int) pad_nil)))) (pad_cons (pd_tup (pad_cons (pd_sub fx (pd_var fx 0) pd_int (.tup .tup rfl)) (pad_cons (pd_var fx 2) (pad_cons (pd_neg pd_int) pad_nil)))) pad_nil))))) (pad_cons (pd_sub fx (pd_var fx 0) pd_int (.tup .tup rfl)) pad_nil))))
    · have e : (Say.bes n s o b).tms = [(n, near s, 1), (n, far s, 1), (o, near s, -1)] ∧ (Say.bes n s o b).num = -b := ⟨show besT n s o = _ by unfold besT; rw [if_neg (by rw [h]; decide)], show besN s b = _ by unfold besN; rw [if_neg (by rw [h]; decide)]⟩
      rw [e.1, e.2]
      exact pssd_rt (psd_ret (pd_tup (pad_cons (PED.share (pd_lst (pad_cons (pd_tup (pad_cons (pd_sub fx (pd_var fx 0) pd_int (.tup .tup rfl)) (pad_cons (pd_var fx 1) (pad_cons pd_int pad_nil)))) (pad_cons (pd_tup (pad_cons (pd_sub fx (pd_var fx 0) pd_int (.tup .tup rfl)) (pad_cons (pd_var fx 2) (pad_cons pd_int pad_nil)))) (pad_cons (pd_tup (pad_cons (pd_sub fx (pd_var fx 0) pd_int (.tup .tup rfl)) (pad_cons (pd_var fx 1) (pad_cons (pd_neg pd_int) pad_nil)))) pad_nil))))) (pad_cons (pd_neg (pd_sub fx (pd_var fx 0) pd_int (.tup .tup rfl))) pad_nil))))
  | amd n v o u =>
    have nf := wayRLA hw
    let l0 : List Tm := [(n, nearW v, 4), (n, farW v, 2)]
    let ls : Nat → List Tm := fun i => if i = 0 then l0 else if i = 1 then l0 ++ [(o, nearW v, -2), (o, farW v, -1)] else amdT n v o u
    refine pssd_ifF (ptd_is Z fx (pd_sub fx (pd_var fx 0) pd_int (.tup .tup rfl)) pd_str (by decide +kernel)) ?_
    refine pssd_ifF (ptd_is Z fx (pd_sub fx (pd_var fx 0) pd_int (.tup .tup rfl)) pd_str (by decide +kernel)) ?_
    refine pssd_cons (psd_asg fx (d := .tup [.str (nearW v), .str (farW v)]) (pd_if (tv := inV (.str v) [.str "right", .str "left", .str "across"]) (ptd_in fx (pd_sub fx (pd_var fx 0) pd_int (.tup .tup rfl)) (pd_tup (pad_cons pd_str (pad_cons pd_str (pad_cons pd_str pad_nil)))) (.tup .tup rfl rfl))
      (fun h => pd_cast (by rcases nf with ⟨_, e1, e2⟩ | ⟨e0, _⟩ <;> first | rw [e1, e2] | (rw [e0] at h; cases h)) (pd_tup (pad_cons pd_str (pad_cons pd_str pad_nil)))) (fun h => pd_cast (by rcases nf with ⟨e0, _⟩ | ⟨_, e1, e2⟩ <;> first | rw [e1, e2] | (rw [e0] at h; cases h)) (pd_tup (pad_cons pd_str (pad_cons pd_str pad_nil))))) (tgd_tup fx .tup (tgsd_cons (tgd_name fx 1) (tgsd_cons (tgd_name fx 2) tgsd_nil)))) ?_
    refine pssd_ifT (ptd_is Z fx (pd_sub fx (pd_var fx 0) pd_int (.tup .tup rfl)) pd_str (by decide +kernel)) ?_ (fun _ z => nomatch z)
    refine pssd_cons (psd_set fx 3 (PED.share (pd_lst (pad_cons (pd_tup (pad_cons (pd_sub fx (pd_var fx 0) pd_int (.tup .tup rfl)) (pad_cons (pd_var fx 1) (pad_cons pd_int pad_nil)))) (pad_cons (pd_tup (pad_cons (pd_sub fx (pd_var fx 0) pd_int (.tup .tup rfl)) (pad_cons (pd_var fx 2) (pad_cons pd_int pad_nil)))) pad_nil))))) ?_
    refine pssd_cons (psd_for fx [o, u] (fun x => D.str x) (fun i => [.sh (Say.amd n v o u).t, .sh (.str (nearW v)), .sh (.str (farW v)), .sh (.lst ((ls i).map encTm)), .un]) (pid_tup fx .tup (pd_slice fx (pd_var fx 0) (pod_some pd_int) pod_none .tup)) (.s (.s (.s (.s (.u .n))))) fun i x hx => ?_) (pssd_rt (psd_ret (pd_tup (pad_cons (pd_var fx 3) (pad_cons pd_int pad_nil)))))
    have facts : (ls i).length ≤ 10 ∧ ls (i + 1) = ls i ++ [(x, nearW v, -2), (x, farW v, -1)] := by
      rcases i with _ | _ | i
      · obtain rfl : o = x := Option.some.inj hx
        exact ⟨Nat.le_of_ble_eq_true rfl, rfl⟩
      · obtain rfl : u = x := Option.some.inj hx
        exact ⟨Nat.le_of_ble_eq_true rfl, rfl⟩
      · simp at hx
    obtain ⟨f1, f2⟩ := facts
    refine ⟨_, _, _, tgd_name fx 4, .inl (pssd_one (psd_set fx 3 (PED.share (pd_op (r := rAddU K) (fun _ => op_addU) (pd_var fx 3) (PED.share (pd_lst (pad_cons (pd_tup (pad_cons (pd_var fx 4) (pad_cons (pd_var fx 1) (pad_cons (pd_neg pd_int) pad_nil)))) (pad_cons (pd_tup (pad_cons (pd_var fx 4) (pad_cons (pd_var fx 2) (pad_cons (pd_neg pd_int) pad_nil)))) pad_nil)))) (rd_add (.lst (by rw [List.length_map, sizeLine_eq]; show _ + 2 ≤ _; omega))))))), ?_⟩
    rw [f2, List.map_append]
    exact .s (.s (.s (.s (.u .n))))
end
end K1
set_option Elab.async false
set_option linter.all false
set_option maxRecDepth 100000
set_option maxHeartbeats 4000000
namespace K1
open PySem PySem.Spec L2 Wd
open PyProof.Rows hiding St
/-! ### what a saying leaves over at the hidden places -/
abbrev Hid : Type := List (Str × List Int)
def encHid (h : Hid) : D := .dk (h.map fun p => ((Sum.inr p.1 : Key), D.lst (p.2.map D.int)))
def hidAt (h : Hid) (n p : Str) : Option Int := (getK h n).bind fun l => l[partIx p]?
def HidOk (h : Hid) (x : Say) : Prop := ∀ t ∈ x.tms, t.2.1 ∈ partL ∧ sm t.2.2 ∧ ∃ v, hidAt h t.1 t.2.1 = some v
def leftOf (h : Hid) (x : Say) : Int := (x.tms.map fun t => t.2.2 * (hidAt h t.1 t.2.1).getD 0).sum - x.num
def PrLeft (ds : List D) (r : Wd.Slot) : Prop := ∃ (d0 : D) (x : Say) (h : Hid), x.wd ∧ HidOk h x ∧ ds = [d0, x.t, encHid h] ∧ r = .sh (.int (leftOf h x))
theorem tms_len (x : Say) : x.tms.length ≤ 6 := by
  cases x with
  | at_ n p i => exact Nat.le_of_ble_eq_true rfl
  | bes n s o b => show (besT n s o).length ≤ 6; unfold besT; split <;> exact Nat.le_of_ble_eq_true rfl
  | alk n p o m => exact Nat.le_of_ble_eq_true rfl
  | amd n v o u => exact Nat.le_of_ble_eq_true rfl
section
variable {P : Program} {w : World} {K : PySem.W.Frag} {mg : Str → Option Value} {base : Heap} (Z : Env K mg w)
include Z
theorem bi_l_left : Binds K Z.d_l_left ["_law_names_here", "_law_said", "_law_hidden"] [] := Z.F_l_left.bindsN fun _ _ _ _ _ _ us hl => match us, hl with | [_, _, _], _ => rfl
theorem ok_l_left : FnOk P w K mg base (L2.CX P w) 2 (He.ga K "_law_left") Z.d_l_left ["_law_names_here", "_law_said", "_law_hidden"] (spD K PrLeft) := by
  refine fn_data Z.F_l_left sc_l_left (fun ds r ⟨d0, x, h, _, _, e, _⟩ => (by rw [e]; rfl)) fun cdv A outer s H E fx ds r hp => ?_
  obtain ⟨d0, x, h, hw, hok, rfl, rfl⟩ := hp
  refine ⟨.rt _, ?_, .rt⟩
  refine pssd_cons (psd_asg fx (pd_call fx (ok_l_terms Z) Z.m_l_terms Z.F_l_terms.kp (bi_l_terms Z) .nil (fun _ => .nil) (pad_cons (pd_var fx 1) pad_nil) ⟨x, hw, rfl, rfl⟩) (tgd_tup fx .tup (tgsd_cons (tgd_name fx 3) (tgsd_cons (tgd_name fx 4) tgsd_nil)))) ?_
  refine pssd_rt (psd_ret (pd_minus (pd_sumC fx [("_law_name", 5), ("_law_part", 6), ("_law_many", 7)] x.tms encTm (fun t => t.2.2 * (hidAt h t.1 t.2.1).getD 0) Z.b_sum (pid_list fx .lst (pd_var fx 3)) (by have := tms_len x; rw [sizeLine_eq]; omega) fun t ht => ⟨_, _, tgd_tup fx.bk .tup (tgsd_cons (tgd_name fx.bk 5) (tgsd_cons (tgd_name fx.bk 6) (tgsd_cons (tgd_name fx.bk 7) tgsd_nil))), fun _ h => h, ?_⟩) (pd_var fx 4)))
  obtain ⟨h1, h2, v, h3⟩ := hok t ht
  obtain ⟨l, hl1, hl2⟩ := Option.bind_eq_some_iff.mp h3
  have e1 : getK (h.map fun p => ((Sum.inr p.1 : Key), D.lst (p.2.map D.int))) (Sum.inr t.1) = some (.lst (l.map D.int)) := (getK_map (κ' := Key) Sum.inr inr_inj (fun v : List Int => D.lst (v.map D.int)) h t.1).trans (by rw [hl1]; rfl)
  have e2 : atI (l.map D.int) (partIx t.2.1 : Nat) = some (.int v) := atI_nat (by rw [List.getElem?_map, hl2]; rfl)
  rw [h3]
  exact pd_mul (pd_var fx.bk 7) (pd_sub fx.bk (pd_sub fx.bk (pd_var fx.bk 2) (pd_var fx.bk 5) (.dks e1)) (pd_index fx.bk (PED.share (pd_call0 fx.bk (ok_l_parts Z) Z.m_l_parts Z.F_l_parts.kp (bi_l_parts Z) .nil (fun _ => .nil) ⟨rfl, rfl⟩)) .lst (pd_var fx.bk 6) (part_first h1)) (.lst .lst e2)) (.inl (sm64 h2))
end
end K1
set_option Elab.async false
set_option linter.all false
set_option maxRecDepth 100000
set_option maxHeartbeats 4000000
namespace K1
open PySem PySem.Spec L2 Wd
open PyProof.Rows hiding St
/-! ### a drawn share; a saying made -/
def botL : List Int := [1, 1, 2, 3, 4, 5, 6, 7]
def shBot (c : Int) : Int := botL.getD (c % 8).toNat 1
def shTop (c : Int) : Int := c / 8 % 41 - 12
def shDiv (c : Int) (n : Nat) : Bool := decide (shTop c % (1 + (n : Int)) = 0) && decide (shBot c % (1 + (n : Int)) = 0)
def shDivs (c : Int) : List Int := ((List.range (shBot c).toNat).filter (shDiv c)).map fun n : Nat => 1 + (n : Int)
def shPart (c : Int) : Int := (shDivs c).foldl max 1
def drawn (c : Int) : Sh := (shTop c / shPart c, shBot c / shPart c)
def PrDrawn (ds : List D) (r : Wd.Slot) : Prop := ∃ c : Int, ds = [.int c] ∧ r = .sh (encSh (drawn c))
theorem shBot_in (c : Int) : 1 ≤ shBot c ∧ shBot c ≤ 7 := by
  have h : ∀ n : Fin 8, 1 ≤ botL.getD n.val 1 ∧ botL.getD n.val 1 ≤ 7 := by decide
  have m1 : 0 ≤ c % 8 := Int.emod_nonneg _ (by decide)
  have m2 : c % 8 < 8 := Int.emod_lt_of_pos _ (by decide)
  exact h ⟨(c % 8).toNat, by omega⟩
theorem fold_max : ∀ (l : List Int) (a : Int), (l.foldl max a = a ∨ l.foldl max a ∈ l) ∧ a ≤ l.foldl max a ∧ ∀ y ∈ l, y ≤ l.foldl max a
  | [], a => ⟨.inl rfl, Int.le_refl _, fun _ h => nomatch h⟩
  | x :: r, a => by
    obtain ⟨h1, h2, h3⟩ := fold_max r (max a x)
    have m1 : a ≤ max a x := Int.le_max_left _ _
    have m2 : x ≤ max a x := Int.le_max_right _ _
    rw [List.foldl_cons]
    refine ⟨?_, Int.le_trans m1 h2, fun y hy => ?_⟩
    · rcases h1 with h1 | h1
      · rw [h1]
        by_cases e : a ≤ x
        · exact .inr (by rw [Int.max_eq_right e]; exact List.mem_cons_self)
        · exact .inl (Int.max_eq_left (by omega))
      · exact .inr (List.mem_cons_of_mem _ h1)
    · rcases List.mem_cons.mp hy with rfl | hy
      · exact Int.le_trans m2 h2
      · exact h3 y hy
theorem one_div (c : Int) : (1 : Int) ∈ shDivs c := by
  obtain ⟨h1, h2⟩ := shBot_in c
  unfold shDivs
  rw [List.mem_map]
  refine ⟨0, List.mem_filter.mpr ⟨List.mem_range.mpr (by omega), ?_⟩, rfl⟩
  unfold shDiv
  rw [show (1 : Int) + ((0 : Nat) : Int) = 1 from rfl, Int.emod_one, Int.emod_one]
  rfl
theorem shPart_in (c : Int) : shPart c ∈ shDivs c ∧ (∀ y ∈ shDivs c, y ≤ shPart c) ∧ 1 ≤ shPart c ∧ shPart c ≤ 7 := by
  obtain ⟨h1, h2, h3⟩ := fold_max (shDivs c) 1
  obtain ⟨b1, b2⟩ := shBot_in c
  have hm : shPart c ∈ shDivs c := by
    rcases h1 with h1 | h1
    · show (shDivs c).foldl max 1 ∈ _
      rw [h1]
      exact one_div c
    · exact h1
  refine ⟨hm, h3, h2, ?_⟩
  unfold shDivs at hm
  obtain ⟨n, hn, e⟩ := List.mem_map.mp hm
  have := List.mem_range.mp (List.mem_filter.mp hn).1
  omega
def PrMade (ds : List D) (r : Wd.Slot) : Prop := ∃ x : Say, x.ok ∧ ds = [x.t] ∧ r = .ow x.d
section
variable {P : Program} {w : World} {K : PySem.W.Frag} {mg : Str → Option Value} {base : Heap} (Z : Env K mg w)
include Z
theorem bi_l_drawn_share : Binds K Z.d_l_drawn_share ["_law_cell"] [] := Z.F_l_drawn_share.bindsN fun _ _ _ _ _ _ us hl => match us, hl with | [_], _ => rfl
theorem ok_l_drawn_share : FnOk P w K mg base (L2.CX P w) 1 (He.ga K "_law_drawn_share") Z.d_l_drawn_share ["_law_cell"] (spD K PrDrawn) := by
  refine fn_data Z.F_l_drawn_share sc_l_drawn_share (fun ds r ⟨c, e, _⟩ => (by rw [e]; rfl)) fun cdv A outer s H E fx ds r hp => ?_
  obtain ⟨c, rfl, rfl⟩ := hp
  refine ⟨.rt _, ?_, .rt⟩
  obtain ⟨b1, b2⟩ := shBot_in c
  obtain ⟨p1, p2, p3, p4⟩ := shPart_in c
  have m1 : 0 ≤ c % 8 := Int.emod_nonneg _ (by decide)
  have m2 : c % 8 < 8 := Int.emod_lt_of_pos _ (by decide)
  have m3 : (c % 8).toNat < botL.length := by show _ < 8; omega
  have ix : atI (botL.map D.int) (c % 8) = some (.int (shBot c)) := by
    have e2 : c % 8 = ((c % 8).toNat : Int) := (Int.toNat_of_nonneg m1).symm
    rw [e2]
    refine atI_nat ?_
    rw [List.getElem?_map, List.getElem?_eq_getElem m3]
    unfold shBot
    rw [List.getD_eq_getElem?_getD, List.getElem?_eq_getElem m3]
    rfl
  refine pssd_cons (psd_set fx 1 (pd_sub fx (PED.share (pd_lst (pad_cons pd_int (pad_cons pd_int (pad_cons pd_int (pad_cons pd_int (pad_cons pd_int (pad_cons pd_int (pad_cons pd_int (pad_cons pd_int pad_nil)))))))))) (pd_op (fun _ => op_mod) (pd_var fx 0) pd_int (rd_mod (by decide))) (.lst .lst ix))) ?_
  refine pssd_cons (psd_set fx 2 (pd_minus (pd_op (fun _ => op_mod) (pd_op (fun _ => op_fdiv) (pd_var fx 0) pd_int (rd_fdiv (by unfold CDiv; decide))) pd_int (rd_mod (by decide))) pd_int)) ?_
  have rm := rc_max (K := K) (d := .lst (((List.range (shBot c).toNat).filter (shDiv c)).map fun n : Nat => D.int (1 + (n : Int)))) (ns := shDivs c) (m := shPart c) (by unfold shDivs; rw [List.map_map]; exact .lst) p1 p2
  have er : (shBot c + 1 - 1).toNat = (shBot c).toNat := by congr 1; omega
  refine pssd_cons (psd_set fx 3 (pd_blt fx (r := rMax K) (fun i => cr_max rfl) Z.b_max (pad_cons (PED.share (pd_lc fx [("_law_k", 4)] (List.range (shBot c).toNat) (fun n : Nat => D.int (1 + (n : Int))) (shDiv c) (fun n : Nat => D.int (1 + (n : Int))) (by rw [← er]; exact pid_range2 fx (pad_cons pd_int (pad_cons (pd_plus (pd_var fx 1) pd_int) pad_nil)) Z.b_range (by omega)) (by rw [List.length_range, sizeLine_eq]; omega) (fun n hn => ⟨_, _, tgd_name fx.bk 4, fun _ h => h, ptsd_one (PWD.t (pwd_and (ptd_cast decV (ptd_eq fx.bk (pd_op (fun _ => op_mod) (pd_var fx.bk 2) (pd_var fx.bk 4) (rd_mod (by omega))) pd_int (.flat rfl rfl rfl))) fun _ => pwd_and1 (ptd_cast decV (ptd_eq fx.bk (pd_op (fun _ => op_mod) (pd_var fx.bk 1) (pd_var fx.bk 4) (rd_mod (by omega))) pd_int (.flat rfl rfl rfl))))), fun _ => pd_var fx.bk 4⟩) (fun _ => blkOk_by rfl))) pad_nil) rm)) ?_
  exact pssd_rt (psd_ret (pd_tup (pad_cons (pd_op (fun _ => op_fdiv) (pd_var fx 2) (pd_var fx 3) (rd_fdiv (by unfold CDiv; omega))) (pad_cons (pd_op (fun _ => op_fdiv) (pd_var fx 1) (pd_var fx 3) (rd_fdiv (by unfold CDiv; omega))) pad_nil))))
end
end K1
set_option Elab.async false
set_option linter.all false
set_option maxRecDepth 100000
set_option maxHeartbeats 4000000
namespace K1
open PySem PySem.Spec L2 Wd
open PyProof.Rows hiding St
/-! ### sayings made, told -/
/-- a saying of unlike names, its side or way known -/
def Say.wf : Say → Prop
  | .at_ .. => True
  | .bes n s o _ => s ∈ sideL ∧ n ≠ o
  | .alk n _ o _ => n ≠ o
  | .amd n v o u => v ∈ wayL ∧ Un3 n o u
theorem Say.ok.wf {x : Say} (h : x.ok) : x.wf := by
  cases x with
  | at_ n p i => trivial
  | bes n s o b =>
    obtain ⟨_, h2, h3, _⟩ := h
    have z := unl_iff h2
    simp at z
    exact ⟨h3, z⟩
  | alk n p o m =>
    obtain ⟨_, h2, _⟩ := h
    have z := unl_iff h2
    simp at z
    exact z
  | amd n v o u =>
    obtain ⟨_, h2, h3⟩ := h
    have z := unl_iff h2
    simp at z
    exact ⟨h3, z.1.1, z.1.2, z.2⟩
def isBes : Say → Bool
  | .bes .. => true
  | _ => false
def Say.told (x : Say) : D := .tup [.lst (x.names.map .str), .tup [.dt (tmK x.tms), .int x.num], .bl (isBes x)]
def PrAs (ds : List D) (r : Wd.Slot) : Prop := ∃ xs : List Say, xs.length ≤ 100 ∧ (∀ x ∈ xs, x.wf) ∧ ∃ d, IsL d (xs.map Say.d) ∧ ds = [d] ∧ r = .ow (.lst (xs.map Say.told))
def PrTold (ds : List D) (r : Wd.Slot) : Prop := ∃ (ns : List Str) (xs : List Say), xs.length ≤ 100 ∧ (∀ x ∈ xs, x.wf) ∧ ds = [.obj "Sheet" (shF ns xs)] ∧ r = .ow (.lst (xs.map Say.told))
section
variable {P : Program} {w : World} {K : PySem.W.Frag} {mg : Str → Option Value} {base : Heap} (Z : Env K mg w)
include Z
theorem bi_Beside_init : Binds K Z.d_Beside_init ["self", "name", "side", "other", "by"] [] := by
  obtain ⟨ds, h1, h2⟩ := Z.F_Beside_init.binds1 (ps := ["self", "name", "side", "other", "by"]) 5 1 (fun z => nomatch z) rfl fun T kV doc pm an cdv ct us its h1 h2 => match us, its, h1, h2 with
    | [_, _, _, _, _], [_], _, _ => ⟨_, rfl, rfl⟩
  cases h1
  exact h2
theorem bi_Alike_init : Binds K Z.d_Alike_init ["self", "name", "part", "other", "times"] [] := by
  obtain ⟨ds, h1, h2⟩ := Z.F_Alike_init.binds1 (ps := ["self", "name", "part", "other", "times"]) 5 1 (fun z => nomatch z) rfl fun T kV doc pm an cdv ct us its h1 h2 => match us, its, h1, h2 with
    | [_, _, _, _, _], [_], _, _ => ⟨_, rfl, rfl⟩
  cases h1
  exact h2
theorem bi_l_made : Binds K Z.d_l_made ["_law_said"] [] := Z.F_l_made.bindsN fun _ _ _ _ _ _ us hl => match us, hl with | [_], _ => rfl
theorem ok_l_made : FnOk P w K mg base (L2.CX P w) 6 (He.ga K "_law_made") Z.d_l_made ["_law_said"] (spD K PrMade) := by
  refine fn_data Z.F_l_made sc_l_made (fun ds r ⟨x, _, e, _⟩ => (by rw [e]; rfl)) fun cdv A outer s H E fx ds r hp => ?_
  obtain ⟨x, hw, rfl, rfl⟩ := hp
  refine ⟨.rt _, ?_, .rt⟩
  cases x with
  | at_ n p i => exact pssd_ifT (ptd_is Z fx (pd_sub fx (pd_var fx 0) pd_int (.tup .tup rfl)) pd_str (by decide +kernel)) (pssd_rt (psd_ret (pd_make fx Z.M_At_init (ok_At_init Z) Z.m_At (bi_At_init Z) .nil (fun _ => .nil) (pad_cons (pd_sub fx (pd_var fx 0) pd_int (.tup .tup rfl)) (pad_cons (pd_sub fx (pd_var fx 0) pd_int (.tup .tup rfl)) (pad_cons (pd_sub fx (pd_var fx 0) pd_int (.tup .tup rfl)) pad_nil))) ⟨n, p, i, hw, rfl, rfl⟩))) (fun _ z => nomatch z)
  | bes n s o b =>
    refine pssd_ifF (ptd_is Z fx (pd_sub fx (pd_var fx 0) pd_int (.tup .tup rfl)) pd_str (by decide +kernel)) ?_
    exact pssd_ifT (ptd_is Z fx (pd_sub fx (pd_var fx 0) pd_int (.tup .tup rfl)) pd_str (by decide +kernel)) (pssd_rt (psd_ret (pd_make fx Z.M_Beside_init (ok_Beside_init Z) Z.m_Beside (bi_Beside_init Z) .nil (fun _ => .nil) (pad_cons (pd_sub fx (pd_var fx 0) pd_int (.tup .tup rfl)) (pad_cons (pd_sub fx (pd_var fx 0) pd_int (.tup .tup rfl)) (pad_cons (pd_sub fx (pd_var fx 0) pd_int (.tup .tup rfl)) (pad_cons (pd_sub fx (pd_var fx 0) pd_int (.tup .tup rfl)) pad_nil)))) ⟨n, s, o, b, hw, rfl, rfl⟩))) (fun _ z => nomatch z)
  | alk n p o m =>
    refine pssd_ifF (ptd_is Z fx (pd_sub fx (pd_var fx 0) pd_int (.tup .tup rfl)) pd_str (by decide +kernel)) ?_
    refine pssd_ifF (ptd_is Z fx (pd_sub fx (pd_var fx 0) pd_int (.tup .tup rfl)) pd_str (by decide +kernel)) ?_
    exact pssd_ifT (ptd_is Z fx (pd_sub fx (pd_var fx 0) pd_int (.tup .tup rfl)) pd_str (by decide +kernel)) (pssd_rt (psd_ret (pd_make fx Z.M_Alike_init (ok_Alike_init Z) Z.m_Alike (bi_Alike_init Z) .nil (fun _ => .nil) (pad_cons (pd_sub fx (pd_var fx 0) pd_int (.tup .tup rfl)) (pad_cons (pd_sub fx (pd_var fx 0) pd_int (.tup .tup rfl)) (pad_cons (pd_sub fx (pd_var fx 0) pd_int (.tup .tup rfl)) (pad_cons (pd_sub fx (pd_var fx 0) pd_int (.tup .tup rfl)) pad_nil)))) ⟨n, p, o, m, hw, rfl, rfl⟩))) (fun _ z => nomatch z)
  | amd n v o u =>
    refine pssd_ifF (ptd_is Z fx (pd_sub fx (pd_var fx 0) pd_int (.tup .tup rfl)) pd_str (by decide +kernel)) ?_
    refine pssd_ifF (ptd_is Z fx (pd_sub fx (pd_var fx 0) pd_int (.tup .tup rfl)) pd_str (by decide +kernel)) ?_
    refine pssd_ifF (ptd_is Z fx (pd_sub fx (pd_var fx 0) pd_int (.tup .tup rfl)) pd_str (by decide +kernel)) ?_
    exact pssd_rt (psd_ret (pd_make fx Z.M_Amid_init (ok_Amid_init Z) Z.m_Amid (bi_Amid_init Z) .nil (fun _ => .nil) (pad_cons (pd_sub fx (pd_var fx 0) pd_int (.tup .tup rfl)) (pad_cons (pd_sub fx (pd_var fx 0) pd_int (.tup .tup rfl)) (pad_cons (pd_sub fx (pd_var fx 0) pd_int (.tup .tup rfl)) (pad_cons (pd_sub fx (pd_var fx 0) pd_int (.tup .tup rfl)) pad_nil)))) ⟨n, v, o, u, hw, rfl, rfl⟩))
/-- x.adds() of any saying -/
theorem pd_sayAdds {ι : Type} {Xs : ι → Cx} {N : List Str} {k : Nat} (fx : Fx Xs P w K mg base N k) {γ : Gm} {o : Expr} {pos apos : Pos} {pl : ι → Sem Bool} (x : Say) (hx : x.wf) (ho : PED K Xs o γ (.sh x.d)) (hk : 1 ≤ k)
    (ht : ∀ i, eval (.Call (.Attribute o "adds" apos) [] [] pos) (Xs i).env = (do
      let ov ← eval o (Xs i).env
      standAt apos.atName
      let (f, first) ← holding [ov] (getMethod ov "adds" (pl i))
      callWith pos f first (backTo pos (starEach [] (Xs i).env)) (backToKw pos (keywordEach [] (Xs i).env))) := by exact fun _ => rfl) : PED K Xs (.Call (.Attribute o "adds" apos) [] [] pos) γ (.tw (tmK x.tms) (.int x.num)) := by
  cases x with
  | at_ n p i => exact pd_meth0 fx ho Z.c_At Z.M_At_adds (ok_At_adds Z) (bi_At_adds Z) .nil (fun _ => .nil) rfl ⟨n, p, i, rfl, rfl⟩ hk ht
  | bes n s o b => exact pd_meth0 fx ho Z.c_Beside Z.M_Beside_adds (ok_Beside_adds Z) (bi_Beside_adds Z) .nil (fun _ => .nil) rfl ⟨n, s, o, b, hx.1, hx.2, rfl, rfl⟩ hk ht
  | alk n p o m => exact pd_meth0 fx ho Z.c_Alike Z.M_Alike_adds (ok_Alike_adds Z) (bi_Alike_adds Z) .nil (fun _ => .nil) rfl ⟨n, p, o, m, hx, rfl, rfl⟩ hk ht
  | amd n v o u => exact pd_meth0 fx ho Z.c_Amid Z.M_Amid_adds (ok_Amid_adds Z) (bi_Amid_adds Z) .nil (fun _ => .nil) rfl ⟨n, v, o, u, hx.1, hx.2, rfl, rfl⟩ hk ht
theorem isi_bes (x : Say) : IsiD K x.d (.cls "Beside") (isBes x) := by
  cases x with
  | at_ n p i => exact .one (.own Z.o_At) rfl Z.kt_At_Beside
  | bes n s o b => exact .one (.own Z.o_Beside) rfl Z.kt_Beside_Beside
  | alk n p o m => exact .one (.own Z.o_Alike) rfl Z.kt_Alike_Beside
  | amd n v o u => exact .one (.own Z.o_Amid) rfl Z.kt_Amid_Beside
theorem bi_l_as : Binds K Z.d_l_as ["_law_sayings"] [] := Z.F_l_as.bindsN fun _ _ _ _ _ _ us hl => match us, hl with | [_], _ => rfl
theorem bi_l_told : Binds K Z.d_l_told ["_law_sheet_here"] [] := Z.F_l_told.bindsN fun _ _ _ _ _ _ us hl => match us, hl with | [_], _ => rfl
theorem ok_l_as : FnOk P w K mg base (L2.CX P w) 2 (He.ga K "_law_as") Z.d_l_as ["_law_sayings"] (spD K PrAs) := by
  refine fn_data Z.F_l_as sc_l_as (fun ds r ⟨x, _, _, d, _, e, _⟩ => (by rw [e]; rfl)) fun cdv A outer s H E fx ds r hp => ?_
  obtain ⟨xs, hn, hw, d, hd, rfl, rfl⟩ := hp
  exact ⟨.rt _, pssd_rt (psd_ret (pd_lcA fx [("_law_saying_here", 1)] xs Say.d Say.told (pid_list fx hd (pd_var fx 0)) (by rw [sizeLine_eq]; omega) fun x hx => ⟨_, _, tgd_name fx.bk 1, fun _ h => h, pd_tup (pad_cons (PED.share (pd_sayNames Z fx.bk x (pd_var fx.bk 1) (Nat.le_refl _))) (pad_cons (PED.shareT (pd_sayAdds Z fx.bk x (hw x hx) (pd_var fx.bk 1) (Nat.le_refl _))) (pad_cons (pd_isi fx.bk (pad_cons (pd_var fx.bk 1) (pad_cons (pd_globR fx.bk Z.m_Beside (dat_cls Z "Beside")) pad_nil)) Z.b_isinstance (isi_bes Z x)) pad_nil)))⟩)), .rt⟩
theorem ok_l_told : FnOk P w K mg base (L2.CX P w) 3 (He.ga K "_law_told") Z.d_l_told ["_law_sheet_here"] (spD K PrTold) := by
  refine fn_data Z.F_l_told sc_l_told (fun ds r ⟨n, x, _, _, e, _⟩ => (by rw [e]; rfl)) fun cdv A outer s H E fx ds r hp => ?_
  obtain ⟨ns, xs, hn, hw, rfl, rfl⟩ := hp
  exact ⟨.rt _, pssd_rt (psd_ret (pd_call fx (ok_l_as Z) Z.m_l_as Z.F_l_as.kp (bi_l_as Z) .nil (fun _ => .nil) (pad_cons (PED.share (pd_meth0 fx (pd_var fx 0) Z.c_Sheet Z.M_Sheet_sayings (ok_Sheet_sayings Z) (bi_Sheet_sayings Z) .nil (fun _ => .nil) rfl ⟨ns, xs, rfl, rfl⟩)) pad_nil) ⟨xs, hn, hw, _, .lst, rfl, rfl⟩)), .rt⟩
end
end K1
set_option Elab.async false
set_option linter.all false
set_option maxRecDepth 100000
set_option maxHeartbeats 4000000
namespace K1
open PySem PySem.Spec L2 Wd
open PyProof.Rows hiding St
/-! ### a saying drawn -/
def dgB : List Int := [4, 6, 6, 6, 4, 4, 9, 8]
def dg (c : Int) : Nat → Int
  | 0 => mixed c % 4
  | 1 => mixed c / 4 % 6
  | 2 => mixed c / 4 / 6 % 6
  | 3 => mixed c / 4 / 6 / 6 % 6
  | 4 => mixed c / 4 / 6 / 6 / 6 % 4
  | 5 => mixed c / 4 / 6 / 6 / 6 / 4 % 4
  | 6 => mixed c / 4 / 6 / 6 / 6 / 4 / 4 % 9
  | _ => mixed c / 4 / 6 / 6 / 6 / 4 / 4 / 9 % 8
theorem digs_eq (c : Int) : digs c dgB = [dg c 0, dg c 1, dg c 2, dg c 3, dg c 4, dg c 5, dg c 6, dg c 7] := rfl
theorem md (a b : Int) (h : 0 < b) : 0 ≤ a % b ∧ a % b < b := ⟨Int.emod_nonneg _ (by omega), Int.emod_lt_of_pos _ h⟩
def pick {α : Type} (l : List α) (d : Int) (x : α) : α := l.getD (d % (l.length : Int)).toNat x
def oneOf (c : Int) (ns : List Str) : Str := pick ns (dg c 1) Str.empty
def othersOf (c : Int) (ns : List Str) : List Str := ns.filter fun x => !decide (V.str x = V.str (oneOf c ns))
def kindOf (c : Int) (ns : List Str) : Int := if othersOf c ns ≠ [] then dg c 0 else 0
def partOf (c : Int) : Str := partL.getD (dg c 4).toNat Str.empty
def spoilOf (c : Int) : Int := if dg c 7 = 7 then 1 else 0
def firstOf (c : Int) (ns : List Str) : Str := pick (othersOf c ns) (dg c 2) Str.empty
def restOf (c : Int) (ns : List Str) : List Str := (othersOf c ns).filter fun x => !decide (V.str x = V.str (firstOf c ns))
def amidOf (c : Int) (ns : List Str) : Say := .amd (oneOf c ns) (wayL.getD (dg c 4 % 2).toNat Str.empty) (firstOf c ns) (pick (restOf c ns) (dg c 3) Str.empty)
def sideOf (c : Int) : Str := sideL.getD (dg c 5).toNat Str.empty
def manyL (c : Int) : List Int := [1 + dg c 6, 1, 2]
def alikeOf (c : Int) (ns : List Str) (m : Int) : Say := .alk (oneOf c ns) (partOf c) (firstOf c ns) m
def alikeHit (c : Int) (ns : List Str) (h : Hid) (m : Int) : Bool := decide (spoilOf c = 1) || decide (leftOf h (alikeOf c ns m) = 0)
def sayOf (c : Int) (ns : List Str) (h : Hid) : Say :=
  if kindOf c ns = 3 ∧ 1 < (othersOf c ns).length ∧ (spoilOf c = 1 ∨ leftOf h (amidOf c ns) = 0) then amidOf c ns
  else if kindOf c ns = 1 ∨ kindOf c ns = 3 then .bes (oneOf c ns) (sideOf c) (firstOf c ns) (byL (sideOf c) (leftOf h (.bes (oneOf c ns) (sideOf c) (firstOf c ns) 0)) + spoilOf c)
  else match (if kindOf c ns = 2 then (manyL c).find? (alikeHit c ns h) else none) with
    | some m => alikeOf c ns m
    | none => .at_ (oneOf c ns) (partOf c) ((hidAt h (oneOf c ns) (partOf c)).getD 0 + spoilOf c)
def HidFull (ns : List Str) (h : Hid) : Prop := ∀ n ∈ ns, ∃ l, getK h n = some l ∧ l.length = 4 ∧ ∀ v ∈ l, 0 ≤ v ∧ v < 12
def PrSay (ds : List D) (r : Wd.Slot) : Prop := ∃ (c : Int) (ns : List Str) (h : Hid), (1 ≤ ns.length ∧ ns.length ≤ 6 ∧ ns.Nodup) ∧ HidFull ns h ∧ ds = [.int c, .lst (ns.map .str), encHid h] ∧ r = .sh (sayOf c ns h).t
theorem pick_mem {α : Type} {l : List α} (d : Int) (x : α) (h : l ≠ []) : pick l d x ∈ l ∧ l[(d % (l.length : Int)).toNat]? = some (pick l d x) := by
  have h1 : 0 < l.length := List.length_pos_iff.mpr h
  obtain ⟨a, b⟩ := md d l.length (by omega)
  have h2 : (d % (l.length : Int)).toNat < l.length := by omega
  unfold pick
  rw [List.getD_eq_getElem?_getD, List.getElem?_eq_getElem h2]
  exact ⟨List.getElem_mem h2, rfl⟩
theorem pick_at {l : List Str} {f : Str → D} (d : Int) (h : l ≠ []) : atI (l.map f) (d % ((l.map f).length : Nat)) = some (f (pick l d Str.empty)) := by
  have h1 : 0 < l.length := List.length_pos_iff.mpr h
  obtain ⟨a, b⟩ := md d l.length (by omega)
  rw [List.length_map, show d % (l.length : Int) = ((d % (l.length : Int)).toNat : Int) from (Int.toNat_of_nonneg a).symm]
  exact atI_nat (by rw [List.getElem?_map, (pick_mem d Str.empty h).2]; rfl)
theorem eqv_nil (O : List Str) : PyData.eqv (.list (O.map PyData.str)) (.list []) = decide (O = []) := by
  cases O with
  | nil => rfl
  | cons x r => rfl
theorem partOf_in (c : Int) : partOf c ∈ partL ∧ atI (partL.map D.str) (dg c 4) = some (.str (partOf c)) := by
  obtain ⟨a, b⟩ := md (mixed c / 4 / 6 / 6 / 6) 4 (by decide)
  have a' : 0 ≤ dg c 4 := a
  have b' : dg c 4 < 4 := b
  have h2 : (dg c 4).toNat < partL.length := by show _ < 4; omega
  have e : partL[(dg c 4).toNat]? = some (partOf c) := by unfold partOf; rw [List.getD_eq_getElem?_getD, List.getElem?_eq_getElem h2]; rfl
  refine ⟨List.mem_of_getElem? e, ?_⟩
  have e2 : atI (partL.map D.str) (((dg c 4).toNat : Nat) : Int) = some (.str (partOf c)) := atI_nat (by rw [List.getElem?_map, e]; rfl)
  rw [Int.toNat_of_nonneg a'] at e2
  exact e2
theorem hidAt_in {ns : List Str} {h : Hid} (hf : HidFull ns h) {n p : Str} (hn : n ∈ ns) (hp : p ∈ partL) : ∃ v, hidAt h n p = some v ∧ 0 ≤ v ∧ v < 12 := by
  obtain ⟨l, h1, h2, h3⟩ := hf n hn
  have hi : partIx p < l.length := by
    rw [h2]
    unfold partL at hp
    simp only [List.mem_cons, List.not_mem_nil, or_false] at hp
    rcases hp with rfl | rfl | rfl | rfl <;> decide +kernel
  exact ⟨l[partIx p], by unfold hidAt; rw [h1]; show l[partIx p]? = _; exact List.getElem?_eq_getElem hi, h3 _ (List.getElem_mem hi)⟩
theorem nearW_in (v : Str) : nearW v ∈ partL ∧ farW v ∈ partL := by
  unfold nearW farW
  split <;> decide +kernel
theorem near_in (v : Str) : near v ∈ partL ∧ far v ∈ partL := by
  unfold near far
  split <;> decide +kernel
theorem hidOk_of {ns : List Str} {h : Hid} (hf : HidFull ns h) {x : Say} (hx : ∀ t ∈ x.tms, t.1 ∈ ns ∧ t.2.1 ∈ partL ∧ sm t.2.2) : HidOk h x := fun t ht => by
  obtain ⟨h1, h2, h3⟩ := hx t ht
  obtain ⟨v, hv, _⟩ := hidAt_in hf h1 h2
  exact ⟨h2, h3, v, hv⟩
theorem amd_ok {ns : List Str} {h : Hid} (hf : HidFull ns h) {n v o u : Str} (h1 : n ∈ ns) (h2 : o ∈ ns) (h3 : u ∈ ns) : HidOk h (.amd n v o u) := hidOk_of hf fun t ht => by
  obtain ⟨a, b⟩ := nearW_in v
  have ht' : t ∈ amdT n v o u := ht
  unfold amdT at ht'
  simp only [List.mem_cons, List.not_mem_nil, or_false] at ht'
  rcases ht' with rfl | rfl | rfl | rfl | rfl | rfl <;> exact ⟨by assumption, by assumption, by unfold sm; dsimp only; decide⟩
theorem bes_ok {ns : List Str} {h : Hid} (hf : HidFull ns h) {n s o : Str} {i : Int} (h1 : n ∈ ns) (h2 : o ∈ ns) : HidOk h (.bes n s o i) := hidOk_of hf fun t ht => by
  obtain ⟨a, b⟩ := near_in s
  have ht' : t ∈ besT n s o := ht
  unfold besT at ht'
  split at ht'
  · simp only [List.mem_cons, List.not_mem_nil, or_false] at ht'
    rcases ht' with rfl | rfl | rfl <;> exact ⟨by assumption, by assumption, by unfold sm; dsimp only; decide⟩
  · simp only [List.mem_cons, List.not_mem_nil, or_false] at ht'
    rcases ht' with rfl | rfl | rfl <;> exact ⟨by assumption, by assumption, by unfold sm; dsimp only; decide⟩
theorem alk_ok {ns : List Str} {h : Hid} (hf : HidFull ns h) {n p o : Str} {m : Int} (h1 : n ∈ ns) (h2 : o ∈ ns) (hp : p ∈ partL) (hm : 1 ≤ m ∧ m ≤ 9) : HidOk h (.alk n p o m) := hidOk_of hf fun t ht => by
  have ht' : t ∈ alkT n p o m := ht
  unfold alkT at ht'
  simp only [List.mem_cons, List.not_mem_nil, or_false] at ht'
  rcases ht' with rfl | rfl
  · exact ⟨h1, hp, by unfold sm; dsimp only; decide⟩
  · exact ⟨h2, hp, by unfold sm; show _ < -m ∧ -m < _; omega⟩
theorem oneOf_in {c : Int} {ns : List Str} (h : ns ≠ []) : oneOf c ns ∈ ns := (pick_mem (dg c 1) Str.empty h).1
theorem one_at {c : Int} {ns : List Str} (h : ns ≠ []) : atI (ns.map D.str) (dg c 1 % ((ns.map D.str).length : Nat)) = some (.str (oneOf c ns)) := pick_at (dg c 1) h
theorem others_in {c : Int} {ns : List Str} {x : Str} (h : x ∈ othersOf c ns) : x ∈ ns ∧ x ≠ oneOf c ns := by
  obtain ⟨a, b⟩ := List.mem_filter.mp h
  exact ⟨a, fun z => by rw [z] at b; simp at b⟩
theorem rest_in {c : Int} {ns : List Str} {x : Str} (h : x ∈ restOf c ns) : x ∈ othersOf c ns ∧ x ≠ firstOf c ns := by
  obtain ⟨a, b⟩ := List.mem_filter.mp h
  exact ⟨a, fun z => by rw [z] at b; simp at b⟩
theorem rest_ne {c : Int} {ns : List Str} (hn : ns.Nodup) (h : 1 < (othersOf c ns).length) : restOf c ns ≠ [] := fun z => by
  have nd : (othersOf c ns).Nodup := hn.filter _
  have all : ∀ x ∈ othersOf c ns, x = firstOf c ns := fun x hx => by
    by_cases e : x = firstOf c ns
    · exact e
    · have : x ∈ restOf c ns := List.mem_filter.mpr ⟨hx, by simpa using e⟩
      rw [z] at this
      cases this
  match q : othersOf c ns, h, nd, all with
  | a :: b :: r, _, nd, all =>
    have e1 := all a List.mem_cons_self
    have e2 := all b (List.mem_cons_of_mem _ List.mem_cons_self)
    rw [List.nodup_cons] at nd
    exact nd.1 (by rw [e1, ← e2]; exact List.mem_cons_self)
theorem way_at (c : Int) : wayL.getD (dg c 4 % 2).toNat Str.empty ∈ wayL ∧ atI (wayL.map D.str) (dg c 4 % 2) = some (.str (wayL.getD (dg c 4 % 2).toNat Str.empty)) := by
  obtain ⟨a, b⟩ := md (dg c 4) 2 (by decide)
  have h2 : (dg c 4 % 2).toNat < wayL.length := by show _ < 2; omega
  have e : wayL[(dg c 4 % 2).toNat]? = some (wayL.getD (dg c 4 % 2).toNat Str.empty) := by rw [List.getD_eq_getElem?_getD, List.getElem?_eq_getElem h2]; rfl
  refine ⟨List.mem_of_getElem? e, ?_⟩
  have e2 : atI (wayL.map D.str) (((dg c 4 % 2).toNat : Nat) : Int) = some (.str (wayL.getD (dg c 4 % 2).toNat Str.empty)) := atI_nat (by rw [List.getElem?_map, e]; rfl)
  rw [Int.toNat_of_nonneg a] at e2
  exact e2
def gW (c : Int) (ns : List Str) (h : Hid) (a : Wd.Slot) : Gm := [.sh (.int c), .sh (.lst (ns.map .str)), .sh (encHid h), .sh (.lst ((digs c dgB).map .int)), .sh (.str (oneOf c ns)), .sh (.lst ((othersOf c ns).map .str)), .un, .sh (.int (kindOf c ns)), .sh (.str (partOf c)), .sh (.int (spoilOf c)), .un, .un, a, .un, .un]
theorem dI (c : Int) (i : Nat) (hi : i < 8) : atI ((digs c dgB).map D.int) (i : Int) = some (D.int (dg c i)) := atI_nat (by rw [digs_eq]; match i, hi with | 0, _ => rfl | 1, _ => rfl | 2, _ => rfl | 3, _ => rfl | 4, _ => rfl | 5, _ => rfl | 6, _ => rfl | 7, _ => rfl)
theorem sideOf_in (c : Int) : sideOf c ∈ sideL ∧ atI (sideL.map D.str) (dg c 5) = some (.str (sideOf c)) := by
  obtain ⟨a, b⟩ := md (mixed c / 4 / 6 / 6 / 6 / 4) 4 (by decide)
  have a' : 0 ≤ dg c 5 := a
  have b' : dg c 5 < 4 := b
  have h2 : (dg c 5).toNat < sideL.length := by show _ < 4; omega
  have e : sideL[(dg c 5).toNat]? = some (sideOf c) := by unfold sideOf; rw [List.getD_eq_getElem?_getD, List.getElem?_eq_getElem h2]; rfl
  refine ⟨List.mem_of_getElem? e, ?_⟩
  have e2 : atI (sideL.map D.str) (((dg c 5).toNat : Nat) : Int) = some (.str (sideOf c)) := atI_nat (by rw [List.getElem?_map, e]; rfl)
  rw [Int.toNat_of_nonneg a'] at e2
  exact e2
theorem first_at {c : Int} {ns : List Str} (h : othersOf c ns ≠ []) : atI ((othersOf c ns).map D.str) (dg c 2 % (((othersOf c ns).map D.str).length : Nat)) = some (.str (firstOf c ns)) := pick_at (dg c 2) h
theorem kind_nil {c : Int} {ns : List Str} (h : othersOf c ns = []) : kindOf c ns = 0 := by unfold kindOf; rw [if_neg (by simpa using h)]
theorem first_in {c : Int} {ns : List Str} (h : othersOf c ns ≠ []) : firstOf c ns ∈ othersOf c ns := (pick_mem (dg c 2) Str.empty h).1
theorem oth_len {c : Int} {ns : List Str} (h : othersOf c ns ≠ []) : (0 : Int) < (((othersOf c ns).map D.str).length : Nat) := by rw [List.length_map]; exact Int.natCast_pos.mpr (List.length_pos_iff.mpr h)
theorem many_in {c m : Int} (h : m ∈ manyL c) : 1 ≤ m ∧ m ≤ 9 := by
  obtain ⟨a, b⟩ := md (mixed c / 4 / 6 / 6 / 6 / 4 / 4) 9 (by decide)
  have a' : 0 ≤ dg c 6 := a
  have b' : dg c 6 < 9 := b
  unfold manyL at h
  simp only [List.mem_cons, List.not_mem_nil, or_false] at h
  omega
theorem hid_val {ns : List Str} {h : Hid} (hf : HidFull ns h) {c : Int} (hne : ns ≠ []) : ∃ l : List Int, getK (h.map fun p => ((Sum.inr p.1 : Key), D.lst (p.2.map D.int))) (Sum.inr (oneOf c ns)) = some (.lst (l.map D.int)) ∧ atI (l.map D.int) (partIx (partOf c) : Nat) = some (.int ((hidAt h (oneOf c ns) (partOf c)).getD 0)) := by
  obtain ⟨v, h3, _⟩ := hidAt_in hf (oneOf_in hne) (partOf_in c).1
  obtain ⟨l, hl1, hl2⟩ := Option.bind_eq_some_iff.mp h3
  refine ⟨l, (getK_map (κ' := Key) Sum.inr inr_inj (fun v : List Int => D.lst (v.map D.int)) h _).trans (by rw [hl1]; rfl), ?_⟩
  rw [h3]
  exact atI_nat (by rw [List.getElem?_map, hl2]; rfl)
theorem oth_eq (c : Int) (ns : List Str) : (ns.filter fun x => !decide (V.str x = V.str (oneOf c ns))) = othersOf c ns := rfl
theorem rest_eq (c : Int) (ns : List Str) : ((othersOf c ns).filter fun x => !decide (V.str x = V.str (firstOf c ns))) = restOf c ns := rfl
theorem kind_eq (c : Int) (ns : List Str) : kindOf c ns = if othersOf c ns ≠ [] then dg c 0 else 0 := rfl
theorem spoil_eq (c : Int) : spoilOf c = if dg c 7 = 7 then 1 else 0 := rfl
theorem rest_at {c : Int} {ns : List Str} (h : restOf c ns ≠ []) : atI ((restOf c ns).map D.str) (dg c 3 % (((restOf c ns).map D.str).length : Nat)) = some (.str (pick (restOf c ns) (dg c 3) Str.empty)) := pick_at (dg c 3) h
theorem rest_len {c : Int} {ns : List Str} (h : restOf c ns ≠ []) : (0 : Int) < (((restOf c ns).map D.str).length : Nat) := by rw [List.length_map]; exact Int.natCast_pos.mpr (List.length_pos_iff.mpr h)
theorem oth_le {c : Int} {ns : List Str} (h : ns.length ≤ 6) : (othersOf c ns).length ≤ 6 := Nat.le_trans (List.length_filter_le _ _) h
theorem pick_rest_in {c : Int} {ns : List Str} (h : restOf c ns ≠ []) : pick (restOf c ns) (dg c 3) Str.empty ∈ ns := (others_in (rest_in (pick_mem (dg c 3) Str.empty h).1).1).1
theorem in13 (k : Int) : inV (.int k) [.int 1, .int 3] = decide (k = 1 ∨ k = 3) := by
  unfold inV
  by_cases h : k = 1
  · subst h; decide +kernel
  · by_cases g : k = 3
    · subst g; decide +kernel
    · rw [decide_eq_false (by omega)]
      have a : eqV (.int 1) (.int k) = false := beq_eq_false_iff_ne.mpr fun z => h (Eq.symm z)
      have b : eqV (.int 3) (.int k) = false := beq_eq_false_iff_ne.mpr fun z => g (Eq.symm z)
      simp [a, b]
section
variable {P : Program} {w : World} {K : PySem.W.Frag} {mg : Str → Option Value} {base : Heap} (Z : Env K mg w)
include Z
omit Z in
theorem ptd_cast2 {ι : Type} {Xs : ι → Cx} {γ : Gm} {e : Expr} {tv tw : Bool} (h : tv = tw) (p : PWD K Xs e γ tv) : PWD K Xs e γ tw := h ▸ p
theorem bi_l_saying : Binds K Z.d_l_saying ["_law_cell", "_law_names_here", "_law_hidden"] [] := Z.F_l_saying.bindsN fun _ _ _ _ _ _ us hl => match us, hl with | [_, _, _], _ => rfl
end
end K1
set_option Elab.async false
set_option linter.all false
set_option maxRecDepth 100000
set_option maxHeartbeats 4000000
namespace K1
open PySem PySem.Spec L2 Wd
open PyProof.Rows hiding St
section
variable {P : Program} {w : World} {K : PySem.W.Frag} {mg : Str → Option Value} {base : Heap} (Z : Env K mg w)
include Z
theorem saying_tail (cdv : Value) (A : Around) (outer : List PySem.Env) (s : Shared) (H : Hp) (E : XK) (fx : Fx (bodyX P w K mg base N_l_saying "_law_saying" (defScope s_l_saying) (He.ga K "_law_saying") cdv A outer s H E) P w K mg base N_l_saying 2)
    (c : Int) (ns : List Str) (h : Hid) (hne : ns ≠ []) (n2 : ns.length ≤ 6) (hf : HidFull ns h) (hA : ¬ (kindOf c ns = 3 ∧ 1 < (othersOf c ns).length ∧ (spoilOf c = 1 ∨ leftOf h (amidOf c ns) = 0))) :
    PSsD K (bodyX P w K mg base N_l_saying "_law_saying" (defScope s_l_saying) (He.ga K "_law_saying") cdv A outer s H E) ((defBody s_l_saying).drop 6) (gW c ns h .un) (.rt (.sh (sayOf c ns h).t)) := by
  have one := oneOf_in (c := c) hne
  have atB : ∀ a, PSsD K (bodyX P w K mg base N_l_saying "_law_saying" (defScope s_l_saying) (He.ga K "_law_saying") cdv A outer s H E) ((defBody s_l_saying).drop 8) (gW c ns h a) (.rt (.sh (Say.at_ (oneOf c ns) (partOf c) ((hidAt h (oneOf c ns) (partOf c)).getD 0 + spoilOf c)).t)) := fun a => by
    obtain ⟨l, e1, e2⟩ := hid_val (c := c) hf hne
    exact pssd_rt (psd_ret (pd_tup (pad_cons pd_str (pad_cons (pd_var fx 4) (pad_cons (pd_var fx 8) (pad_cons (pd_plus (pd_sub fx (pd_sub fx (pd_var fx 2) (pd_var fx 4) (.dks e1)) (pd_index fx (PED.share (pd_call0 fx (ok_l_parts Z) Z.m_l_parts Z.F_l_parts.kp (bi_l_parts Z) .nil (fun _ => .nil) ⟨rfl, rfl⟩)) .lst (pd_var fx 8) (part_first (partOf_in c).1)) (.lst .lst e2)) (pd_var fx 9)) pad_nil))))))
  by_cases C : kindOf c ns = 1 ∨ kindOf c ns = 3
  · have ot : othersOf c ns ≠ [] := fun z => by have := kind_nil z; omega
    have fst := (others_in (first_in ot)).1
    have e : sayOf c ns h = .bes (oneOf c ns) (sideOf c) (firstOf c ns) (byL (sideOf c) (leftOf h (.bes (oneOf c ns) (sideOf c) (firstOf c ns) 0)) + spoilOf c) := by unfold sayOf; rw [if_neg hA, if_pos C]
    rw [e]
    refine pssd_ifT (ptd_cast ((in13 _).trans (decide_eq_true C)) (ptd_in fx (pd_var fx 7) (pd_tup (pad_cons pd_int (pad_cons pd_int pad_nil))) (.tup .tup rfl rfl))) ?_ (fun _ z => nomatch z)
    refine pssd_cons (psd_set fx 13 (pd_sub fx (PED.share (pd_lst (pad_cons pd_str (pad_cons pd_str (pad_cons pd_str (pad_cons pd_str pad_nil)))))) (pd_sub fx (pd_var fx 3) pd_int (.lst .lst (dI c 5 (by decide)))) (.lst .lst (sideOf_in c).2))) ?_
    refine pssd_cons (psd_set fx 12 (pd_tup (pad_cons pd_str (pad_cons (pd_var fx 4) (pad_cons (pd_var fx 13) (pad_cons (pd_sub fx (pd_var fx 5) (pd_op (fun _ => op_mod) (pd_sub fx (pd_var fx 3) pd_int (.lst .lst (dI c 2 (by decide)))) (pd_blt fx (fun _ => call_lenU) Z.b_len (pad_cons (pd_var fx 5) pad_nil) (rc_len (.lst .lst))) (rd_mod (oth_len ot))) (.lst .lst (first_at ot))) (pad_cons pd_int pad_nil))))))) ?_
    exact pssd_rt (psd_ret (pd_op (r := rAddU K) (fun _ => op_addU) (pd_slice fx (pd_var fx 12) pod_none (pod_some pd_int) (.tup (ds := [.str "beside", .str (oneOf c ns), .str (sideOf c), .str (firstOf c ns), .int 0]))) (pd_tup (pad_cons (pd_plus (pd_call fx (ok_l_by Z) Z.m_l_by Z.F_l_by.kp (bi_l_by Z) .nil (fun _ => .nil) (pad_cons (pd_var fx 13) (pad_cons (pd_call fx (ok_l_left Z) Z.m_l_left Z.F_l_left.kp (bi_l_left Z) .nil (fun _ => .nil) (pad_cons (pd_var fx 1) (pad_cons (pd_var fx 12) (pad_cons (pd_var fx 2) pad_nil))) ⟨_, .bes (oneOf c ns) (sideOf c) (firstOf c ns) 0, h, (sideOf_in c).1, bes_ok hf one fst, rfl, rfl⟩) pad_nil)) ⟨_, _, rfl, rfl⟩) (pd_var fx 9)) pad_nil)) (rd_add (.tup (x := [.str "beside", .str (oneOf c ns), .str (sideOf c), .str (firstOf c ns)]) (y := [.int (byL (sideOf c) (leftOf h (.bes (oneOf c ns) (sideOf c) (firstOf c ns) 0)) + spoilOf c)]) (by rw [sizeLine_eq]; exact Nat.le_of_ble_eq_true rfl)))))
  · refine pssd_ifF (ptd_cast ((in13 _).trans (decide_eq_false C)) (ptd_in fx (pd_var fx 7) (pd_tup (pad_cons pd_int (pad_cons pd_int pad_nil))) (.tup .tup rfl rfl))) ?_
    by_cases D' : kindOf c ns = 2
    · have ot : othersOf c ns ≠ [] := fun z => by have := kind_nil z; omega
      have fst := (others_in (first_in ot)).1
      have t1 : decide (V.int (kindOf c ns) = V.int 2) = true := decide_eq_true (by rw [D'])
      cases F : (manyL c).find? (alikeHit c ns h) with
      | some m =>
        have e : sayOf c ns h = alikeOf c ns m := by unfold sayOf; rw [if_neg hA, if_neg C, if_pos D', F]
        rw [e]
        obtain ⟨hm, n, hn, hx', hlt⟩ := List.find?_eq_some_iff_getElem.mp F
        refine pssd_ifT (ptd_cast t1 (ptd_eq fx (pd_var fx 7) pd_int (.flat rfl rfl rfl))) ?_ (fun _ z => nomatch z)
        refine pssd_cons (psd_set fx 12 (pd_tup (pad_cons pd_str (pad_cons (pd_var fx 4) (pad_cons (pd_var fx 8) (pad_cons (pd_sub fx (pd_var fx 5) (pd_op (fun _ => op_mod) (pd_sub fx (pd_var fx 3) pd_int (.lst .lst (dI c 2 (by decide)))) (pd_blt fx (fun _ => call_lenU) Z.b_len (pad_cons (pd_var fx 5) pad_nil) (rc_len (.lst .lst))) (rd_mod (oth_len ot))) (.lst .lst (first_at ot))) (pad_cons (pd_plus pd_int (pd_sub fx (pd_var fx 3) pd_int (.lst .lst (dI c 6 (by decide))))) pad_nil))))))) ?_
        refine pssd_rt (psd_forR fx (manyL c) D.int (fun _ => gW c ns h (.sh (.tup [.str "alike", .str (oneOf c ns), .str (partOf c), .str (firstOf c ns), .int (1 + dg c 6)]))) n _ (pid_list fx .lst (PED.share (pd_lst (pad_cons (pd_plus pd_int (pd_sub fx (pd_var fx 3) pd_int (.lst .lst (dI c 6 (by decide))))) (pad_cons pd_int (pad_cons pd_int pad_nil)))))) (Wk.refl _) hn (fun i x hi hx => ?_) (fun x hx => ?_))
        · have hB : alikeHit c ns h x = false := by
            have hl : i < (manyL c).length := by omega
            have := hlt i hi
            rw [List.getElem?_eq_getElem hl] at hx
            cases hx
            simpa using this
          exact ⟨_, _, _, tgd_name fx 14, .inl (pssd_one (psd_ifF (PWD.t (ptd_cast2 hB (pwd_or (tw := decide (leftOf h (alikeOf c ns x) = 0)) (ptd_cast decV (ptd_eq fx (pd_var fx 9) pd_int (.flat rfl rfl rfl))) fun _ => pwd_or1 (ptd_cast decV (ptd_eq fx (pd_call fx (ok_l_left Z) Z.m_l_left Z.F_l_left.kp (bi_l_left Z) .nil (fun _ => .nil) (pad_cons (pd_var fx 1) (pad_cons (pd_op (r := rAddU K) (fun _ => op_addU) (pd_slice fx (pd_var fx 12) pod_none (pod_some pd_int) (.tup (ds := [.str "alike", .str (oneOf c ns), .str (partOf c), .str (firstOf c ns), .int (1 + dg c 6)]))) (pd_tup (pad_cons (pd_var fx 14) pad_nil)) (rd_add (.tup (x := [.str "alike", .str (oneOf c ns), .str (partOf c), .str (firstOf c ns)]) (y := [.int x]) (by rw [sizeLine_eq]; exact Nat.le_of_ble_eq_true rfl)))) (pad_cons (pd_var fx 2) pad_nil))) ⟨_, alikeOf c ns x, h, trivial, alk_ok hf one fst (partOf_in c).1 (many_in (List.mem_of_getElem? hx)), rfl, rfl⟩) pd_int (.flat rfl rfl rfl)))))) pssd_nil)), .s (.s (.s (.s (.s (.s (.s (.s (.s (.s (.s (.s (.s (.s (.u .n))))))))))))))⟩
        · have hB : alikeHit c ns h x = true := by
            rw [List.getElem?_eq_getElem hn, hx'] at hx
            cases hx
            exact hm
          have hxm : x = m := by
            rw [List.getElem?_eq_getElem hn, hx'] at hx
            cases hx
            rfl
          rw [← hxm]
          exact ⟨_, _, tgd_name fx 14, pssd_ifT (PWD.t (ptd_cast2 hB (pwd_or (tw := decide (leftOf h (alikeOf c ns x) = 0)) (ptd_cast decV (ptd_eq fx (pd_var fx 9) pd_int (.flat rfl rfl rfl))) fun _ => pwd_or1 (ptd_cast decV (ptd_eq fx (pd_call fx (ok_l_left Z) Z.m_l_left Z.F_l_left.kp (bi_l_left Z) .nil (fun _ => .nil) (pad_cons (pd_var fx 1) (pad_cons (pd_op (r := rAddU K) (fun _ => op_addU) (pd_slice fx (pd_var fx 12) pod_none (pod_some pd_int) (.tup (ds := [.str "alike", .str (oneOf c ns), .str (partOf c), .str (firstOf c ns), .int (1 + dg c 6)]))) (pd_tup (pad_cons (pd_var fx 14) pad_nil)) (rd_add (.tup (x := [.str "alike", .str (oneOf c ns), .str (partOf c), .str (firstOf c ns)]) (y := [.int x]) (by rw [sizeLine_eq]; exact Nat.le_of_ble_eq_true rfl)))) (pad_cons (pd_var fx 2) pad_nil))) ⟨_, alikeOf c ns x, h, trivial, alk_ok hf one fst (partOf_in c).1 (many_in (List.mem_of_getElem? hx)), rfl, rfl⟩) pd_int (.flat rfl rfl rfl)))))) (pssd_rt (psd_ret (pd_op (r := rAddU K) (fun _ => op_addU) (pd_slice fx (pd_var fx 12) pod_none (pod_some pd_int) (.tup (ds := [.str "alike", .str (oneOf c ns), .str (partOf c), .str (firstOf c ns), .int (1 + dg c 6)]))) (pd_tup (pad_cons (pd_var fx 14) pad_nil)) (rd_add (.tup (x := [.str "alike", .str (oneOf c ns), .str (partOf c), .str (firstOf c ns)]) (y := [.int x]) (by rw [sizeLine_eq]; exact Nat.le_of_ble_eq_true rfl)))))) (fun _ z => nomatch z)⟩
      | none =>
        have e : sayOf c ns h = .at_ (oneOf c ns) (partOf c) ((hidAt h (oneOf c ns) (partOf c)).getD 0 + spoilOf c) := by unfold sayOf; rw [if_neg hA, if_neg C, if_pos D', F]
        rw [e]
        have hno := List.find?_eq_none.mp F
        refine pssd_cons (psd_ifT (ptd_cast t1 (ptd_eq fx (pd_var fx 7) pd_int (.flat rfl rfl rfl))) ?_) (atB (.sh (.tup [.str "alike", .str (oneOf c ns), .str (partOf c), .str (firstOf c ns), .int (1 + dg c 6)])))
        refine pssd_cons (psd_set fx 12 (pd_tup (pad_cons pd_str (pad_cons (pd_var fx 4) (pad_cons (pd_var fx 8) (pad_cons (pd_sub fx (pd_var fx 5) (pd_op (fun _ => op_mod) (pd_sub fx (pd_var fx 3) pd_int (.lst .lst (dI c 2 (by decide)))) (pd_blt fx (fun _ => call_lenU) Z.b_len (pad_cons (pd_var fx 5) pad_nil) (rc_len (.lst .lst))) (rd_mod (oth_len ot))) (.lst .lst (first_at ot))) (pad_cons (pd_plus pd_int (pd_sub fx (pd_var fx 3) pd_int (.lst .lst (dI c 6 (by decide))))) pad_nil))))))) ?_
        refine pssd_one (psd_for fx (manyL c) D.int (fun _ => gW c ns h (.sh (.tup [.str "alike", .str (oneOf c ns), .str (partOf c), .str (firstOf c ns), .int (1 + dg c 6)]))) (pid_list fx .lst (PED.share (pd_lst (pad_cons (pd_plus pd_int (pd_sub fx (pd_var fx 3) pd_int (.lst .lst (dI c 6 (by decide))))) (pad_cons pd_int (pad_cons pd_int pad_nil)))))) (Wk.refl _) (fun i x hx => ?_))
        have hB : alikeHit c ns h x = false := by simpa using hno x (List.mem_of_getElem? hx)
        exact ⟨_, _, _, tgd_name fx 14, .inl (pssd_one (psd_ifF (PWD.t (ptd_cast2 hB (pwd_or (tw := decide (leftOf h (alikeOf c ns x) = 0)) (ptd_cast decV (ptd_eq fx (pd_var fx 9) pd_int (.flat rfl rfl rfl))) fun _ => pwd_or1 (ptd_cast decV (ptd_eq fx (pd_call fx (ok_l_left Z) Z.m_l_left Z.F_l_left.kp (bi_l_left Z) .nil (fun _ => .nil) (pad_cons (pd_var fx 1) (pad_cons (pd_op (r := rAddU K) (fun _ => op_addU) (pd_slice fx (pd_var fx 12) pod_none (pod_some pd_int) (.tup (ds := [.str "alike", .str (oneOf c ns), .str (partOf c), .str (firstOf c ns), .int (1 + dg c 6)]))) (pd_tup (pad_cons (pd_var fx 14) pad_nil)) (rd_add (.tup (x := [.str "alike", .str (oneOf c ns), .str (partOf c), .str (firstOf c ns)]) (y := [.int x]) (by rw [sizeLine_eq]; exact Nat.le_of_ble_eq_true rfl)))) (pad_cons (pd_var fx 2) pad_nil))) ⟨_, alikeOf c ns x, h, trivial, alk_ok hf one fst (partOf_in c).1 (many_in (List.mem_of_getElem? hx)), rfl, rfl⟩) pd_int (.flat rfl rfl rfl)))))) pssd_nil)), .s (.s (.s (.s (.s (.s (.s (.s (.s (.s (.s (.s (.s (.s (.u .n))))))))))))))⟩
    · have e : sayOf c ns h = .at_ (oneOf c ns) (partOf c) ((hidAt h (oneOf c ns) (partOf c)).getD 0 + spoilOf c) := by unfold sayOf; rw [if_neg hA, if_neg C, if_neg D']
      rw [e]
      exact pssd_ifF (ptd_cast (show decide (V.int (kindOf c ns) = V.int 2) = false from decide_eq_false (fun z => D' (by injection z))) (ptd_eq fx (pd_var fx 7) pd_int (.flat rfl rfl rfl))) (atB .un)
end
end K1
set_option Elab.async false
set_option linter.all false
set_option maxRecDepth 100000
set_option maxHeartbeats 4000000
namespace K1
open PySem PySem.Spec L2 Wd
open PyProof.Rows hiding St
section
variable {P : Program} {w : World} {K : PySem.W.Frag} {mg : Str → Option Value} {base : Heap} (Z : Env K mg w)
include Z
theorem ok_l_saying : FnOk P w K mg base (L2.CX P w) 3 (He.ga K "_law_saying") Z.d_l_saying ["_law_cell", "_law_names_here", "_law_hidden"] (spD K PrSay) := by
  refine fn_data Z.F_l_saying sc_l_saying (fun ds r ⟨c, ns, h, _, _, e, _⟩ => (by rw [e]; rfl)) fun cdv A outer s H E fx ds r hp => ?_
  obtain ⟨c, ns, h, ⟨n1, n2, n3⟩, hf, rfl, rfl⟩ := hp
  have hne : ns ≠ [] := fun z => by rw [z] at n1; exact absurd n1 (by decide)
  refine ⟨.rt _, ?_, .rt⟩
  refine pssd_cons (psd_set fx 3 (PED.share (pd_call fx (ok_l_numbers Z) Z.m_l_numbers Z.F_l_numbers.kp (bi_l_numbers Z) .nil (fun _ => .nil) (pad_cons (pd_var fx 0) (pad_cons (PED.share (pd_lst (pad_cons pd_int (pad_cons pd_int (pad_cons pd_int (pad_cons pd_int (pad_cons pd_int (pad_cons pd_int (pad_cons pd_int (pad_cons pd_int pad_nil)))))))))) pad_nil)) ⟨c, dgB, .lst (dgB.map .int), .lst, Nat.le_of_ble_eq_true rfl, by decide, rfl, rfl⟩))) ?_
  refine pssd_cons (psd_set fx 4 (pd_sub fx (pd_var fx 1) (pd_op (fun _ => op_mod) (pd_sub fx (pd_var fx 3) pd_int (.lst .lst (dI c 1 (by decide)))) (pd_blt fx (fun _ => call_lenU) Z.b_len (pad_cons (pd_var fx 1) pad_nil) (rc_len (.lst .lst))) (rd_mod (by rw [List.length_map]; omega))) (.lst .lst (one_at hne)))) ?_
  refine pssd_cons (psd_setLc fx 5 [("_law_name", 6)] ns (fun x => D.str x) (fun x => !decide (V.str x = V.str (oneOf c ns))) (fun x => D.str x) (pid_list fx .lst (pd_var fx 1)) (by rw [sizeLine_eq]; omega) (fun x hx => ⟨_, _, tgd_name fx.bk 6, fun _ h => h, ptsd_one (ptd_ne fx.bk (pd_var fx.bk 6) (pd_var fx.bk 4) (.flat rfl rfl rfl)), fun _ => pd_var fx.bk 6⟩) (fun _ => blkOk_by rfl)) ?_
  refine pssd_freeze 5 rfl ?_
  rw [oth_eq]
  refine pssd_cons (psd_set fx 7 (pd_if (rs := .sh (.int (kindOf c ns))) (ptd_ne fx (pd_var fx 5) (PED.share (pd_lst pad_nil)) (.py (.lst .lst (PysOf.map (g := PyData.str) (fun x => .str) (othersOf c ns))) (.lst .lst .nil) (Nat.le_trans (Nat.min_le_right _ _) (by decide)))) (fun hh => pd_cast (by rw [eqv_nil] at hh; rw [kind_eq, if_pos (by simpa using hh)]) (pd_sub fx (pd_var fx 3) pd_int (.lst .lst (dI c 0 (by decide))))) (fun hh => pd_cast (by rw [eqv_nil] at hh; rw [kind_eq, if_neg (by simpa using hh)]) pd_int))) ?_
  refine pssd_cons (psd_par fx 8 9 (d1 := .str (partOf c)) (d2 := .int (spoilOf c)) (pad_cons (pd_sub fx (PED.share (pd_call0 fx (ok_l_parts Z) Z.m_l_parts Z.F_l_parts.kp (bi_l_parts Z) .nil (fun _ => .nil) ⟨rfl, rfl⟩)) (pd_sub fx (pd_var fx 3) pd_int (.lst .lst (dI c 4 (by decide)))) (.lst .lst (partOf_in c).2)) (pad_cons (pd_if (rs := .sh (.int (spoilOf c))) (ptd_cast decV (ptd_eq fx (pd_sub fx (pd_var fx 3) pd_int (.lst .lst (dI c 7 (by decide)))) pd_int (.flat rfl rfl rfl))) (fun hh => pd_cast (by rw [spoil_eq, if_pos (of_decide_eq_true hh)]) pd_int) (fun hh => pd_cast (by rw [spoil_eq, if_neg (of_decide_eq_false hh)]) pd_int)) pad_nil))) ?_
  have one := oneOf_in (c := c) hne
  by_cases A0 : kindOf c ns = 3 ∧ 1 < (othersOf c ns).length
  · have ot : othersOf c ns ≠ [] := fun z => by rw [z] at A0; exact absurd A0.2 (by decide)
    have first := (others_in (first_in ot)).1
    have rne := rest_ne n3 A0.2
    have hol : (othersOf c ns).length ≤ 6 := oth_le n2
    have t1 : (decide (V.int (kindOf c ns) = V.int 3) && decide ((1 : Int) < (((othersOf c ns).map D.str).length : Nat))) = true := by
      rw [decide_eq_true (show V.int (kindOf c ns) = V.int 3 by rw [A0.1]), decide_eq_true (show (1 : Int) < (((othersOf c ns).map D.str).length : Nat) by rw [List.length_map]; omega)]; rfl
    by_cases B : (decide (spoilOf c = 1) || decide (leftOf h (amidOf c ns) = 0)) = true
    · have e : sayOf c ns h = amidOf c ns := by unfold sayOf; rw [if_pos ⟨A0.1, A0.2, by simpa using B⟩]
      rw [e]
      refine pssd_ifT (PWD.t (ptd_cast2 t1 (pwd_and (tv := decide (V.int (kindOf c ns) = V.int 3)) (tw := decide ((1 : Int) < (((othersOf c ns).map D.str).length : Nat))) (ptd_eq fx (pd_var fx 7) pd_int (.flat rfl rfl rfl)) fun _ => pwd_and1 (ptd_cmp (fun _ => op_gt) (nomark _) (pd_blt fx (fun _ => call_lenU) Z.b_len (pad_cons (pd_var fx 5) pad_nil) (rc_len (.lst .lst))) pd_int rd_gt)))) ?_ (fun _ z => nomatch z)
      exact (pssd_cons (psd_set fx 10 (pd_sub fx (pd_var fx 5) (pd_op (fun _ => op_mod) (pd_sub fx (pd_var fx 3) pd_int (.lst .lst (dI c 2 (by decide)))) (pd_blt fx (fun _ => call_lenU) Z.b_len (pad_cons (pd_var fx 5) pad_nil) (rc_len (.lst .lst))) (rd_mod (oth_len ot))) (.lst .lst (first_at ot))))
      (pssd_cons (psd_setLc fx 11 [("_law_name", 6)] (othersOf c ns) (fun x => D.str x) (fun x => !decide (V.str x = V.str (firstOf c ns))) (fun x => D.str x) (pid_list fx .lst (pd_var fx 5)) (by rw [sizeLine_eq]; omega) (fun x hx => ⟨_, _, tgd_name fx.bk 6, fun _ h => h, ptsd_one (ptd_ne fx.bk (pd_var fx.bk 6) (pd_var fx.bk 10) (.flat rfl rfl rfl)), fun _ => pd_var fx.bk 6⟩) (fun _ => blkOk_by rfl))
      (pssd_freeze 11 rfl (by
        rw [rest_eq]
        exact (pssd_cons (psd_set fx 12 (pd_tup (pad_cons pd_str (pad_cons (pd_var fx 4) (pad_cons (pd_sub fx (PED.share (pd_lst (pad_cons pd_str (pad_cons pd_str pad_nil)))) (pd_op (fun _ => op_mod) (pd_sub fx (pd_var fx 3) pd_int (.lst .lst (dI c 4 (by decide)))) pd_int (rd_mod (by decide))) (.lst .lst (way_at c).2)) (pad_cons (pd_var fx 10) (pad_cons (pd_sub fx (pd_var fx 11) (pd_op (fun _ => op_mod) (pd_sub fx (pd_var fx 3) pd_int (.lst .lst (dI c 3 (by decide)))) (pd_blt fx (fun _ => call_lenU) Z.b_len (pad_cons (pd_var fx 11) pad_nil) (rc_len (.lst .lst))) (rd_mod (rest_len rne))) (.lst .lst (rest_at rne))) pad_nil)))))))
        (pssd_rt (psd_ifT (PWD.t (ptd_cast2 B (pwd_or (tw := decide (leftOf h (amidOf c ns) = 0)) (ptd_cast decV (ptd_eq fx (pd_var fx 9) pd_int (.flat rfl rfl rfl))) fun _ => pwd_or1 (ptd_cast decV (ptd_eq fx (pd_call fx (ok_l_left Z) Z.m_l_left Z.F_l_left.kp (bi_l_left Z) .nil (fun _ => .nil) (pad_cons (PED.share (pd_op (r := rAddU K) (fun _ => op_addU) (PED.share (pd_lst (pad_cons (pd_var fx 4) pad_nil))) (pd_var fx 5) (rd_add (.lst (by rw [List.length_map, sizeLine_eq]; show 1 + _ ≤ _; omega))))) (pad_cons (pd_var fx 12) (pad_cons (pd_var fx 2) pad_nil))) ⟨_, amidOf c ns, h, (way_at c).1, amd_ok hf one first (pick_rest_in rne), rfl, rfl⟩) pd_int (.flat rfl rfl rfl)))))) (pssd_rt (psd_ret (pd_var fx 12))))))))))
    · have hA : ¬ (kindOf c ns = 3 ∧ 1 < (othersOf c ns).length ∧ (spoilOf c = 1 ∨ leftOf h (amidOf c ns) = 0)) := fun z => B (by simpa using z.2.2)
      have B' : (decide (spoilOf c = 1) || decide (leftOf h (amidOf c ns) = 0)) = false := by simpa using B
      refine pssd_cons (psd_nxwk (γ' := gW c ns h .un) (psd_ifT (PWD.t (ptd_cast2 t1 (pwd_and (tv := decide (V.int (kindOf c ns) = V.int 3)) (tw := decide ((1 : Int) < (((othersOf c ns).map D.str).length : Nat))) (ptd_eq fx (pd_var fx 7) pd_int (.flat rfl rfl rfl)) fun _ => pwd_and1 (ptd_cmp (fun _ => op_gt) (nomark _) (pd_blt fx (fun _ => call_lenU) Z.b_len (pad_cons (pd_var fx 5) pad_nil) (rc_len (.lst .lst))) pd_int rd_gt))))
        (pssd_cons (psd_set fx 10 (pd_sub fx (pd_var fx 5) (pd_op (fun _ => op_mod) (pd_sub fx (pd_var fx 3) pd_int (.lst .lst (dI c 2 (by decide)))) (pd_blt fx (fun _ => call_lenU) Z.b_len (pad_cons (pd_var fx 5) pad_nil) (rc_len (.lst .lst))) (rd_mod (oth_len ot))) (.lst .lst (first_at ot))))
      (pssd_cons (psd_setLc fx 11 [("_law_name", 6)] (othersOf c ns) (fun x => D.str x) (fun x => !decide (V.str x = V.str (firstOf c ns))) (fun x => D.str x) (pid_list fx .lst (pd_var fx 5)) (by rw [sizeLine_eq]; omega) (fun x hx => ⟨_, _, tgd_name fx.bk 6, fun _ h => h, ptsd_one (ptd_ne fx.bk (pd_var fx.bk 6) (pd_var fx.bk 10) (.flat rfl rfl rfl)), fun _ => pd_var fx.bk 6⟩) (fun _ => blkOk_by rfl))
      (pssd_freeze 11 rfl (by
        rw [rest_eq]
        exact (pssd_cons (psd_set fx 12 (pd_tup (pad_cons pd_str (pad_cons (pd_var fx 4) (pad_cons (pd_sub fx (PED.share (pd_lst (pad_cons pd_str (pad_cons pd_str pad_nil)))) (pd_op (fun _ => op_mod) (pd_sub fx (pd_var fx 3) pd_int (.lst .lst (dI c 4 (by decide)))) pd_int (rd_mod (by decide))) (.lst .lst (way_at c).2)) (pad_cons (pd_var fx 10) (pad_cons (pd_sub fx (pd_var fx 11) (pd_op (fun _ => op_mod) (pd_sub fx (pd_var fx 3) pd_int (.lst .lst (dI c 3 (by decide)))) (pd_blt fx (fun _ => call_lenU) Z.b_len (pad_cons (pd_var fx 11) pad_nil) (rc_len (.lst .lst))) (rd_mod (rest_len rne))) (.lst .lst (rest_at rne))) pad_nil)))))))
        (pssd_one (psd_ifF (PWD.t (ptd_cast2 B' (pwd_or (tw := decide (leftOf h (amidOf c ns) = 0)) (ptd_cast decV (ptd_eq fx (pd_var fx 9) pd_int (.flat rfl rfl rfl))) fun _ => pwd_or1 (ptd_cast decV (ptd_eq fx (pd_call fx (ok_l_left Z) Z.m_l_left Z.F_l_left.kp (bi_l_left Z) .nil (fun _ => .nil) (pad_cons (PED.share (pd_op (r := rAddU K) (fun _ => op_addU) (PED.share (pd_lst (pad_cons (pd_var fx 4) pad_nil))) (pd_var fx 5) (rd_add (.lst (by rw [List.length_map, sizeLine_eq]; show 1 + _ ≤ _; omega))))) (pad_cons (pd_var fx 12) (pad_cons (pd_var fx 2) pad_nil))) ⟨_, amidOf c ns, h, (way_at c).1, amd_ok hf one first (pick_rest_in rne), rfl, rfl⟩) pd_int (.flat rfl rfl rfl)))))) pssd_nil)))))))) ?_) (saying_tail Z cdv A outer s H E fx c ns h hne n2 hf hA)
      exact .s (.s (.s (.s (.s (.s (.u (.s (.s (.s (.u (.u (.u (.u (.u .n))))))))))))))
  · have hA : ¬ (kindOf c ns = 3 ∧ 1 < (othersOf c ns).length ∧ (spoilOf c = 1 ∨ leftOf h (amidOf c ns) = 0)) := fun z => A0 ⟨z.1, z.2.1⟩
    have t1 : (decide (V.int (kindOf c ns) = V.int 3) && decide ((1 : Int) < (((othersOf c ns).map D.str).length : Nat))) = false := by
      apply Bool.eq_false_iff.mpr
      intro z
      rw [Bool.and_eq_true, List.length_map] at z
      exact A0 ⟨by have := of_decide_eq_true z.1; injection this, by have := of_decide_eq_true z.2; omega⟩
    refine pssd_ifF (PWD.t (ptd_cast2 t1 (pwd_and (tv := decide (V.int (kindOf c ns) = V.int 3)) (tw := decide ((1 : Int) < (((othersOf c ns).map D.str).length : Nat))) (ptd_eq fx (pd_var fx 7) pd_int (.flat rfl rfl rfl)) fun _ => pwd_and1 (ptd_cmp (fun _ => op_gt) (nomark _) (pd_blt fx (fun _ => call_lenU) Z.b_len (pad_cons (pd_var fx 5) pad_nil) (rc_len (.lst .lst))) pd_int rd_gt)))) (pssd_wk (γ' := gW c ns h .un) ?_ (saying_tail Z cdv A outer s H E fx c ns h hne n2 hf hA))
    exact .s (.s (.s (.s (.s (.s (.u (.s (.s (.s (.u (.u (.u (.u (.u .n))))))))))))))
end
end K1
set_option Elab.async false
set_option linter.all false
set_option maxRecDepth 100000
set_option maxHeartbeats 4000000
namespace K1
open PySem PySem.Spec L2 Wd
open PyProof.Rows hiding St
/-! ### names drawn; a sheet drawn -/
def namesBy (a m : Nat) : List Str := (List.range (1 + m)).map fun k => wordL.getD ((a + 5 * k) % 12) Str.empty
def NmOk (x : Str) : Prop := x.length ≤ 1000 ∧ nameOk x = true
instance (x : Str) : Decidable (NmOk x) := by unfold NmOk; infer_instance
theorem namesBy_ok : ∀ a < 12, ∀ m < 6, (namesBy a m).Nodup ∧ ∀ x ∈ namesBy a m, NmOk x := by decide +kernel
theorem namesOf_by (c : Int) : namesOf c = namesBy (c / 6 % 12).toNat (c % 6).toNat := by
  obtain ⟨a1, a2⟩ := md (c / 6) 12 (by decide)
  obtain ⟨b1, b2⟩ := md c 6 (by decide)
  unfold namesOf namesBy
  rw [show (1 + c % 6).toNat = 1 + (c % 6).toNat by omega]
  refine List.map_congr_left fun k _ => ?_
  unfold wordAt
  rw [show ((c / 6 % 12 + 5 * (k : Int)) % 12).toNat = ((c / 6 % 12).toNat + 5 * k) % 12 by omega]
theorem namesOf_ok (c : Int) : ((namesOf c).Nodup ∧ ∀ x ∈ namesOf c, NmOk x) ∧ 1 ≤ (namesOf c).length ∧ (namesOf c).length ≤ 6 := by
  obtain ⟨a1, a2⟩ := md (c / 6) 12 (by decide)
  obtain ⟨b1, b2⟩ := md c 6 (by decide)
  rw [namesOf_by]
  refine ⟨namesBy_ok _ (by omega) _ (by omega), ?_⟩
  unfold namesBy
  rw [List.length_map, List.length_range]
  omega
def hB : List Int := [12, 12, 6, 6]
def hidRow (s : List Int) (k : Nat) : List Int := digs (cell s (1 + k) / 3) hB
def hidUpTo (s : List Int) (ns : List Str) (n : Nat) : Hid := (List.range n).map fun k => (ns.getD k Str.empty, hidRow s k)
def sNames (s : List Int) : List Str := namesOf (cell s 0)
def sHid (s : List Int) : Hid := hidUpTo s (sNames s) (sNames s).length
def sMany (s : List Int) : Nat := (cell s 7 % 17).toNat
def sSay (s : List Int) (k : Nat) : Say := sayOf (cell s (8 + k)) (sNames s) (sHid s)
def sSaid (s : List Int) : List Say := (List.range (sMany s)).map (sSay s)
def PrSheetL (ds : List D) (r : Wd.Slot) : Prop := ∃ s : List Int, s.length ≤ 63 ∧ ds = [.ro (s.map .int), .int 16] ∧ r = .sh (.tup [.lst ((sNames s).map .str), .lst ((sSaid s).map Say.t)])
theorem hidRow_ok (s : List Int) (k : Nat) : (hidRow s k).length = 4 ∧ ∀ v ∈ hidRow s k, 0 ≤ v ∧ v < 12 := by
  have e : hidRow s k = [mixed (cell s (1 + k) / 3) % 12, mixed (cell s (1 + k) / 3) / 12 % 12, mixed (cell s (1 + k) / 3) / 12 / 12 % 6, mixed (cell s (1 + k) / 3) / 12 / 12 / 6 % 6] := rfl
  rw [e]
  refine ⟨rfl, fun v hv => ?_⟩
  simp only [List.mem_cons, List.not_mem_nil, or_false] at hv
  omega
theorem getK_some {α : Type} : ∀ (l : List (Str × α)) (n : Str), n ∈ l.map (·.1) → ∃ v, getK l n = some v ∧ (n, v) ∈ l
  | [], _, h => nomatch h
  | p :: r, n, h => by
    unfold getK
    by_cases e : p.1 = n
    · rw [if_pos e]; exact ⟨p.2, rfl, by rw [← e]; exact List.mem_cons_self⟩
    · rw [if_neg e]
      rw [List.map_cons, List.mem_cons] at h
      obtain ⟨v, h1, h2⟩ := getK_some r n (h.resolve_left fun z => e z.symm)
      exact ⟨v, h1, List.mem_cons_of_mem _ h2⟩
theorem getD_range (ns : List Str) : (List.range ns.length).map (fun k => ns.getD k Str.empty) = ns := by
  apply List.ext_getElem
  · simp
  · intro i h1 h2
    simp [List.getElem?_eq_getElem h2]
theorem hidFull (s : List Int) : HidFull (sNames s) (sHid s) := fun n hn => by
  have e : (sHid s).map (·.1) = sNames s := by unfold sHid hidUpTo; rw [List.map_map]; exact getD_range _
  obtain ⟨l, h1, h2⟩ := getK_some (sHid s) n (by rw [e]; exact hn)
  refine ⟨l, h1, ?_⟩
  unfold sHid hidUpTo at h2
  obtain ⟨k, _, z⟩ := List.mem_map.mp h2
  cases z
  exact hidRow_ok s k
def encK {α : Type} (f : α → D) (l : List (Str × α)) : List (Key × D) := l.map fun p => ((Sum.inr p.1 : Key), f p.2)
theorem keys_new {α : Type} (ns : List Str) (nd : ns.Nodup) (f : Nat → α) (g : α → D) {i : Nat} (hi : i < ns.length) :
    ((encK g ((List.range i).map fun k => (ns.getD k Str.empty, f k))).map (·.1)).Nodup ∧
    putG (encK g ((List.range i).map fun k => (ns.getD k Str.empty, f k))) (Sum.inr (ns.getD i Str.empty)) (g (f i)) = encK g ((List.range (i + 1)).map fun k => (ns.getD k Str.empty, f k)) := by
  have e1 : (encK g ((List.range i).map fun k => (ns.getD k Str.empty, f k))).map (·.1) = (ns.take i).map (Sum.inr : Str → Key) := by
    unfold encK
    rw [List.map_map, List.map_map]
    apply List.ext_getElem
    · simp; omega
    · intro j h1 h2
      simp at h1 h2 ⊢
      rw [List.getElem?_eq_getElem (by omega)]
      rfl
  have nd2 : ((ns.take i).map (Sum.inr : Str → Key)).Nodup := by
    refine List.pairwise_map.mpr (((List.take_sublist i ns).nodup nd).imp fun h z => h (inr_inj _ _ z))
  have hnew : (Sum.inr (ns.getD i Str.empty) : Key) ∉ (ns.take i).map (Sum.inr : Str → Key) := fun z => by
    obtain ⟨x, hx, e⟩ := List.mem_map.mp z
    have e := inr_inj _ _ e
    obtain ⟨j, hj, hx⟩ := List.mem_iff_getElem.mp hx
    rw [List.getElem_take] at hx
    rw [List.length_take] at hj
    rw [List.getD_eq_getElem?_getD, List.getElem?_eq_getElem hi] at e
    have e2 : ns[j] = ns[i] := hx.trans e
    have hj' : j < i := by omega
    exact (List.pairwise_iff_getElem.mp nd j i (by omega) hi hj') e2
  refine ⟨by rw [e1]; exact nd2, ?_⟩
  rw [putG_new _ _ _ (by rw [e1]; exact hnew), List.range_succ, List.map_append]
  unfold encK
  rw [List.map_append]
  rfl
section
variable {P : Program} {w : World} {K : PySem.W.Frag} {mg : Str → Option Value} {base : Heap} (Z : Env K mg w)
include Z
theorem bi_l_sheet : Binds K Z.d_l_sheet ["_law_script", "_law_limit"] [] := Z.F_l_sheet.bindsN fun _ _ _ _ _ _ us hl => match us, hl with | [_, _], _ => rfl
omit Z in
theorem slotI {i j : Int} (h : i = j) : Wd.Slot.sh (.int i) = .sh (.int j) := by rw [h]
theorem ok_l_sheet : FnOk P w K mg base (L2.CX P w) 4 (He.ga K "_law_sheet") Z.d_l_sheet ["_law_script", "_law_limit"] (spD K PrSheetL) := by
  refine fn_data Z.F_l_sheet sc_l_sheet (fun ds r ⟨s, _, e, _⟩ => (by rw [e]; rfl)) fun cdv A outer s H E fx ds r hp => ?_
  obtain ⟨sc, hs, rfl, rfl⟩ := hp
  obtain ⟨⟨nd, nok⟩, l1, l6⟩ := namesOf_ok (cell sc 0)
  have nd : (sNames sc).Nodup := nd
  have l1 : 1 ≤ (sNames sc).length := l1
  have l6 : (sNames sc).length ≤ 6 := l6
  refine ⟨.rt _, ?_, .rt⟩
  refine pssd_cons (psd_set fx 2 (PED.share (pd_call fx (ok_l_names Z) Z.m_l_names Z.F_l_names.kp (bi_l_names Z) .nil (fun _ => .nil) (pad_cons (pd_call fx (ok_l_cell_at Z) Z.m_l_cell_at Z.F_l_cell_at.kp (bi_l_cell_at Z) .nil (fun _ => .nil) (pad_cons (pd_var fx 0) (pad_cons pd_int pad_nil)) ⟨sc, 0, hs, by decide, rfl, rfl⟩) pad_nil) ⟨cell sc 0, rfl, rfl⟩))) ?_
  refine pssd_cons (psd_set fx 3 pd_newK) ?_
  refine pssd_cons (psd_for fx (List.range (sNames sc).length) (fun k : Nat => D.int (0 + (k : Int))) (fun i => [.sh (.ro (sc.map .int)), .sh (.int 16), .sh (.lst ((sNames sc).map .str)), .ow (.dk (encK (fun l : List Int => D.lst (l.map D.int)) (hidUpTo sc (sNames sc) i))), .un, .un]) (by rw [show (List.range (sNames sc).length) = List.range ((((sNames sc).map D.str).length : Nat) : Int).toNat by rw [List.length_map]; rfl]; exact pid_range1 fx (pad_cons (pd_blt fx (fun _ => call_lenU) Z.b_len (pad_cons (pd_var fx 2) pad_nil) (rc_len (.lst .lst))) pad_nil) Z.b_range (by rw [List.length_map]; omega)) (Wk.refl _) fun i x hx => ?_) ?_
  · have hi : i < (sNames sc).length := by
      rcases Nat.lt_or_ge i (sNames sc).length with z | z
      · exact z
      · rw [List.getElem?_eq_none (by rw [List.length_range]; exact z)] at hx; cases hx
    rw [List.getElem?_range hi] at hx
    cases hx
    obtain ⟨k1, k2⟩ := keys_new (sNames sc) nd (hidRow sc) (fun l : List Int => D.lst (l.map D.int)) hi
    have ix : atI ((sNames sc).map D.str) (0 + (i : Int)) = some (.str ((sNames sc).getD i Str.empty)) := by
      rw [Int.zero_add]
      exact atI_nat (by rw [List.getElem?_map, List.getD_eq_getElem?_getD, List.getElem?_eq_getElem hi]; rfl)
    refine ⟨_, _, _, tgd_name fx 4, .inl (pssd_one (psd_dput fx 3 (key := Sum.inr ((sNames sc).getD i Str.empty)) rfl (PED.share (pd_call fx (ok_l_numbers Z) Z.m_l_numbers Z.F_l_numbers.kp (bi_l_numbers Z) .nil (fun _ => .nil) (pad_cons (pd_op (fun _ => op_fdiv) (pd_call fx (ok_l_cell_at Z) Z.m_l_cell_at Z.F_l_cell_at.kp (bi_l_cell_at Z) .nil (fun _ => .nil) (pad_cons (pd_var fx 0) (pad_cons (pd_cast (slotI (show (1 : Int) + (0 + (i : Int)) = ((1 + i : Nat) : Int) by omega)) (pd_plus pd_int (pd_var fx 4))) pad_nil)) ⟨sc, 1 + i, hs, by omega, rfl, rfl⟩) pd_int (rd_fdiv (by unfold CDiv; decide))) (pad_cons (PED.share (pd_lst (pad_cons pd_int (pad_cons pd_int (pad_cons pd_int (pad_cons pd_int pad_nil)))))) pad_nil)) ⟨cell sc (1 + i) / 3, hB, .lst (hB.map .int), .lst, Nat.le_of_ble_eq_true rfl, by decide, rfl, rfl⟩)) (pd_sub fx (pd_var fx 2) (pd_var fx 4) (.lst .lst ix)) ?_ k1)), ?_⟩
    · unfold encK hidUpTo
      rw [List.length_map, List.length_map, List.length_range, sizeLine_eq]
      omega
    · unfold hidUpTo
      have k2' := congrArg (fun z => Wd.Slot.ow (.dk z)) k2
      refine .s (.s (.s ?_))
      rw [show (Wd.Slot.ow (.dk (encK (fun l : List Int => D.lst (l.map D.int)) ((List.range (i + 1)).map fun k => ((sNames sc).getD k Str.empty, hidRow sc k))))) = _ from k2'.symm]
      exact .s (.u (.u .n))
  refine pssd_freeze 3 rfl ?_
  refine pssd_cons (psd_set fx 5 (pd_lst pad_nil)) ?_
  obtain ⟨m1, m2⟩ := md (cell sc 7) 17 (by decide)
  have eh : encK (fun l : List Int => D.lst (l.map D.int)) (hidUpTo sc (sNames sc) (List.range (sNames sc).length).length) = (sHid sc).map fun p => ((Sum.inr p.1 : Key), D.lst (p.2.map D.int)) := by rw [List.length_range]; rfl
  have wk0 : Wk [Wd.Slot.sh (.ro (sc.map .int)), .sh (.int 16), .sh (.lst ((sNames sc).map .str)), .sh (.dk (encK (fun l : List Int => D.lst (l.map D.int)) (hidUpTo sc (sNames sc) (List.range (sNames sc).length).length))), .un, .ow (.lst [])] [.sh (.ro (sc.map .int)), .sh (.int 16), .sh (.lst ((sNames sc).map .str)), .sh (encHid (sHid sc)), .un, .ow (.lst (((List.range 0).map (sSay sc)).map Say.t))] := by
    rw [eh]; exact Wk.refl _
  have hm : sMany sc < 17 := by unfold sMany; omega
  refine pssd_cons (psd_for fx (List.range (sMany sc)) (fun k : Nat => D.int (0 + (k : Int))) (fun i => [.sh (.ro (sc.map .int)), .sh (.int 16), .sh (.lst ((sNames sc).map .str)), .sh (encHid (sHid sc)), .un, .ow (.lst (((List.range i).map (sSay sc)).map Say.t))]) (by unfold sMany; exact pid_range1 fx (pad_cons (pd_op (fun _ => op_mod) (pd_call fx (ok_l_cell_at Z) Z.m_l_cell_at Z.F_l_cell_at.kp (bi_l_cell_at Z) .nil (fun _ => .nil) (pad_cons (pd_var fx 0) (pad_cons pd_int pad_nil)) ⟨sc, 7, hs, by decide, rfl, rfl⟩) (pd_plus (pd_var fx 1) pd_int) (rd_mod (show (0 : Int) < 16 + 1 by decide))) pad_nil) Z.b_range (by show _ ≤ cell sc 7 % (16 + 1) ∧ cell sc 7 % (16 + 1) < _; omega)) wk0 fun i x hx => ?_) ?_
  · have hi : i < sMany sc := by
      rcases Nat.lt_or_ge i (sMany sc) with z | z
      · exact z
      · rw [List.getElem?_eq_none (by rw [List.length_range]; exact z)] at hx; cases hx
    rw [List.getElem?_range hi] at hx
    cases hx
    refine ⟨_, _, _, tgd_name fx 4, .inl (pssd_one (psd_append fx 5 rfl (pd_call fx (ok_l_saying Z) Z.m_l_saying Z.F_l_saying.kp (bi_l_saying Z) .nil (fun _ => .nil) (pad_cons (pd_call fx (ok_l_cell_at Z) Z.m_l_cell_at Z.F_l_cell_at.kp (bi_l_cell_at Z) .nil (fun _ => .nil) (pad_cons (pd_var fx 0) (pad_cons (pd_cast (slotI (show (8 : Int) + (0 + (i : Int)) = ((8 + i : Nat) : Int) by omega)) (pd_plus pd_int (pd_var fx 4))) pad_nil)) ⟨sc, 8 + i, hs, by omega, rfl, rfl⟩) (pad_cons (pd_var fx 2) (pad_cons (pd_var fx 3) pad_nil))) ⟨cell sc (8 + i), sNames sc, sHid sc, ⟨l1, l6, nd⟩, hidFull sc, rfl, rfl⟩) (by rw [List.length_map, List.length_map, List.length_range, sizeLine_eq]; omega))), ?_⟩
    rw [List.range_succ, List.map_append, List.map_append]
    exact .s (.s (.s (.s (.u (.s .n)))))
  rw [show (List.range (sMany sc)).length = sMany sc from List.length_range]
  refine pssd_freeze 5 rfl ?_
  exact pssd_rt (psd_ret (pd_tup (pad_cons (pd_var fx 2) (pad_cons (pd_var fx 5) pad_nil))))
end
end K1
set_option Elab.async false
set_option linter.all false
set_option maxRecDepth 100000
set_option maxHeartbeats 4000000
namespace K1
open PySem PySem.Spec L2 Wd
open PyProof.Rows hiding St
/-! ### a saying's words at places -/
def sc7 (s : Sh) : Int := s.1 * (7560 / s.2)
def shN (l : List Sh) (i : Nat) : Sh := l.getD i (0, 1)
def wI (l : List Sh) : List (Str × Int) := [("left", sc7 (shN l 0)), ("top", sc7 (shN l 1)), ("wide", sc7 (shN l 2)), ("high", sc7 (shN l 3)), ("right", sc7 (shN l 0) + sc7 (shN l 2)), ("bottom", sc7 (shN l 1) + sc7 (shN l 3))]
def wD (l : List Sh) : List (Key × D) := encK D.int (wI l)
def wD4 (l : List Sh) : List (Key × D) := encK D.int ((wI l).take 4)
def wD2 (l : List Sh) : List (Key × D) := encK D.int ((wI l).drop 4)
def wordL6 : List Str := ["left", "top", "wide", "high", "right", "bottom"]
def wv (ps : Pls) (n p : Str) : Int := (((getK ps n).map wI).bind fun l => getK l p).getD 0
def farE (s : Str) : Str := if s = "right" ∨ s = "left" then "right" else "bottom"
def farEW (s : Str) : Str := if s = "across" then "right" else "bottom"
def wordsOk (ps : Pls) : Say → Bool
  | .at_ n p i => decide (wv ps n p = i * 7560)
  | .alk n p o m => decide (wv ps n p = wv ps o p * m)
  | .bes n s o b => if fwd s = true then decide (wv ps n (near s) = wv ps o (farE s) + b * 7560) else decide (wv ps n (farE s) + b * 7560 = wv ps o (near s))
  | .amd n v o u => decide (2 * (wv ps n (nearW v) + wv ps n (farEW v)) = wv ps o (nearW v) + wv ps o (farEW v) + wv ps u (nearW v) + wv ps u (farEW v))
def ShOk (s : Sh) : Prop := sm s.1 ∧ 1 ≤ s.2 ∧ s.2 ≤ 7
def PlOk (ps : Pls) : Prop := ps.length ≤ 6 ∧ (ps.map (·.1)).Nodup ∧ ∀ p ∈ ps, p.2.length = 4 ∧ ∀ s ∈ p.2, ShOk s
def Say.fit (ps : Pls) : Say → Prop
  | .at_ n p i => n ∈ ps.map (·.1) ∧ p ∈ partL ∧ sm i
  | .alk n p o m => n ∈ ps.map (·.1) ∧ o ∈ ps.map (·.1) ∧ p ∈ partL ∧ sm m
  | .bes n s o b => n ∈ ps.map (·.1) ∧ o ∈ ps.map (·.1) ∧ s ∈ sideL ∧ sm b
  | .amd n v o u => n ∈ ps.map (·.1) ∧ o ∈ ps.map (·.1) ∧ u ∈ ps.map (·.1) ∧ v ∈ wayL
def PrWords (ds : List D) (r : Wd.Slot) : Prop := ∃ (x : Say) (ps : Pls), PlOk ps ∧ x.fit ps ∧ ds = [x.t, encPls ps] ∧ r = .sh (.bl (wordsOk ps x))
theorem notInR {x : Str} {l : List Str} (h : x ∉ l) : (Sum.inr x : Key) ∉ l.map (Sum.inr : Str → Key) := fun z => by
  obtain ⟨y, h1, h2⟩ := List.mem_map.mp z
  exact h (inr_inj _ _ h2 ▸ h1)
theorem mrg_w (l : List Sh) : mrgG (wD4 l) (wD2 l) = wD l ∧ ((wD4 l).map (·.1)).Nodup ∧ ((wD2 l).map (·.1)).Nodup := by
  refine ⟨?_, (by decide +kernel : [(Sum.inr "left" : Key), Sum.inr "top", Sum.inr "wide", Sum.inr "high"].Nodup), (by decide +kernel : [(Sum.inr "right" : Key), Sum.inr "bottom"].Nodup)⟩
  show putG (putG (wD4 l) (Sum.inr "right") _) (Sum.inr "bottom") _ = _
  rw [putG_new (wD4 l) (Sum.inr "right") _ (notInR (x := "right") (l := ["left", "top", "wide", "high"]) (by decide +kernel)), putG_new _ _ _ (notInR (x := "bottom") (l := ["left", "top", "wide", "high", "right"]) (by decide +kernel))]
  rfl
theorem wI_get (l : List Sh) {p : Str} (hp : p ∈ wordL6) : ∃ v, getK (wI l) p = some v := by
  obtain ⟨v, h, _⟩ := getK_some (wI l) p hp
  exact ⟨v, h⟩
theorem wv_at {ps : Pls} {n p : Str} (hn : n ∈ ps.map (·.1)) (hp : p ∈ wordL6) : ∃ l, getK (encK (fun l : List Sh => D.dk (wD l)) ps) (Sum.inr n) = some (.dk (wD l)) ∧ getK (wD l) (Sum.inr p) = some (.int (wv ps n p)) ∧ getK ps n = some l := by
  obtain ⟨l, h1, _⟩ := getK_some ps n hn
  obtain ⟨v, h2⟩ := wI_get l hp
  refine ⟨l, (getK_map (κ' := Key) Sum.inr inr_inj (fun l : List Sh => D.dk (wD l)) ps n).trans (by rw [h1]; rfl), (getK_map (κ' := Key) Sum.inr inr_inj D.int (wI l) p).trans ?_, h1⟩
  unfold wv
  rw [h1]
  show Option.map D.int (getK (wI l) p) = _
  rw [h2]
  show _ = some (D.int ((getK (wI l) p).getD 0))
  rw [h2]
  rfl
theorem part6 {p : Str} (h : p ∈ partL) : p ∈ wordL6 := by
  unfold partL at h
  simp only [List.mem_cons, List.not_mem_nil, or_false] at h
  rcases h with rfl | rfl | rfl | rfl <;> decide +kernel
theorem near6 (s : Str) : near s ∈ wordL6 ∧ farE s ∈ wordL6 ∧ nearW s ∈ wordL6 ∧ farEW s ∈ wordL6 := by
  refine ⟨part6 (near_in s).1, ?_, part6 (nearW_in s).1, ?_⟩
  · unfold farE; split <;> decide +kernel
  · unfold farEW; split <;> decide +kernel
theorem sideRL {s : Str} (h : s ∈ sideL) : (inV (.str s) [.str "right", .str "left"] = true ∧ near s = "left" ∧ farE s = "right") ∨ (inV (.str s) [.str "right", .str "left"] = false ∧ near s = "top" ∧ farE s = "bottom") := by
  unfold sideL at h
  simp only [List.mem_cons, List.not_mem_nil, or_false] at h
  rcases h with rfl | rfl | rfl | rfl
  · exact .inl (by decide +kernel)
  · exact .inl (by decide +kernel)
  · exact .inr (by decide +kernel)
  · exact .inr (by decide +kernel)
theorem wayA {s : Str} (h : s ∈ wayL) : (decide (V.str s = V.str "across") = true ∧ nearW s = "left" ∧ farEW s = "right") ∨ (decide (V.str s = V.str "across") = false ∧ nearW s = "top" ∧ farEW s = "bottom") := by
  unfold wayL at h
  simp only [List.mem_cons, List.not_mem_nil, or_false] at h
  rcases h with rfl | rfl
  · exact .inl (by decide +kernel)
  · exact .inr (by decide +kernel)
theorem sm7 {s : Sh} (h : ShOk s) : CDiv 7560 s.2 ∧ CMul s.1 (7560 / s.2) := ⟨by unfold CDiv; have := h.2; omega, .inl (sm64 h.1)⟩
theorem list4 {l : List Sh} (h : l.length = 4) : l = [shN l 0, shN l 1, shN l 2, shN l 3] := by
  match l, h with
  | [a, b, c, d], _ => rfl
section
variable {P : Program} {w : World} {K : PySem.W.Frag} {mg : Str → Option Value} {base : Heap} (Z : Env K mg w)
include Z
theorem bi_l_words_kept : Binds K Z.d_l_words_kept ["_law_said", "_law_places"] [] := Z.F_l_words_kept.bindsN fun _ _ _ _ _ _ us hl => match us, hl with | [_, _], _ => rfl
theorem ok_l_words_kept : FnOk P w K mg base (L2.CX P w) 1 (He.ga K "_law_words_kept") Z.d_l_words_kept ["_law_said", "_law_places"] (spD K PrWords) := by
  refine fn_data Z.F_l_words_kept sc_l_words_kept (fun ds r ⟨x, _, _, _, e, _⟩ => (by rw [e]; rfl)) fun cdv A outer s H E fx ds r hp => ?_
  obtain ⟨x, ps, ⟨l6, nd, pok⟩, hfit, rfl, rfl⟩ := hp
  refine ⟨.rt _, ?_, .rt⟩
  refine pssd_cons (psd_set fx 2 pd_newK) ?_
  refine pssd_cons (psd_forK fx 1 (ds := ps.map fun p => ((Sum.inr p.1 : Key), D.tup (p.2.map encSh))) ps (fun p => (Sum.inr p.1 : Key)) (by rw [List.map_map]; rfl) (fun i => [.sh x.t, .sh (encPls ps), .ow (.dk (encK (fun l : List Sh => D.dk (wD l)) (ps.take i))), .un, .un, .un, .un, .un, .un, .un, .un, .un, .un, .un, .un, .un]) (Wk.refl _) fun i p hp => ?_) ?_
  · have hm : p ∈ ps := List.mem_of_getElem? hp
    obtain ⟨p4, psh⟩ := pok p hm
    have hi : i < ps.length := (List.getElem?_eq_some_iff.mp hp).1
    have nk : (Sum.inr p.1 : Key) ∉ (encK (fun l : List Sh => D.dk (wD l)) (ps.take i)).map (·.1) := fun z => by
      unfold encK at z
      rw [List.map_map] at z
      obtain ⟨q, hq, e⟩ := List.mem_map.mp z
      have e := inr_inj _ _ e
      obtain ⟨j, hj, hq⟩ := List.mem_iff_getElem.mp hq
      rw [List.length_take] at hj
      rw [List.getElem_take] at hq
      have hji : j < i := by omega
      have hp' : ps[i] = p := (List.getElem?_eq_some_iff.mp hp).2
      refine (List.pairwise_iff_getElem.mp nd j i (by rw [List.length_map]; omega) (by rw [List.length_map]; exact hi) hji) ?_
      rw [List.getElem_map, List.getElem_map, hq, hp', e]
    have ndk : ((encK (fun l : List Sh => D.dk (wD l)) (ps.take i)).map (·.1)).Nodup := by
      unfold encK
      rw [List.map_map]
      have : ((ps.take i).map (·.1)).Nodup := by rw [List.map_take]; exact (List.take_sublist _ _).nodup nd
      exact (List.pairwise_map.mpr ((List.pairwise_map.mp this).imp fun h z => h (inr_inj _ _ z)))
    have hg : getK (ps.map fun p => ((Sum.inr p.1 : Key), D.tup (p.2.map encSh))) (Sum.inr p.1) = some (.tup (p.2.map encSh)) := by
      refine (getK_map (κ' := Key) Sum.inr inr_inj (fun l : List Sh => D.tup (l.map encSh)) ps p.1).trans ?_
      obtain ⟨l, h1, h2⟩ := getK_some ps p.1 (List.mem_map_of_mem hm)
      rw [h1]
      obtain ⟨j, hj, hq⟩ := List.mem_iff_getElem.mp h2
      have hp' : ps[i] = p := (List.getElem?_eq_some_iff.mp hp).2
      have : j = i := by
        rcases Nat.lt_trichotomy j i with z | z | z
        · exact absurd (by rw [List.getElem_map, List.getElem_map, hq, hp']) (List.pairwise_iff_getElem.mp nd j i (by rw [List.length_map]; exact hj) (by rw [List.length_map]; exact hi) z)
        · exact z
        · exact absurd (by rw [List.getElem_map, List.getElem_map, hq, hp']) (List.pairwise_iff_getElem.mp nd i j (by rw [List.length_map]; exact hi) (by rw [List.length_map]; exact hj) z)
      subst this
      rw [hq] at hp'
      rw [← hp']
      rfl
    obtain ⟨mw, nd4, nd2⟩ := mrg_w p.2
    refine ⟨_, _, _, tgd_name fx 3, .inl (pssd_cons (psd_asg fx (d := .lst [.int (sc7 (shN p.2 0)), .int (sc7 (shN p.2 1)), .int (sc7 (shN p.2 2)), .int (sc7 (shN p.2 3))]) (pd_cast (by rw [show p.2.map (fun s => D.int (sc7 s)) = _ from congrArg (List.map fun s => D.int (sc7 s)) (list4 p4)]; rfl) (PED.share (pd_lcA fx [("_law_top", 5), ("_law_bottom", 8)] p.2 encSh (fun s => D.int (sc7 s)) (pid_tup fx .tup (pd_sub fx (pd_var fx 1) (pd_var fx 3) (.dks hg))) (by rw [p4, sizeLine_eq]; decide) fun s hs => ⟨_, _, tgd_tup fx.bk .tup (tgsd_cons (tgd_name fx.bk 5) (tgsd_cons (tgd_name fx.bk 8) tgsd_nil)), fun _ h => h, pd_mul (pd_var fx.bk 5) (pd_op (fun _ => op_fdiv) pd_int (pd_var fx.bk 8) (rd_fdiv (sm7 (psh s hs)).1)) (sm7 (psh s hs)).2⟩))) (tgd_lst fx .lst (tgsd_cons (tgd_name fx 4) (tgsd_cons (tgd_name fx 5) (tgsd_cons (tgd_name fx 6) (tgsd_cons (tgd_name fx 7) tgsd_nil))))))
      (pssd_putUpd fx 2 (kv1 := wD4 p.2) (kv2 := wD2 p.2) (key := Sum.inr p.1) rfl (by intro j d; match j with | 0 | 1 | 2 | 3 | 4 | 5 | 6 | 7 | 8 | 9 | 10 | 11 | 12 | 13 | 14 | 15 => exact fun z => by cases z | n + 16 => exact fun z => by cases z)
        (pd_disp fx (wD4 p.2) (ppd_cons pd_str (pd_var fx 4) (ppd_cons pd_str (pd_var fx 5) (ppd_cons pd_str (pd_var fx 6) (ppd_cons pd_str (pd_var fx 7) ppd_nil)))) nd4 (Nat.le_of_ble_eq_true rfl)) (pd_var fx 3) (pd_var fx 3)
        (pd_disp fx (wD2 p.2) (ppd_cons pd_str (pd_plus (pd_var fx 4) (pd_var fx 6)) (ppd_cons pd_str (pd_plus (pd_var fx 5) (pd_var fx 7)) ppd_nil)) nd2 (Nat.le_of_ble_eq_true rfl))
        (by unfold encK; rw [List.length_map, List.length_take, sizeLine_eq]; omega) ndk nd4 (by rw [sizeLine_eq]; exact Nat.le_of_ble_eq_true rfl) pssd_nil)), ?_⟩
    rw [mw, putG_new _ _ _ nk, List.take_add_one, hp]
    unfold encK
    rw [show (Option.some p).toList = [p] from rfl, List.map_append]
    exact .s (.s (.s (.u (.u (.u (.u (.u (.u (.u (.u (.u (.u (.u (.u (.u .n)))))))))))))))
  rw [List.take_length]
  refine pssd_freeze 2 rfl ?_
  cases x with
  | at_ n p i =>
    obtain ⟨h1, h2, h3⟩ := hfit
    obtain ⟨l1, a1, b1, c1⟩ := wv_at h1 (part6 h2)
    refine pssd_cons (psd_set fx 9 (pd_sub fx (pd_var fx 2) (pd_sub fx (pd_var fx 0) pd_int (.tup .tup rfl)) (.dks a1))) ?_
    refine pssd_ifT (ptd_is Z fx (pd_sub fx (pd_var fx 0) pd_int (.tup .tup rfl)) pd_str (by decide +kernel)) ?_ (fun _ z => nomatch z)
    exact pssd_rt (psd_ret (pd_cast (congrArg (fun b => Wd.Slot.sh (.bl b)) decV) (pd_eq fx (pd_sub fx (pd_var fx 9) (pd_sub fx (pd_var fx 0) pd_int (.tup .tup rfl)) (.dks b1)) (pd_mul (pd_sub fx (pd_var fx 0) pd_int (.tup .tup rfl)) pd_int (.inl (sm64 h3))) (.flat rfl rfl rfl))))
  | alk n p o m =>
    obtain ⟨h1, h2, h3, h4⟩ := hfit
    obtain ⟨l1, a1, b1, c1⟩ := wv_at h1 (part6 h3)
    obtain ⟨l2, a2, b2, c2⟩ := wv_at h2 (part6 h3)
    refine pssd_cons (psd_set fx 9 (pd_sub fx (pd_var fx 2) (pd_sub fx (pd_var fx 0) pd_int (.tup .tup rfl)) (.dks a1))) ?_
    refine pssd_ifF (ptd_is Z fx (pd_sub fx (pd_var fx 0) pd_int (.tup .tup rfl)) pd_str (by decide +kernel)) ?_
    refine pssd_cons (psd_set fx 10 (pd_sub fx (pd_var fx 2) (pd_sub fx (pd_var fx 0) pd_int (.tup .tup rfl)) (.dks a2))) ?_
    refine pssd_ifT (ptd_is Z fx (pd_sub fx (pd_var fx 0) pd_int (.tup .tup rfl)) pd_str (by decide +kernel)) ?_ (fun _ z => nomatch z)
    exact pssd_rt (psd_ret (pd_cast (congrArg (fun b => Wd.Slot.sh (.bl b)) decV) (pd_eq fx (pd_sub fx (pd_var fx 9) (pd_sub fx (pd_var fx 0) pd_int (.tup .tup rfl)) (.dks b1)) (pd_mul (pd_sub fx (pd_var fx 10) (pd_sub fx (pd_var fx 0) pd_int (.tup .tup rfl)) (.dks b2)) (pd_sub fx (pd_var fx 0) pd_int (.tup .tup rfl)) (.inr (sm64 h4))) (.flat rfl rfl rfl))))
  | bes n s o b =>
    obtain ⟨h1, h2, h3, h4⟩ := hfit
    obtain ⟨q1, q2, _⟩ := near6 s
    obtain ⟨l1, a1, b1, c1⟩ := wv_at h1 q1
    obtain ⟨l1', a1', b1', c1'⟩ := wv_at h1 q2
    obtain ⟨l2, a2, b2, c2⟩ := wv_at h2 q1
    obtain ⟨l2', a2', b2', c2'⟩ := wv_at h2 q2
    obtain rfl : l1 = l1' := Option.some.inj (c1.symm.trans c1')
    obtain rfl : l2 = l2' := Option.some.inj (c2.symm.trans c2')
    have nf := sideRL h3
    refine pssd_cons (psd_set fx 9 (pd_sub fx (pd_var fx 2) (pd_sub fx (pd_var fx 0) pd_int (.tup .tup rfl)) (.dks a1))) ?_
    refine pssd_ifF (ptd_is Z fx (pd_sub fx (pd_var fx 0) pd_int (.tup .tup rfl)) pd_str (by decide +kernel)) ?_
    refine pssd_cons (psd_set fx 10 (pd_sub fx (pd_var fx 2) (pd_sub fx (pd_var fx 0) pd_int (.tup .tup rfl)) (.dks a2))) ?_
    refine pssd_ifF (ptd_is Z fx (pd_sub fx (pd_var fx 0) pd_int (.tup .tup rfl)) pd_str (by decide +kernel)) ?_
    refine pssd_ifT (ptd_is Z fx (pd_sub fx (pd_var fx 0) pd_int (.tup .tup rfl)) pd_str (by decide +kernel)) ?_ (fun _ z => nomatch z)
    refine pssd_cons (psd_set fx 11 (pd_mul (pd_sub fx (pd_var fx 0) pd_int (.tup .tup rfl)) pd_int (.inl (sm64 h4)))) ?_
    refine pssd_cons (psd_asg fx (d := .tup [.str (near s), .str (farE s)]) (pd_if (tv := inV (.str s) [.str "right", .str "left"]) (ptd_in fx (pd_sub fx (pd_var fx 0) pd_int (.tup .tup rfl)) (pd_tup (pad_cons pd_str (pad_cons pd_str pad_nil))) (.tup .tup rfl rfl))
      (fun h => pd_cast (by rcases nf with ⟨_, e1, e2⟩ | ⟨e0, _⟩ <;> first | rw [e1, e2] | (rw [e0] at h; cases h)) (pd_tup (pad_cons pd_str (pad_cons pd_str pad_nil)))) (fun h => pd_cast (by rcases nf with ⟨e0, _⟩ | ⟨_, e1, e2⟩ <;> first | rw [e1, e2] | (rw [e0] at h; cases h)) (pd_tup (pad_cons pd_str (pad_cons pd_str pad_nil))))) (tgd_tup fx .tup (tgsd_cons (tgd_name fx 12) (tgsd_cons (tgd_name fx 13) tgsd_nil)))) ?_
    refine pssd_ifret (tv := fwd s) (ptd_in fx (pd_sub fx (pd_var fx 0) pd_int (.tup .tup rfl)) (pd_tup (pad_cons pd_str (pad_cons pd_str pad_nil))) (.tup .tup rfl rfl)) (fun h => ?_) (fun h => ?_)
    · rw [show wordsOk ps (.bes n s o b) = decide (wv ps n (near s) = wv ps o (farE s) + b * 7560) from if_pos h]
      exact pssd_rt (psd_ret (pd_cast (congrArg (fun b => Wd.Slot.sh (.bl b)) decV) (pd_eq fx (pd_sub fx (pd_var fx 9) (pd_var fx 12) (.dks b1)) (pd_plus (pd_sub fx (pd_var fx 10) (pd_var fx 13) (.dks b2')) (pd_var fx 11)) (.flat rfl rfl rfl))))
    · rw [show wordsOk ps (.bes n s o b) = decide (wv ps n (farE s) + b * 7560 = wv ps o (near s)) from if_neg (by rw [h]; decide)]
      exact pssd_rt (psd_ret (pd_cast (congrArg (fun b => Wd.Slot.sh (.bl b)) decV) (pd_eq fx (pd_plus (pd_sub fx (pd_var fx 9) (pd_var fx 13) (.dks b1')) (pd_var fx 11)) (pd_sub fx (pd_var fx 10) (pd_var fx 12) (.dks b2)) (.flat rfl rfl rfl))))
  | amd n v o u =>
    obtain ⟨h1, h2, h3, h4⟩ := hfit
    obtain ⟨_, _, q1, q2⟩ := near6 v
    obtain ⟨l1, a1, b1, c1⟩ := wv_at h1 q1
    obtain ⟨l1', a1', b1', c1'⟩ := wv_at h1 q2
    obtain ⟨l2, a2, b2, c2⟩ := wv_at h2 q1
    obtain ⟨l2', a2', b2', c2'⟩ := wv_at h2 q2
    obtain ⟨l3, a3, b3, c3⟩ := wv_at h3 q1
    obtain ⟨l3', a3', b3', c3'⟩ := wv_at h3 q2
    obtain rfl : l1 = l1' := Option.some.inj (c1.symm.trans c1')
    obtain rfl : l2 = l2' := Option.some.inj (c2.symm.trans c2')
    obtain rfl : l3 = l3' := Option.some.inj (c3.symm.trans c3')
    have nf := wayA h4
    refine pssd_cons (psd_set fx 9 (pd_sub fx (pd_var fx 2) (pd_sub fx (pd_var fx 0) pd_int (.tup .tup rfl)) (.dks a1))) ?_
    refine pssd_ifF (ptd_is Z fx (pd_sub fx (pd_var fx 0) pd_int (.tup .tup rfl)) pd_str (by decide +kernel)) ?_
    refine pssd_cons (psd_set fx 10 (pd_sub fx (pd_var fx 2) (pd_sub fx (pd_var fx 0) pd_int (.tup .tup rfl)) (.dks a2))) ?_
    refine pssd_ifF (ptd_is Z fx (pd_sub fx (pd_var fx 0) pd_int (.tup .tup rfl)) pd_str (by decide +kernel)) ?_
    refine pssd_ifF (ptd_is Z fx (pd_sub fx (pd_var fx 0) pd_int (.tup .tup rfl)) pd_str (by decide +kernel)) ?_
    refine pssd_cons (psd_set fx 14 (pd_sub fx (pd_var fx 2) (pd_sub fx (pd_var fx 0) pd_int (.tup .tup rfl)) (.dks a3))) ?_
    refine pssd_cons (psd_asg fx (d := .tup [.str (nearW v), .str (farEW v)]) (pd_if (tv := decide (V.str v = V.str "across")) (ptd_is Z fx (pd_sub fx (pd_var fx 0) pd_int (.tup .tup rfl)) pd_str rfl)
      (fun h => pd_cast (by rcases nf with ⟨_, e1, e2⟩ | ⟨e0, _⟩ <;> first | rw [e1, e2] | (rw [e0] at h; cases h)) (pd_tup (pad_cons pd_str (pad_cons pd_str pad_nil)))) (fun h => pd_cast (by rcases nf with ⟨e0, _⟩ | ⟨_, e1, e2⟩ <;> first | rw [e1, e2] | (rw [e0] at h; cases h)) (pd_tup (pad_cons pd_str (pad_cons pd_str pad_nil))))) (tgd_tup fx .tup (tgsd_cons (tgd_name fx 12) (tgsd_cons (tgd_name fx 13) tgsd_nil)))) ?_
    refine pssd_cons (psd_set fx 15 (pd_plus (pd_plus (pd_plus (pd_sub fx (pd_var fx 10) (pd_var fx 12) (.dks b2)) (pd_sub fx (pd_var fx 10) (pd_var fx 13) (.dks b2'))) (pd_sub fx (pd_var fx 14) (pd_var fx 12) (.dks b3))) (pd_sub fx (pd_var fx 14) (pd_var fx 13) (.dks b3')))) ?_
    exact pssd_rt (psd_ret (pd_cast (congrArg (fun b => Wd.Slot.sh (.bl b)) decV) (pd_eq fx (pd_mul pd_int (pd_plus (pd_sub fx (pd_var fx 9) (pd_var fx 12) (.dks b1)) (pd_sub fx (pd_var fx 9) (pd_var fx 13) (.dks b1'))) (.inl (by decide))) (pd_var fx 15) (.flat rfl rfl rfl))))
end
end K1
set_option Elab.async false
set_option linter.all false
set_option maxRecDepth 100000
set_option maxHeartbeats 4000000
namespace K1
open PySem PySem.Spec L2 Wd
open PyProof.Rows hiding St
/-! ### places near: one part put so that a saying is kept -/
def flo (l : List Sh) : List Int := l.map fun s => s.1 / s.2
def hidN (ps : Pls) : Hid := ps.map fun p => (p.1, flo p.2)
def t0 (x : Say) : Tm := x.tms.headD ("", "", 1)
def nearV (ps : Pls) (x : Say) : Int := (hidAt (hidN ps) (t0 x).1 (t0 x).2.1).getD 0 - leftOf (hidN ps) x / (t0 x).2.2
def nearG (ps : Pls) (x : Say) (p : Str × List Sh) : List Int := if p.1 = (t0 x).1 then (flo p.2).set (partIx (t0 x).2.1) (nearV ps x) else flo p.2
def nearH (ps : Pls) (x : Say) : Hid := ps.map fun p => (p.1, nearG ps x p)
def ofI (v : Int) : Sh := (v, 1)
def nearOf (ps : Pls) (x : Say) : Pls := (nearH ps x).map fun p => (p.1, p.2.map ofI)
def PrNear (ds : List D) (r : Wd.Slot) : Prop := ∃ (ps : Pls) (x : Say), PlOk ps ∧ x.fit ps ∧ ds = [encPls ps, x.t] ∧ r = .ow (encPls (nearOf ps x))
theorem fit_wd {ps : Pls} {x : Say} (h : x.fit ps) : x.wd := by
  cases x with
  | at_ n p i => trivial
  | bes n s o b => exact h.2.2.1
  | alk n p o m => trivial
  | amd n v o u => exact h.2.2.2
theorem fit_tms {ps : Pls} {x : Say} (h : x.fit ps) : ∀ t ∈ x.tms, t.1 ∈ ps.map (·.1) ∧ t.2.1 ∈ partL ∧ sm t.2.2 := fun t ht => by
  cases x with
  | at_ n p i =>
    obtain ⟨h1, h2, h3⟩ := h
    have ht' : t ∈ atT n p := ht
    unfold atT at ht'
    simp only [List.mem_cons, List.not_mem_nil, or_false] at ht'
    subst ht'
    exact ⟨h1, h2, by unfold sm; dsimp only; decide⟩
  | bes n s o b =>
    obtain ⟨h1, h2, h3, h4⟩ := h
    obtain ⟨a, b'⟩ := near_in s
    have ht' : t ∈ besT n s o := ht
    unfold besT at ht'
    split at ht' <;>
    · simp only [List.mem_cons, List.not_mem_nil, or_false] at ht'
      rcases ht' with rfl | rfl | rfl <;> exact ⟨by assumption, by assumption, by unfold sm; dsimp only; decide⟩
  | alk n p o m =>
    obtain ⟨h1, h2, h3, h4⟩ := h
    have ht' : t ∈ alkT n p o m := ht
    unfold alkT at ht'
    simp only [List.mem_cons, List.not_mem_nil, or_false] at ht'
    rcases ht' with rfl | rfl
    · exact ⟨h1, h3, by unfold sm; dsimp only; decide⟩
    · exact ⟨h2, h3, by unfold sm at h4 ⊢; show _ < -m ∧ -m < _; omega⟩
  | amd n v o u =>
    obtain ⟨h1, h2, h3, h4⟩ := h
    obtain ⟨a, b'⟩ := nearW_in v
    have ht' : t ∈ amdT n v o u := ht
    unfold amdT at ht'
    simp only [List.mem_cons, List.not_mem_nil, or_false] at ht'
    rcases ht' with rfl | rfl | rfl | rfl | rfl | rfl <;> exact ⟨by assumption, by assumption, by unfold sm; dsimp only; decide⟩
theorem t0_in (x : Say) : t0 x ∈ x.tms ∧ x.tms[0]? = some (t0 x) ∧ ((t0 x).2.2 = 1 ∨ (t0 x).2.2 = 4) := by
  cases x with
  | at_ n p i => exact ⟨List.mem_cons_self, rfl, .inl rfl⟩
  | bes n s o b =>
    have e : (Say.bes n s o b).tms = besT n s o := rfl
    unfold t0
    rw [e]
    unfold besT
    split <;> exact ⟨List.mem_cons_self, rfl, .inl rfl⟩
  | alk n p o m => exact ⟨List.mem_cons_self, rfl, .inl rfl⟩
  | amd n v o u => exact ⟨List.mem_cons_self, rfl, .inr rfl⟩
theorem hidN_at {ps : Pls} (hp : PlOk ps) {n p : Str} (hn : n ∈ ps.map (·.1)) (hpp : p ∈ partL) : ∃ l v, getK (hidN ps) n = some l ∧ l[partIx p]? = some v ∧ hidAt (hidN ps) n p = some v := by
  have e : (hidN ps).map (·.1) = ps.map (·.1) := by unfold hidN; rw [List.map_map]; rfl
  obtain ⟨l, h1, h2⟩ := getK_some (hidN ps) n (by rw [e]; exact hn)
  unfold hidN at h2
  obtain ⟨q, hq, eq⟩ := List.mem_map.mp h2
  have hl : l.length = 4 := by
    cases eq
    unfold flo
    rw [List.length_map]
    exact (hp.2.2 q hq).1
  have hi : partIx p < l.length := by
    rw [hl]
    unfold partL at hpp
    simp only [List.mem_cons, List.not_mem_nil, or_false] at hpp
    rcases hpp with rfl | rfl | rfl | rfl <;> decide +kernel
  exact ⟨l, l[partIx p], h1, List.getElem?_eq_getElem hi, by unfold hidAt; rw [h1]; exact List.getElem?_eq_getElem hi⟩
theorem fit_hid {ps : Pls} (hp : PlOk ps) {x : Say} (h : x.fit ps) : HidOk (hidN ps) x := fun t ht => by
  obtain ⟨h1, h2, h3⟩ := fit_tms h t ht
  obtain ⟨l, v, _, _, e⟩ := hidN_at hp h1 h2
  exact ⟨h2, h3, v, e⟩
/-! private lists -/
abbrev As : Type := List ((Str × List Sh) × Addr)
def asK (zs : As) : List (Key × V) := zs.map fun z => (Sum.inr z.1.1, V.ref z.2)
def asD (g : Str × List Sh → List Int) (zs : As) : List (Key × D) := zs.map fun z => (Sum.inr z.1.1, D.lst ((g z.1).map D.int))
theorem as_keys (g : Str × List Sh → List Int) (zs : As) : (asK zs).map (·.1) = (asD g zs).map (·.1) := by unfold asK asD; rw [List.map_map, List.map_map]; rfl
theorem as_dats {K : PySem.W.Frag} {S : Hp} (g : Str × List Sh → List Int) : ∀ zs : As, (∀ z ∈ zs, S z.2 = some (.lst ((g z.1).map V.int))) → Dats K S ((asK zs).map (·.2)) ((asD g zs).map (·.2))
  | [], _ => .nil
  | z :: zs, h => .cons (.lst (h z List.mem_cons_self) (Dats.ofInts _)) (as_dats g zs fun y hy => h y (List.mem_cons_of_mem _ hy))
theorem asD_hid (g : Str × List Sh → List Int) (zs : As) : asD g zs = ((zs.map (·.1)).map fun p => (p.1, g p)).map fun p => ((Sum.inr p.1 : Key), D.lst (p.2.map D.int)) := by unfold asD; rw [List.map_map, List.map_map]; rfl
def Inv1 (ps : Pls) (i : Nat) (F : Hp) (σ : St) : Prop := ∃ (dl : Addr) (zs : As), σ[7]? = some (some (.ref dl)) ∧ zs.map (·.1) = ps.take i ∧ F dl = some (.dK (asK zs)) ∧ (∀ z ∈ zs, F z.2 = some (.lst ((flo z.1.2).map V.int))) ∧ (∀ z ∈ zs, z.2 ≠ dl) ∧ (zs.map (·.2)).Nodup
theorem putK_new {κ : Type} [DecidableEq κ] (l : List (κ × V)) (k : κ) (v : V) (h : k ∉ l.map (·.1)) : putK l k v = l ++ [(k, v)] := by
  unfold putK
  rw [if_neg]
  intro z
  obtain ⟨p, h1, h2⟩ := List.any_eq_true.mp z
  exact h (List.mem_map.mpr ⟨p, h1, of_decide_eq_true h2⟩)
theorem pl_new {ps : Pls} (nd : (ps.map (·.1)).Nodup) {i : Nat} {p : Str × List Sh} (hp : ps[i]? = some p) : p.1 ∉ (ps.take i).map (·.1) := fun z => by
  obtain ⟨q, hq, e⟩ := List.mem_map.mp z
  obtain ⟨j, hj, hq⟩ := List.mem_iff_getElem.mp hq
  rw [List.length_take] at hj
  rw [List.getElem_take] at hq
  have hi : i < ps.length := (List.getElem?_eq_some_iff.mp hp).1
  have hp' : ps[i] = p := (List.getElem?_eq_some_iff.mp hp).2
  refine (List.pairwise_iff_getElem.mp nd j i (by rw [List.length_map]; omega) (by rw [List.length_map]; exact hi) (by omega)) ?_
  rw [List.getElem_map, List.getElem_map, hq, hp', e]
theorem pl_get {ps : Pls} (nd : (ps.map (·.1)).Nodup) {α : Type} (f : List Sh → α) {p : Str × List Sh} (hm : p ∈ ps) : getK (ps.map fun q => ((Sum.inr q.1 : Key), f q.2)) (Sum.inr p.1) = some (f p.2) := by
  refine (getK_map (κ' := Key) Sum.inr inr_inj f ps p.1).trans ?_
  obtain ⟨i, hi, hp⟩ := List.mem_iff_getElem.mp hm
  obtain ⟨l, h1, h2⟩ := getK_some ps p.1 (List.mem_map_of_mem hm)
  rw [h1]
  obtain ⟨j, hj, hq⟩ := List.mem_iff_getElem.mp h2
  have : j = i := by
    rcases Nat.lt_trichotomy j i with z | z | z
    · exact absurd (by rw [List.getElem_map, List.getElem_map, hq, hp]) (List.pairwise_iff_getElem.mp nd j i (by rw [List.length_map]; exact hj) (by rw [List.length_map]; exact hi) z)
    · exact z
    · exact absurd (by rw [List.getElem_map, List.getElem_map, hq, hp]) (List.pairwise_iff_getElem.mp nd i j (by rw [List.length_map]; exact hi) (by rw [List.length_map]; exact hj) z)
  subst this
  rw [hq] at hp
  rw [← hp]
  rfl
theorem getK_mid {α : Type} : ∀ (A : List (Key × α)) (k : Key) (v : α) (B : List (Key × α)), k ∉ A.map (·.1) → getK (A ++ (k, v) :: B) k = some v
  | [], k, v, B, _ => by show (if k = k then some v else _) = _; rw [if_pos rfl]
  | p :: A, k, v, B, h => by
    rw [List.map_cons, List.mem_cons, not_or] at h
    show (if p.1 = k then some p.2 else getK (A ++ (k, v) :: B) k) = _
    rw [if_neg (fun z => h.1 z.symm), getK_mid A k v B h.2]
theorem putG_mid {α : Type} : ∀ (A : List (Key × α)) (k : Key) (v v' : α) (B : List (Key × α)), k ∉ A.map (·.1) → putG (A ++ (k, v) :: B) k v' = A ++ (k, v') :: B
  | [], k, v, v', B, _ => by show (if k = k then (k, v') :: B else _) = _; rw [if_pos rfl]; rfl
  | p :: A, k, v, v', B, h => by
    rw [List.map_cons, List.mem_cons, not_or] at h
    show (if p.1 = k then (k, v') :: (A ++ (k, v) :: B) else p :: putG (A ++ (k, v) :: B) k v') = _
    rw [if_neg (fun z => h.1 z.symm), putG_mid A k v v' B h.2]
    rfl
def lstE (p : Str × List Int) : Key × D := (Sum.inr p.1, .lst (p.2.map .int))
def tupE (p : Str × List Int) : Key × D := (Sum.inr p.1, .tup (p.2.map fun v => encSh (ofI v)))
def mixE (h : Hid) (i : Nat) : List (Key × D) := (h.take i).map tupE ++ (h.drop i).map lstE
theorem mixE_keys (h : Hid) (i : Nat) : (mixE h i).map (·.1) = h.map fun p => (Sum.inr p.1 : Key) := by
  unfold mixE
  rw [List.map_append, List.map_map, List.map_map]
  rw [show ((h.take i).map ((fun x : Key × D => x.1) ∘ tupE)) = (h.take i).map (fun p => (Sum.inr p.1 : Key)) from rfl, show ((h.drop i).map ((fun x : Key × D => x.1) ∘ lstE)) = (h.drop i).map (fun p => (Sum.inr p.1 : Key)) from rfl, ← List.map_append, List.take_append_drop]
theorem noOw_of {γ : Gm} (h : γ.all (fun s => !isOw s) = true) : noOw γ := fun i d e => by
  have z := List.all_eq_true.mp h _ (List.mem_of_getElem? e)
  cases z
theorem Pv.wk {K : PySem.W.Frag} {γ γ' : Gm} {F H0 S0 S H : Hp} {σ : St} (p : Pv K γ F H0 S0 S H σ) (h : Wk γ γ') (no : noOw γ') : Pv K γ' F H0 S0 S H σ := ⟨p.ok.wk h, no, p.fh, p.fs, p.f0⟩
end K1
set_option Elab.async false
set_option linter.all false
set_option maxRecDepth 100000
set_option maxHeartbeats 4000000
namespace K1
open PySem PySem.Spec L2 Wd
open PyProof.Rows hiding St
def gN (ps : Pls) (x : Say) (s10 s13 : Wd.Slot) : Gm := [.sh (encPls ps), .sh x.t, .sh (.lst (x.tms.map encTm)), .sh (.int x.num), .sh (.str (t0 x).1), .sh (.str (t0 x).2.1), .sh (.int (t0 x).2.2), .un, .un, .un, s10, .un, .un, s13]
theorem as_new {F : Hp} {dl l : Addr} {zs : As} {p : Str × List Sh} (hF : F dl = some (.dK (asK zs))) (hv : ∀ z ∈ zs, F z.2 = some (.lst ((flo z.1.2).map V.int))) (hn : ∀ z ∈ zs, z.2 ≠ dl) (nd : (zs.map (·.2)).Nodup) (hk : p.1 ∉ (zs.map (·.1)).map (·.1)) (ne : l ≠ dl) (hl : F l = none) :
    putK (asK zs) (Sum.inr p.1) (.ref l) = asK (zs ++ [(p, l)]) ∧ (∀ z ∈ zs ++ [(p, l)], (upd (upd F dl (.dK (putK (asK zs) (Sum.inr p.1) (.ref l)))) l (.lst ((flo p.2).map V.int))) z.2 = some (.lst ((flo z.1.2).map V.int))) ∧ (∀ z ∈ zs ++ [(p, l)], z.2 ≠ dl) ∧ ((zs ++ [(p, l)]).map (·.2)).Nodup := by
  have nel : ∀ z ∈ zs, z.2 ≠ l := fun z hz e => by rw [← e, hv z hz] at hl; cases hl
  refine ⟨?_, fun z hz => ?_, fun z hz => ?_, ?_⟩
  · rw [putK_new]
    · unfold asK; rw [List.map_append]; rfl
    · intro z
      unfold asK at z
      rw [List.map_map] at z
      obtain ⟨q, h1, h2⟩ := List.mem_map.mp z
      exact hk (List.mem_map.mpr ⟨q.1, List.mem_map_of_mem h1, inr_inj _ _ h2⟩)
  · rcases List.mem_append.mp hz with hz | hz
    · rw [upd_ne (nel z hz), upd_ne (hn z hz)]; exact hv z hz
    · rw [List.mem_singleton.mp hz]; exact upd_same
  · rcases List.mem_append.mp hz with hz | hz
    · exact hn z hz
    · rw [List.mem_singleton.mp hz]; exact ne
  · rw [List.map_append, List.nodup_append]
    refine ⟨nd, by simp, fun a ha b hb e => ?_⟩
    obtain ⟨z, hz, rfl⟩ := List.mem_map.mp ha
    have : b = l := by simpa using hb
    exact nel z hz (e.trans this)
section
variable {P : Program} {w : World} {K : PySem.W.Frag} {mg : Str → Option Value} {base : Heap} (Z : Env K mg w)
include Z
theorem bi_l_near : Binds K Z.d_l_near ["_law_places", "_law_said"] [] := Z.F_l_near.bindsN fun _ _ _ _ _ _ us hl => match us, hl with | [_, _], _ => rfl
/-- the walk that makes the tuples, and the end -/
theorem near_tail (cdv : Value) (A : Around) (outer : List PySem.Env) (s : Shared) (H : Hp) (E : XK) (fx : Fx (bodyX P w K mg base N_l_near "_law_near" (defScope s_l_near) (He.ga K "_law_near") cdv A outer s H E) P w K mg base N_l_near 1)
    (h : Hid) (nd : (h.map (·.1)).Nodup) (hl6 : h.length ≤ 6) (h4 : ∀ p ∈ h, p.2.length = 4) (g0 g1 g2 g3 g4 g5 g6 g10 g13 : Wd.Slot) :
    PSsD K (bodyX P w K mg base N_l_near "_law_near" (defScope s_l_near) (He.ga K "_law_near") cdv A outer s H E) ((defBody s_l_near).drop 7) [g0, g1, g2, g3, g4, g5, g6, .ow (.dk (h.map lstE)), .un, .un, g10, .un, .un, g13] (.rt (.ow (encPls (h.map fun p => (p.1, p.2.map ofI))))) := by
  have e0 : h.map lstE = mixE h 0 := rfl
  rw [e0]
  refine pssd_cons (psd_for fx h (fun p => D.str p.1) (fun i => [g0, g1, g2, g3, g4, g5, g6, .ow (.dk (mixE h i)), .un, .un, g10, .un, .un, g13]) (by
    rw [show h.map (fun p => D.str p.1) = (h.map (·.1)).map D.str by rw [List.map_map]; rfl]
    exact pid_list fx .lst (PED.share (pd_listO fx 7 (ns := h.map (·.1)) rfl (by rw [mixE_keys, List.map_map]; rfl) Z.b_list))) (Wk.refl _) fun i p hp => ?_) ?_
  · have hi : i < h.length := (List.getElem?_eq_some_iff.mp hp).1
    have hp' : h[i] = p := (List.getElem?_eq_some_iff.mp hp).2
    have em : mixE h i = (h.take i).map tupE ++ (Sum.inr p.1, D.lst (p.2.map .int)) :: (h.drop (i + 1)).map lstE := by
      unfold mixE
      rw [List.drop_eq_getElem_cons hi, hp']
      rfl
    have em2 : mixE h (i + 1) = (h.take i).map tupE ++ (Sum.inr p.1, D.tup (p.2.map fun v => encSh (ofI v))) :: (h.drop (i + 1)).map lstE := by
      unfold mixE
      rw [List.take_add_one, hp, List.map_append, List.append_assoc]
      rfl
    have hk : (Sum.inr p.1 : Key) ∉ ((h.take i).map tupE).map (·.1) := fun z => by
      rw [List.map_map] at z
      obtain ⟨q, hq, e⟩ := List.mem_map.mp z
      have e : q.1 = p.1 := inr_inj _ _ e
      obtain ⟨j, hj, hq⟩ := List.mem_iff_getElem.mp hq
      rw [List.length_take] at hj
      rw [List.getElem_take] at hq
      refine (List.pairwise_iff_getElem.mp nd j i (by rw [List.length_map]; omega) (by rw [List.length_map]; exact hi) (by omega)) ?_
      rw [List.getElem_map, List.getElem_map, hq, hp', e]
    have ndk : ((mixE h i).map (·.1)).Nodup := by
      rw [mixE_keys]
      exact List.pairwise_map.mpr ((List.pairwise_map.mp nd).imp fun h z => h (inr_inj _ _ z))
    have hget : getK (mixE h i) (Sum.inr p.1) = some (.lst (p.2.map .int)) := by rw [em]; exact getK_mid _ _ _ _ hk
    have hput : putG (mixE h i) (Sum.inr p.1) (.tup (p.2.map fun v => encSh (ofI v))) = mixE h (i + 1) := by rw [em, putG_mid _ _ _ _ _ hk, em2]
    refine ⟨_, _, _, tgd_name fx 8, .inl (pssd_one (psd_dput fx 7 (key := Sum.inr p.1) rfl (pd_bty fx (fun i => call_tuple_of) Z.b_tuple (pad_cons (PED.share (pd_lcA fx [("_law_one", 9)] p.2 D.int (fun v => encSh (ofI v)) (pid_list fx .lst (pd_subO fx 7 rfl (pd_var fx 8) hget)) (by rw [h4 p (List.mem_of_getElem? hp), sizeLine_eq]; decide) fun v hv => ⟨_, _, tgd_name fx.bk 9, fun _ h => h, pd_tup (pad_cons (pd_var fx.bk 9) (pad_cons pd_int pad_nil))⟩)) pad_nil) (rc_tuple .lst)) (pd_var fx 8) (by have := congrArg List.length (mixE_keys h i); rw [List.length_map, List.length_map] at this; rw [this, sizeLine_eq]; omega) ndk)), ?_⟩
    rw [hput]
    exact .s (.s (.s (.s (.s (.s (.s (.s (.u (.s (.s (.s (.s (.s .n)))))))))))))
  · have e1 : mixE h h.length = (h.map fun p => (p.1, p.2.map ofI)).map fun p => ((Sum.inr p.1 : Key), D.tup (p.2.map encSh)) := by
      unfold mixE
      rw [List.take_length, List.drop_length, List.map_nil, List.append_nil, List.map_map]
      refine List.map_congr_left fun p _ => ?_
      show tupE p = (Sum.inr p.1, D.tup ((p.2.map ofI).map encSh))
      rw [List.map_map]
      rfl
    rw [e1]
    exact pssd_rt (psd_retOw fx 7)
end
end K1
set_option Elab.async false
set_option linter.all false
set_option maxRecDepth 100000
set_option maxHeartbeats 4000000
namespace K1
open PySem PySem.Spec L2 Wd
open PyProof.Rows hiding St
theorem tgd_run {K : PySem.W.Frag} {ι : Type} {Xs : ι → Cx} {tg : Expr} {γ γ' : Gm} {d : D} {is : List Nat} {H0 S0 S H : Hp} {σ : St} {v : V} {Q : St → Hp → Prop} (h : TgD K Xs tg γ d γ' is) (k : Ok K H0 S0 S H σ γ) (hd : Dat K S v d) (q : ∀ σ', Ok K H0 S0 S H σ' γ' → (∀ j, j ∉ is → σ'[j]? = σ[j]?) → Q σ' H) : anyG Xs tg v σ H Q :=
  h H0 S0 S H σ v k hd Q fun σ' k' _ e => q σ' k' e
theorem partIx_lt {p : Str} (h : p ∈ partL) : partIx p < 4 := by
  unfold partL at h
  simp only [List.mem_cons, List.not_mem_nil, or_false] at h
  rcases h with rfl | rfl | rfl | rfl <;> decide +kernel
theorem ixN_nat {n j : Nat} (h : j < n) : ixN n (j : Int) = some j := by
  unfold ixN
  rw [if_pos (by omega), if_pos (by omega)]
  rfl
section
variable {P : Program} {w : World} {K : PySem.W.Frag} {mg : Str → Option Value} {base : Heap} (Z : Env K mg w)
include Z
theorem ok_l_near : FnOk P w K mg base (L2.CX P w) 2 (He.ga K "_law_near") Z.d_l_near ["_law_places", "_law_said"] (spD K PrNear) := by
  refine fn_data Z.F_l_near sc_l_near (fun ds r ⟨x, _, _, _, e, _⟩ => (by rw [e]; rfl)) fun cdv A outer s H E fx ds r hp => ?_
  obtain ⟨ps, x, hpl, hfit, rfl, rfl⟩ := hp
  obtain ⟨l6, nd, pok⟩ := hpl
  have hid := fit_hid ⟨l6, nd, pok⟩ hfit
  obtain ⟨t1, t2, t3⟩ := t0_in x
  obtain ⟨f1, f2, f3⟩ := fit_tms hfit (t0 x) t1
  refine ⟨.rt _, ?_, .rt⟩
  refine pssd_cons (psd_asg fx (pd_call fx (ok_l_terms Z) Z.m_l_terms Z.F_l_terms.kp (bi_l_terms Z) .nil (fun _ => .nil) (pad_cons (pd_var fx 1) pad_nil) ⟨x, fit_wd hfit, rfl, rfl⟩) (tgd_tup fx .tup (tgsd_cons (tgd_name fx 2) (tgsd_cons (tgd_name fx 3) tgsd_nil)))) ?_
  have a0 : atI (x.tms.map encTm) 0 = some (encTm (t0 x)) := atI_nat (j := 0) (by rw [List.getElem?_map, t2]; rfl)
  refine pssd_cons (psd_asg fx (pd_sub fx (pd_var fx 2) pd_int (.lst .lst a0)) (tgd_tup fx .tup (tgsd_cons (tgd_name fx 4) (tgsd_cons (tgd_name fx 5) (tgsd_cons (tgd_name fx 6) tgsd_nil))))) ?_
  refine pssd_cons (psd_set fx 7 pd_newK) ?_
  intro H0 S0 S H σ En k0 q
  obtain ⟨dl, o, hσ, ho, ⟨kv0, hkv, hk0, _⟩, pv⟩ := Pv.enter (i := 7) k0 rfl (noOw_of rfl)
  have kv0e : kv0 = [] := by simpa using hk0
  subst kv0e
  rw [hkv] at ho
  cases ho
  refine rs_cons (as_forKP fx 0 (ds := ps.map fun p => ((Sum.inr p.1 : Key), D.tup (p.2.map encSh))) ps (fun p => (Sum.inr p.1 : Key)) (by rw [List.map_map]; rfl) (γ := gN ps x .un .un) (Inv1 ps) pv ⟨dl, [], hσ, rfl, upd_same, fun z h => absurd h List.not_mem_nil, fun z h => absurd h List.not_mem_nil, List.nodup_nil⟩ ?_ ?_)
  · intro i p hp F H0 S0 S H σ En pv ⟨dl, zs, hσ, hz, hF, hv, hn, ndz⟩ q
    have hm : p ∈ ps := List.mem_of_getElem? hp
    obtain ⟨p4, psh⟩ := pok p hm
    refine tgd_run (d := .str p.1) (tgd_name fx 8) pv.ok .str fun σ' ok' keep => ?_
    have pv' : Pv K _ F H0 S0 S H σ' := ⟨ok', noOw_of rfl, pv.fh, pv.fs, pv.f0⟩
    have hlen : zs.length = min i ps.length := by have z := congrArg List.length hz; rw [List.length_map, List.length_take] at z; exact z
    refine rs_cons (as_putNew fx 7 (ds := (flo p.2).map .int) (key := Sum.inr p.1) pv' ((keep 7 (by decide)).trans hσ) hF (pd_cast (by unfold flo; rw [List.map_map]; rfl) (pd_lcA fx [("_law_one", 9)] p.2 encSh (fun s => D.int (s.1 / s.2)) (pid_tup fx .tup (pd_sub fx (pd_var fx 0) (pd_var fx 8) (.dks (pl_get nd (fun l => D.tup (l.map encSh)) hm)))) (by rw [p4, sizeLine_eq]; decide) fun s hs => ⟨_, _, tgd_name fx.bk 9, fun _ h => h, pd_op (fun _ => op_fdiv) (pd_sub fx.bk (pd_var fx.bk 9) pd_int (.tup .tup rfl)) (pd_sub fx.bk (pd_var fx.bk 9) pd_int (.tup .tup rfl)) (rd_fdiv (by unfold CDiv; have := (psh s hs).2; omega))⟩)) (pd_var fx 8) (by unfold asK; rw [List.length_map, hlen, sizeLine_eq]; omega) fun S' H' l xs ne hl tl pv2 => ?_)
    rw [tl.ints] at pv2
    refine ⟨tNext, fun _ => pss_nil, ?_⟩
    obtain ⟨n1, n2, n3, n4⟩ := as_new hF hv hn ndz (by rw [hz]; exact pl_new nd hp) ne hl
    refine q _ S' H' σ' (Pv.wk pv2 (.s (.s (.s (.s (.s (.s (.s (.s (.u (.s (.s (.s (.s (.s .n)))))))))))))) (noOw_of rfl)) ⟨dl, zs ++ [(p, l)], (keep 7 (by decide)).trans hσ, ?_, ?_, n2, n3, n4⟩
    · rw [List.map_append, hz, List.take_add_one, hp]; rfl
    · rw [upd_ne (fun z => ne z.symm), upd_same, n1]
  · intro F S H σ pv ⟨dl, zs, hσ, hz, hF, hv, hn, ndz⟩
    rw [List.take_length] at hz
    subst hz
    have hdat : ∀ (g : Str × List Sh → List Int) (F : Hp), F dl = some (.dK (asK zs)) → (∀ z ∈ zs, F z.2 = some (.lst ((g z.1).map V.int))) → ∀ S, Dat K (uni S F) (.ref dl) (.dk (asD g zs)) := fun g F h1 h2 S => .dk (uni_F h1) (as_keys g zs) (as_dats g zs fun z hz => uni_F (h2 z hz))
    have hidD : encHid (hidN (zs.map (·.1))) = .dk (asD (fun p => flo p.2) zs) := by unfold encHid hidN; rw [asD_hid]
    -- over
    refine rs_cons (as_set fx 10 (pv.evalF (i := 7) (d := encHid (hidN (zs.map (·.1)))) (r := .sh (.int (leftOf (hidN (zs.map (·.1))) x))) (Nat.le_of_ble_eq_true rfl) hσ (by rw [hidD]; exact hdat _ F hF hv S) ?_ fun u S' H' pv1 g1 s1 r1 => ?_))
    · refine pd_minus (pd_sumC fx [("_law_one", 9), ("_law_which", 11), ("_law_count", 12)] x.tms encTm (fun t => t.2.2 * (hidAt (hidN (zs.map (·.1))) t.1 t.2.1).getD 0) Z.b_sum (pid_list fx .lst (pd_var fx 2)) (by have := tms_len x; rw [sizeLine_eq]; omega) fun t ht => ⟨_, _, tgd_tup fx.bk .tup (tgsd_cons (tgd_name fx.bk 9) (tgsd_cons (tgd_name fx.bk 11) (tgsd_cons (tgd_name fx.bk 12) tgsd_nil))), fun _ h => h, ?_⟩) (pd_var fx 3)
      obtain ⟨h1, h2, v, h3⟩ := hid t ht
      obtain ⟨l, hl1, hl2⟩ := Option.bind_eq_some_iff.mp h3
      have e1 : getK ((hidN (zs.map (·.1))).map fun p => ((Sum.inr p.1 : Key), D.lst (p.2.map D.int))) (Sum.inr t.1) = some (.lst (l.map D.int)) := (getK_map (κ' := Key) Sum.inr inr_inj (fun v : List Int => D.lst (v.map D.int)) _ t.1).trans (by rw [hl1]; rfl)
      have e2 : atI (l.map D.int) (partIx t.2.1 : Nat) = some (.int v) := atI_nat (by rw [List.getElem?_map, hl2]; rfl)
      rw [h3]
      exact pd_mul (pd_var fx.bk 12) (pd_sub fx.bk (pd_sub fx.bk (pd_var fx.bk 7) (pd_var fx.bk 9) (.dks e1)) (pd_index fx.bk (PED.share (pd_call0 fx.bk (ok_l_parts Z) Z.m_l_parts Z.F_l_parts.kp (bi_l_parts Z) .nil (fun _ => .nil) ⟨rfl, rfl⟩)) .lst (pd_var fx.bk 11) (part_first h1)) (.lst .lst e2)) (.inl (sm64 h2))
    have hu : u = .int (leftOf (hidN (zs.map (·.1))) x) := by cases r1; rfl
    subst hu
    have pv2 := pv1.sets (j := 10) (d := .int (leftOf (hidN (zs.map (·.1))) x)) (Nat.le_of_ble_eq_true rfl) .int
    -- at
    refine rs_cons (as_set fx 13 (pv2.eval (r := .sh (.int (partIx (t0 x).2.1 : Nat))) (pd_index fx (PED.share (pd_call0 fx (ok_l_parts Z) Z.m_l_parts Z.F_l_parts.kp (bi_l_parts Z) .nil (fun _ => .nil) ⟨rfl, rfl⟩)) .lst (pd_var fx 5) (part_first f2)) fun u S2 H2 pv3 g2 s2 r2 => ?_))
    have hu2 : u = .int (partIx (t0 x).2.1 : Nat) := by cases r2; rfl
    subst hu2
    have pv4 := pv3.sets (j := 13) (d := .int (partIx (t0 x).2.1 : Nat)) (Nat.le_of_ble_eq_true rfl) .int
    have hσ4 : ((σ.set 10 (some (.int (leftOf (hidN (zs.map (·.1))) x)))).set 13 (some (.int (partIx (t0 x).2.1 : Nat))))[7]? = some (some (.ref dl)) := by rw [List.getElem?_set_ne (by decide), List.getElem?_set_ne (by decide)]; exact hσ
    -- the one list
    obtain ⟨l1, v1, c1, c2, c3⟩ := hidN_at ⟨l6, nd, pok⟩ f1 f2
    obtain ⟨p0, hp0, en0⟩ := List.mem_map.mp f1
    obtain ⟨z0, hz0, ez0⟩ := List.mem_map.mp hp0
    have hl1 : l1 = flo p0.2 := by
      have z := pl_get (α := List Int) nd flo hp0
      have z2 := getK_map (κ' := Key) Sum.inr inr_inj (fun l : List Int => l) (hidN (zs.map (·.1))) (t0 x).1
      have z3 : (hidN (zs.map (·.1))).map (fun p => ((Sum.inr p.1 : Key), p.2)) = (zs.map (·.1)).map fun q => ((Sum.inr q.1 : Key), flo q.2) := by unfold hidN; rw [List.map_map]; rfl
      rw [z3, c1, ← en0, z] at z2
      exact (Option.some.inj z2).symm
    subst hl1
    have hi4 : (flo p0.2).length = 4 := by unfold flo; rw [List.length_map]; exact (pok p0 hp0).1
    have hval : valV (asK zs) (Sum.inr (t0 x).1) = some (.ref z0.2) := by
      have uniq : ∀ ws : As, (ws.map (·.1) |>.map (·.1)).Nodup → z0 ∈ ws → valV (asK ws) (Sum.inr z0.1.1) = some (.ref z0.2) := by
        intro ws
        induction ws with
        | nil => intro _ h; cases h
        | cons y r ih =>
          intro nd hm
          rw [List.map_cons, List.map_cons, List.nodup_cons] at nd
          rcases List.mem_cons.mp hm with e | hm
          · subst e; exact valV_pos rfl
          · refine (valV_neg (fun e => nd.1 ?_)).trans (ih nd.2 hm)
            have e := inr_inj _ _ e
            exact List.mem_map.mpr ⟨z0.1, List.mem_map_of_mem hm, e.symm⟩
      have z := uniq zs nd hz0
      rw [ez0, en0] at z
      exact z
    have newE : ((flo p0.2).map V.int).set (partIx (t0 x).2.1) (V.int (nearV (zs.map (·.1)) x)) = ((flo p0.2).set (partIx (t0 x).2.1) (nearV (zs.map (·.1)) x)).map V.int := List.map_set.symm
    have e1 : getK (asD (fun p => flo p.2) zs) (Sum.inr (t0 x).1) = some (.lst ((flo p0.2).map D.int)) := by
      rw [asD_hid]
      exact (getK_map (κ' := Key) Sum.inr inr_inj (fun v : List Int => D.lst (v.map D.int)) _ (t0 x).1).trans (by rw [show getK ((zs.map (·.1)).map fun p => (p.1, flo p.2)) (t0 x).1 = some (flo p0.2) from c1]; rfl)
    have e2 : atI ((flo p0.2).map D.int) (partIx (t0 x).2.1 : Nat) = some (.int v1) := atI_nat (by rw [List.getElem?_map, c2]; rfl)
    have ev : nearV (zs.map (·.1)) x = v1 - leftOf (hidN (zs.map (·.1))) x / (t0 x).2.2 := by unfold nearV; rw [c3]; rfl
    refine rs_cons (as_putAt fx 7 (d := .dk (asD (fun p => flo p.2) zs)) (key := Sum.inr (t0 x).1) (dl := dl) (l := z0.2) (kv := asK zs) (m := nearV (zs.map (·.1)) x) (mi := (partIx (t0 x).2.1 : Nat)) (n := partIx (t0 x).2.1) pv4 (Nat.le_of_ble_eq_true rfl) hσ4 hF hval (by rw [hv z0 hz0, ez0]) (hdat _ F hF hv S2) (pd_cast (slotI ev.symm) (pd_minus (pd_sub fx (pd_sub fx (pd_var fx 7) (pd_var fx 4) (.dks e1)) (pd_var fx 13) (.lst .lst e2)) (pd_op (fun _ => op_fdiv) (pd_var fx 10) (pd_var fx 6) (rd_fdiv (by unfold CDiv; omega))))) (pd_var fx 4) (pd_var fx 13) (by rw [List.length_map, hi4]; exact ixN_nat (partIx_lt f2)) fun S5 H5 _ ex5 pv5 => ?_)
    rw [newE] at pv5
    have nel : ∀ z ∈ zs, z.2 = z0.2 → z = z0 := fun z hz e => by
      obtain ⟨i, hi, ei⟩ := List.mem_iff_getElem.mp hz
      obtain ⟨j, hj, ej⟩ := List.mem_iff_getElem.mp hz0
      rcases Nat.lt_trichotomy i j with h | h | h
      · exact absurd (by rw [List.getElem_map, List.getElem_map, ei, ej, e]) (List.pairwise_iff_getElem.mp ndz i j (by rw [List.length_map]; exact hi) (by rw [List.length_map]; exact hj) h)
      · subst h; rw [← ei, ← ej]
      · exact absurd (by rw [List.getElem_map, List.getElem_map, ei, ej, e]) (List.pairwise_iff_getElem.mp ndz j i (by rw [List.length_map]; exact hj) (by rw [List.length_map]; exact hi) h)
    have nel2 : ∀ z ∈ zs, z.1.1 = (t0 x).1 → z = z0 := fun z hz e => by
      have e : z.1.1 = z0.1.1 := by rw [ez0, en0]; exact e
      obtain ⟨i, hi, ei⟩ := List.mem_iff_getElem.mp hz
      obtain ⟨j, hj, ej⟩ := List.mem_iff_getElem.mp hz0
      rw [List.map_map] at nd
      rcases Nat.lt_trichotomy i j with h | h | h
      · exact absurd (by rw [List.getElem_map, List.getElem_map, ei, ej]; exact e) (List.pairwise_iff_getElem.mp nd i j (by rw [List.length_map]; exact hi) (by rw [List.length_map]; exact hj) h)
      · subst h; rw [← ei, ← ej]
      · exact absurd (by rw [List.getElem_map, List.getElem_map, ei, ej]; exact e.symm) (List.pairwise_iff_getElem.mp nd j i (by rw [List.length_map]; exact hj) (by rw [List.length_map]; exact hi) h)
    have hv5 : ∀ z ∈ zs, (upd F z0.2 (.lst (((flo p0.2).set (partIx (t0 x).2.1) (nearV (zs.map (·.1)) x)).map V.int))) z.2 = some (.lst ((nearG (zs.map (·.1)) x z.1).map V.int)) := fun z hz => by
      by_cases e : z.2 = z0.2
      · have := nel z hz e
        subst this
        rw [upd_same]
        unfold nearG
        rw [ez0, if_pos en0]
      · rw [upd_ne e, hv z hz]
        unfold nearG
        rw [if_neg (fun h => e (by rw [nel2 z hz h]))]
    let F2 : Hp := fun a => if a = dl then none else (upd F z0.2 (.lst (((flo p0.2).set (partIx (t0 x).2.1) (nearV (zs.map (·.1)) x)).map V.int))) a
    have hF2 : ∀ a, a ≠ dl → F2 a = (upd F z0.2 (.lst (((flo p0.2).set (partIx (t0 x).2.1) (nearV (zs.map (·.1)) x)).map V.int))) a := fun a h => if_neg h
    have dF : (upd F z0.2 (.lst (((flo p0.2).set (partIx (t0 x).2.1) (nearV (zs.map (·.1)) x)).map V.int))) dl = some (.dK (asK zs)) := by rw [upd_ne (fun e => hn z0 hz0 e.symm)]; exact hF
    have kk := pv5.exit (i := 7) (dl := dl) (F' := F2) (d := .dk (asD (nearG (zs.map (·.1)) x) zs)) (fun a o h => by
      by_cases e : a = dl
      · rw [show F2 a = none from if_pos e] at h; cases h
      · rw [hF2 a e] at h; exact h) (if_pos rfl) dF (Nat.le_of_ble_eq_true rfl) hσ4 ⟨asK zs, pv5.fh _ _ dF, as_keys _ zs, as_dats _ zs fun z hz => uni_F (by rw [hF2 _ (hn z hz)]; exact hv5 z hz)⟩
    have eH : asD (nearG (zs.map (·.1)) x) zs = (nearH (zs.map (·.1)) x).map lstE := by unfold nearH; rw [asD_hid]; rfl
    rw [eH] at kk
    have hkeys : (nearH (zs.map (·.1)) x).map (·.1) = (zs.map (·.1)).map (·.1) := by unfold nearH; rw [List.map_map]; rfl
    exact near_tail Z cdv A outer s _ E fx (nearH (zs.map fun z : (Str × List Sh) × Addr => z.1) x) (by rw [hkeys]; exact nd) (by unfold nearH; rw [List.length_map]; exact l6) (fun p hp => by
      unfold nearH at hp
      obtain ⟨q, hq, rfl⟩ := List.mem_map.mp hp
      show (nearG (zs.map (·.1)) x q).length = 4
      unfold nearG flo
      split
      · rw [List.length_set, List.length_map]; exact (pok q hq).1
      · rw [List.length_map]; exact (pok q hq).1) _ _ _ _ _ _ _ _ _ H0 S0 _ _ _ En kk q
end
end K1
set_option Elab.async false
set_option linter.all false
set_option maxRecDepth 100000
set_option maxHeartbeats 4000000
namespace K1
open PySem PySem.Spec L2 Wd
open PyProof.Rows hiding St
/-! ### a sum comes out just where the words hold -/
def ShAt (ps : Pls) (t : Tm) : Prop := ∃ s, shareAt ps t.1 t.2.1 = some s ∧ ShOk s ∧ wv ps t.1 t.2.1 = sc7 s
theorem sc7_mul {s : Sh} (h : ShOk s) : s.1 * 7560 = sc7 s * s.2 := by
  obtain ⟨_, h1, h2⟩ := h
  have e : (7560 : Int) = 7560 / s.2 * s.2 := by
    have : s.2 = 1 ∨ s.2 = 2 ∨ s.2 = 3 ∨ s.2 = 4 ∨ s.2 = 5 ∨ s.2 = 6 ∨ s.2 = 7 := by omega
    rcases this with h | h | h | h | h | h | h <;> rw [h] <;> rfl
  unfold sc7
  rw [Int.mul_assoc, ← e]
theorem fold_out (ps : Pls) : ∀ (ts : List Tm) (a : Int × Int) (W : Int), (∀ t ∈ ts, ShAt ps t) → 0 < a.2 → a.1 * 7560 = a.2 * W →
    0 < (ts.foldl (stepOut ps) a).2 ∧ (ts.foldl (stepOut ps) a).1 * 7560 = (ts.foldl (stepOut ps) a).2 * (W + (ts.map fun t => t.2.2 * wv ps t.1 t.2.1).sum)
  | [], a, W, _, h1, h2 => ⟨h1, by rw [List.map_nil, List.sum_nil, Int.add_zero]; exact h2⟩
  | t :: ts, a, W, hs, h1, h2 => by
    obtain ⟨s, e1, e2, e3⟩ := hs t List.mem_cons_self
    have e : stepOut ps a t = (a.1 * s.2 + t.2.2 * s.1 * a.2, a.2 * s.2) := by unfold stepOut; rw [e1]
    have hp : 0 < s.2 := by have := e2.2.1; omega
    have m := sc7_mul e2
    have z := fold_out ps ts (stepOut ps a t) (W + t.2.2 * wv ps t.1 t.2.1) (fun u hu => hs u (List.mem_cons_of_mem _ hu)) (by rw [e]; exact Int.mul_pos h1 hp) (by
      rw [e, e3]
      show (a.1 * s.2 + t.2.2 * s.1 * a.2) * 7560 = a.2 * s.2 * (W + t.2.2 * sc7 s)
      have q1 : (a.1 * s.2) * 7560 = a.2 * s.2 * W := by
        rw [Int.mul_right_comm, h2, Int.mul_right_comm]
      have q2 : (t.2.2 * s.1 * a.2) * 7560 = a.2 * s.2 * (t.2.2 * sc7 s) := by
        calc (t.2.2 * s.1 * a.2) * 7560 = t.2.2 * a.2 * (s.1 * 7560) := by
              rw [Int.mul_right_comm t.2.2 s.1 a.2, Int.mul_assoc]
          _ = t.2.2 * a.2 * (sc7 s * s.2) := by rw [m]
          _ = a.2 * s.2 * (t.2.2 * sc7 s) := by
              rw [Int.mul_comm t.2.2 a.2, Int.mul_assoc, Int.mul_assoc]
              congr 1
              rw [← Int.mul_assoc, Int.mul_comm]
      rw [Int.add_mul, q1, q2, ← Int.mul_add])
    rw [List.foldl_cons, List.map_cons, List.sum_cons]
    rw [← Int.add_assoc]
    exact z
theorem out_iff {ps : Pls} {ts : List Tm} {n : Int} (h : ∀ t ∈ ts, ShAt ps t) : ((sumOut ps ts n).1 = 0) ↔ ((ts.map fun t => t.2.2 * wv ps t.1 t.2.1).sum = n * 7560) := by
  obtain ⟨h1, h2⟩ := fold_out ps ts (-n, 1) (-n * 7560) h (show (0 : Int) < 1 by decide) (by rw [Int.one_mul])
  have e : sumOut ps ts n = ts.foldl (stepOut ps) (-n, 1) := rfl
  rw [e]
  constructor
  · intro z
    rw [z, Int.zero_mul] at h2
    rcases Int.mul_eq_zero.mp h2.symm with y | y
    · omega
    · rw [Int.neg_mul] at y; omega
  · intro z
    rw [z, Int.neg_mul, Int.add_left_neg, Int.mul_zero] at h2
    omega
theorem wv_share {ps : Pls} (hp : PlOk ps) {n p : Str} (hn : n ∈ ps.map (·.1)) (hpp : p ∈ partL) : ∃ s, shareAt ps n p = some s ∧ ShOk s ∧ wv ps n p = sc7 s := by
  obtain ⟨l, h1, h2⟩ := getK_some ps n hn
  obtain ⟨q1, q2⟩ := hp.2.2 _ h2
  have hi : partIx p < l.length := by rw [q1]; exact partIx_lt hpp
  refine ⟨l[partIx p], by unfold shareAt; rw [h1]; exact List.getElem?_eq_getElem hi, q2 _ (List.getElem_mem hi), ?_⟩
  unfold wv
  rw [h1]
  show (getK (wI l) p).getD 0 = _
  unfold partL at hpp
  simp only [List.mem_cons, List.not_mem_nil, or_false] at hpp
  match l, q1 with
  | [a, b, c, d], _ =>
    rcases hpp with rfl | rfl | rfl | rfl <;> rfl
theorem wv_far {ps : Pls} {n : Str} (hn : n ∈ ps.map (·.1)) (s : Str) : wv ps n (farE s) = wv ps n (near s) + wv ps n (far s) ∧ wv ps n (farEW s) = wv ps n (nearW s) + wv ps n (farW s) := by
  obtain ⟨l, h1, h2⟩ := getK_some ps n hn
  have r : wv ps n "right" = wv ps n "left" + wv ps n "wide" := by unfold wv; rw [h1]; rfl
  have b : wv ps n "bottom" = wv ps n "top" + wv ps n "high" := by unfold wv; rw [h1]; rfl
  unfold farE near far farEW nearW farW
  constructor
  · split <;> assumption
  · split <;> assumption
theorem fit_shat {ps : Pls} (hp : PlOk ps) {x : Say} (h : x.fit ps) : ∀ t ∈ x.tms, ShAt ps t := fun t ht => by
  obtain ⟨h1, h2, _⟩ := fit_tms h t ht
  exact wv_share hp h1 h2
theorem fit_tmok {ps : Pls} (hp : PlOk ps) {x : Say} (h : x.fit ps) : ∀ t ∈ x.tms, TmOk ps t := fun t ht => by
  obtain ⟨h1, h2, h3⟩ := fit_tms h t ht
  obtain ⟨s, e1, e2, _⟩ := wv_share hp h1 h2
  exact ⟨h2, h3, s, e1, e2.1, by have := e2.2; unfold sm; omega⟩
theorem dec_iff {a b : Prop} [Decidable a] [Decidable b] (h : a ↔ b) : decide a = decide b := decide_eq_decide.mpr h
theorem keeps_words {ps : Pls} (hp : PlOk ps) {x : Say} (h : x.fit ps) : decide ((sumOut ps x.tms x.num).1 = 0) = wordsOk ps x := by
  refine (dec_iff (out_iff (fit_shat hp h))).trans ?_
  cases x with
  | at_ n p i =>
    show decide (((atT n p).map fun t => t.2.2 * wv ps t.1 t.2.1).sum = i * 7560) = decide (wv ps n p = i * 7560)
    refine dec_iff ?_
    unfold atT
    simp only [List.map_cons, List.map_nil, List.sum_cons, List.sum_nil]
    omega
  | alk n p o m =>
    show decide (((alkT n p o m).map fun t => t.2.2 * wv ps t.1 t.2.1).sum = 0 * 7560) = decide (wv ps n p = wv ps o p * m)
    refine dec_iff ?_
    unfold alkT
    simp only [List.map_cons, List.map_nil, List.sum_cons, List.sum_nil]
    rw [Int.neg_mul, Int.mul_comm m]
    omega
  | bes n s o b =>
    obtain ⟨h1, h2, h3, h4⟩ := h
    have f1 := (wv_far h1 s).1
    have f2 := (wv_far h2 s).1
    by_cases e : fwd s = true
    · rw [show wordsOk ps (.bes n s o b) = decide (wv ps n (near s) = wv ps o (farE s) + b * 7560) from if_pos e, show (Say.bes n s o b).tms = [(n, near s, 1), (o, near s, -1), (o, far s, -1)] by show besT n s o = _; unfold besT; rw [if_pos e], show (Say.bes n s o b).num = b by show besN s b = _; unfold besN; rw [if_pos e]]
      refine dec_iff ?_
      simp only [List.map_cons, List.map_nil, List.sum_cons, List.sum_nil]
      omega
    · rw [show wordsOk ps (.bes n s o b) = decide (wv ps n (farE s) + b * 7560 = wv ps o (near s)) from if_neg e, show (Say.bes n s o b).tms = [(n, near s, 1), (n, far s, 1), (o, near s, -1)] by show besT n s o = _; unfold besT; rw [if_neg e], show (Say.bes n s o b).num = -b by show besN s b = _; unfold besN; rw [if_neg e]]
      refine dec_iff ?_
      simp only [List.map_cons, List.map_nil, List.sum_cons, List.sum_nil]
      omega
  | amd n v o u =>
    obtain ⟨h1, h2, h3, h4⟩ := h
    have f1 := (wv_far h1 v).2
    have f2 := (wv_far h2 v).2
    have f3 := (wv_far h3 v).2
    show decide (((amdT n v o u).map fun t => t.2.2 * wv ps t.1 t.2.1).sum = 0 * 7560) = decide (2 * (wv ps n (nearW v) + wv ps n (farEW v)) = wv ps o (nearW v) + wv ps o (farEW v) + wv ps u (nearW v) + wv ps u (farEW v))
    refine dec_iff ?_
    unfold amdT
    simp only [List.map_cons, List.map_nil, List.sum_cons, List.sum_nil]
    omega
end K1
set_option Elab.async false
set_option linter.all false
set_option maxRecDepth 100000
set_option maxHeartbeats 4000000
namespace K1
open PySem PySem.Spec L2 Wd
open PyProof.Rows hiding St
/-! ### a saying is right -/
theorem nf_ne (s : Str) : near s ≠ far s ∧ nearW s ≠ farW s := by
  unfold near far nearW farW
  constructor <;> split <;> decide +kernel
theorem tms_nd {x : Say} (h : x.wf) : ((tmK x.tms).map (·.1)).Nodup := by
  cases x with
  | at_ n p i => show ((tmK (atT n p)).map (·.1)).Nodup; simp [tmK, atT]
  | bes n s o b =>
    have nf := (nf_ne s).1
    have hno : n ≠ o := h.2
    show ((tmK (besT n s o)).map (·.1)).Nodup
    unfold besT
    split <;> simp [tmK, hno, nf]
  | alk n p o m =>
    have hno : n ≠ o := h
    show ((tmK (alkT n p o m)).map (·.1)).Nodup
    simp [tmK, alkT, hno]
  | amd n v o u =>
    obtain ⟨_, h1, h2, h3⟩ := h
    have nf := (nf_ne v).2
    show ((tmK (amdT n v o u)).map (·.1)).Nodup
    simp [tmK, amdT, h1, h2, h3, nf]
theorem pl_names (ns : List Str) : Pl (0 + 2) (.lst (ns.map .str)) := .lst .lst fun x hx => by
  obtain ⟨y, _, rfl⟩ := List.mem_map.mp hx
  exact .flat rfl
theorem pl_sum (ts : List Tm) (n : Int) : Pl (1 + 2) (.tup [.dt (tmK ts), .int n]) := .tup .tup fun x hx => by
  simp only [List.mem_cons, List.not_mem_nil, or_false] at hx
  rcases hx with rfl | rfl
  · exact .dt fun p hp => by
      unfold tmK at hp
      obtain ⟨t, _, rfl⟩ := List.mem_map.mp hp
      exact .flat rfl
  · exact .flat rfl
def PrRight (ds : List D) (r : Wd.Slot) : Prop := ∃ (x : Say) (ps : Pls), x.ok ∧ PlOk ps ∧ x.fit ps ∧ ("z" : Str) ∉ x.names ∧ ds = [x.t, encPls ps] ∧ r = .sh (.bl true)
theorem names_nin {z : Str} {ns : List Str} (h : z ∉ ns) : inV (.str z) (ns.map V.str) = false := by
  unfold inV
  rw [List.any_map]
  apply Bool.eq_false_iff.mpr
  intro q
  obtain ⟨y, hy, e⟩ := List.any_eq_true.mp q
  have e : (y == z) = true := e
  exact h (eq_of_beq e ▸ hy)
section
variable {P : Program} {w : World} {K : PySem.W.Frag} {mg : Str → Option Value} {base : Heap} (Z : Env K mg w)
include Z
theorem isi_saying (x : Say) : IsiD K x.d (.cls "Saying") true := by
  cases x with
  | at_ n p i => exact .one (.own Z.o_At) rfl Z.kt_At_Saying
  | bes n s o b => exact .one (.own Z.o_Beside) rfl Z.kt_Beside_Saying
  | alk n p o m => exact .one (.own Z.o_Alike) rfl Z.kt_Alike_Saying
  | amd n v o u => exact .one (.own Z.o_Amid) rfl Z.kt_Amid_Saying
/-- x.keeps(places) of any saying -/
theorem pd_sayKeeps {ι : Type} {Xs : ι → Cx} {N : List Str} {k : Nat} (fx : Fx Xs P w K mg base N k) {γ : Gm} {o e : Expr} {pos apos : Pos} (x : Say) (ps : Pls) (hx : x.wf) (hp : ∀ t ∈ x.tms, TmOk ps t) (ho : PED K Xs o γ (.sh x.d)) (ha : PED K Xs e γ (.sh (encPls ps))) (hk : 2 ≤ k)
    (hh : ∀ (c : Str) (f : Addr) (fd : FuncData) (Pr : List D → Wd.Slot → Prop) (fs : List (Str × D)) (b : Bool), Cls K (He.ga K c) → Meth K (He.ga K c) "keeps" f → FnOk P w K mg base (L2.CX P w) 2 f fd ["self", "places"] (spD K Pr) → Binds K fd ["self", "places"] [] → fs.lookup ("keeps" : Str) = none → Pr [.obj c fs, encPls ps] (.sh (.bl b)) → PED K Xs o γ (.sh (.obj c fs)) → PED K Xs (.Call (.Attribute o "keeps" apos) [e] [] pos) γ (.sh (.bl b))) : PED K Xs (.Call (.Attribute o "keeps" apos) [e] [] pos) γ (.sh (.bl (decide ((sumOut ps x.tms x.num).1 = 0)))) := by
  cases x with
  | at_ n p i => exact hh _ _ _ _ _ _ Z.c_At Z.M_At_keeps (ok_At_keeps Z) (bi_At_keeps Z) rfl ⟨n, p, i, ps, hp, rfl, rfl⟩ ho
  | bes n s o b => exact hh _ _ _ _ _ _ Z.c_Beside Z.M_Beside_keeps (ok_Beside_keeps Z) (bi_Beside_keeps Z) rfl ⟨n, s, o, b, ps, hx.1, hx.2, hp, rfl, rfl⟩ ho
  | alk n p o m => exact hh _ _ _ _ _ _ Z.c_Alike Z.M_Alike_keeps (ok_Alike_keeps Z) (bi_Alike_keeps Z) rfl ⟨n, p, o, m, ps, hx, hp, rfl, rfl⟩ ho
  | amd n v o u => exact hh _ _ _ _ _ _ Z.c_Amid Z.M_Amid_keeps (ok_Amid_keeps Z) (bi_Amid_keeps Z) rfl ⟨n, v, o, u, ps, hx.1, hx.2, hp, rfl, rfl⟩ ho
theorem bi_l_saying_right : Binds K Z.d_l_saying_right ["_law_said", "_law_places"] [] := Z.F_l_saying_right.bindsN fun _ _ _ _ _ _ us hl => match us, hl with | [_, _], _ => rfl
def gR (x : Say) (ps : Pls) : Gm := [.sh x.t, .sh (encPls ps), .sh x.d, .sh (.lst (x.names.map .str)), .sh (.lst (x.tms.map encTm)), .sh (.int x.num), .sh (.dt (tmK x.tms)), .un, .un, .un, .un, .un]
/-- behind told[0].clear() -/
theorem right_tail (cdv : Value) (A : Around) (outer : List PySem.Env) (s : Shared) (H : Hp) (E : XK) (fx : Fx (bodyX P w K mg base N_l_saying_right "_law_saying_right" (defScope s_l_saying_right) (He.ga K "_law_saying_right") cdv A outer s H E) P w K mg base N_l_saying_right 6)
    (x : Say) (ps : Pls) (hx : x.wf) (hp : PlOk ps) (hf : x.fit ps) (hz : ("z" : Str) ∉ x.names) :
    PSsD K (bodyX P w K mg base N_l_saying_right "_law_saying_right" (defScope s_l_saying_right) (He.ga K "_law_saying_right") cdv A outer s H E) ((defBody s_l_saying_right).drop 10) (gR x ps) (.rt (.sh (.bl true))) := by
  refine pssd_cons (psd_appendNew fx (pd_sayNames Z fx x (pd_var fx 2) (by decide)) pd_str (by rw [List.length_map, sizeLine_eq]; cases x <;> exact Nat.le_of_ble_eq_true rfl)) ?_
  refine pssd_ifF (PWD.t (pwd_or (tv := false) (tw := false) (ptd_ne fx (tv := true) (PED.shareT (pd_sayAdds Z fx x hx (pd_var fx 2) (by decide))) (pd_tup (pad_cons (pd_var fx 6) (pad_cons (pd_var fx 5) pad_nil))) (.same (pl_sum _ _) (by decide) (.inr ⟨_, .tup⟩))) fun _ => pwd_or1 (ptd_cast (names_nin hz) (ptd_in fx pd_str (PED.share (pd_sayNames Z fx x (pd_var fx 2) (by decide))) (.lst .lst (by rw [List.map_map, List.map_map]; rfl) rfl))))) ?_
  refine pssd_cons (psd_set fx 11 (pd_sayKeeps Z fx x ps hx (fit_tmok hp hf) (pd_var fx 2) (PED.share (pd_bty fx (fun _ => call_dictD) Z.b_dict (pad_cons (pd_var fx 1) pad_nil) rc_dict)) (by decide) (fun c f fd Pr fs b hc hm G B hl h ho => pd_meth fx ho hc hm G B .nil (fun _ => .nil) (pad_cons (PED.share (pd_bty fx (fun _ => call_dictD) Z.b_dict (pad_cons (pd_var fx 1) pad_nil) rc_dict)) pad_nil) hl h))) ?_
  refine pssd_rt (psd_ret (pd_cast (by rw [keeps_words hp hf]; simp) (pd_and (tv := true) (tw := decide (V.bl (decide ((sumOut ps x.tms x.num).1 = 0)) = V.bl (wordsOk ps x))) (pd_isi fx (pad_cons (pd_var fx 11) (pad_cons (pd_ty fx (n := "bool") Z.b_bool) pad_nil)) Z.b_isinstance (.one (.bt rfl) rfl rfl)) fun _ => pd_one (pd_eq fx (pd_var fx 11) (pd_call fx (ok_l_words_kept Z) Z.m_l_words_kept Z.F_l_words_kept.kp (bi_l_words_kept Z) .nil (fun _ => .nil) (pad_cons (pd_var fx 0) (pad_cons (pd_var fx 1) pad_nil)) ⟨x, ps, hp, hf, rfl, rfl⟩) (.flat rfl rfl rfl)))))
theorem ok_l_saying_right : FnOk P w K mg base (L2.CX P w) 7 (He.ga K "_law_saying_right") Z.d_l_saying_right ["_law_said", "_law_places"] (spD K PrRight) := by
  refine fn_data Z.F_l_saying_right sc_l_saying_right (fun ds r ⟨x, _, _, _, _, _, e, _⟩ => (by rw [e]; rfl)) fun cdv A outer s H E fx ds r hp => ?_
  obtain ⟨x, ps, hok, hpl, hfit, hz, rfl, rfl⟩ := hp
  have hx := hok.wf
  refine ⟨.rt _, ?_, .rt⟩
  refine pssd_cons (psd_set fx 2 (PED.share (pd_call fx (ok_l_made Z) Z.m_l_made Z.F_l_made.kp (bi_l_made Z) .nil (fun _ => .nil) (pad_cons (pd_var fx 0) pad_nil) ⟨x, hok, rfl, rfl⟩))) ?_
  -- due
  have due : PSsD K (bodyX P w K mg base N_l_saying_right "_law_saying_right" (defScope s_l_saying_right) (He.ga K "_law_saying_right") cdv A outer s H E) ((defBody s_l_saying_right).drop 3) [.sh x.t, .sh (encPls ps), .sh x.d, .sh (.lst (x.names.map .str)), .un, .un, .un, .un, .un, .un, .un, .un] (.rt (.sh (.bl true))) := by
    refine pssd_ifF (PWD.t (pwd_or (tv := false) (tw := false) (ptd_not (tv := true) (ptd_val (pd_isi fx (pad_cons (pd_var fx 2) (pad_cons (pd_globR fx Z.m_Saying (dat_cls Z "Saying")) pad_nil)) Z.b_isinstance (isi_saying Z x)))) fun _ => pwd_or1 (ptd_ne fx (tv := true) (PED.share (pd_sayNames Z fx x (pd_var fx 2) (by decide))) (pd_var fx 3) (.same (pl_names _) (by decide) (.inl ⟨_, .lst⟩))))) ?_
    refine pssd_cons (psd_asg fx (pd_call fx (ok_l_terms Z) Z.m_l_terms Z.F_l_terms.kp (bi_l_terms Z) .nil (fun _ => .nil) (pad_cons (pd_var fx 0) pad_nil) ⟨x, fit_wd hfit, rfl, rfl⟩) (tgd_tup fx .tup (tgsd_cons (tgd_name fx 4) (tgsd_cons (tgd_name fx 5) tgsd_nil)))) ?_
    refine pssd_cons (psd_set fx 6 pd_newT) ?_
    have nd := tms_nd hx
    have hl6 := tms_len x
    refine pssd_cons (psd_for fx x.tms encTm (fun i => [.sh x.t, .sh (encPls ps), .sh x.d, .sh (.lst (x.names.map .str)), .sh (.lst (x.tms.map encTm)), .sh (.int x.num), .ow (.dt (tmK (x.tms.take i))), .un, .un, .un, .un, .un]) (pid_list fx .lst (pd_var fx 4)) (Wk.refl _) fun i t ht => ?_) ?_
    · have hi : i < x.tms.length := (List.getElem?_eq_some_iff.mp ht).1
      have ht' : x.tms[i] = t := (List.getElem?_eq_some_iff.mp ht).2
      have e1 : (tmK (x.tms.take i)).map (·.1) = ((tmK x.tms).map (·.1)).take i := by unfold tmK; rw [List.map_map, List.map_map, List.map_take]
      have nk : [(Sum.inr t.1 : Key), Sum.inr t.2.1] ∉ (tmK (x.tms.take i)).map (·.1) := fun z => by
        rw [e1] at z
        obtain ⟨j, hj, hq⟩ := List.mem_iff_getElem.mp z
        rw [List.length_take, List.length_map] at hj
        rw [List.getElem_take] at hq
        have hj2 : (tmK x.tms).length = x.tms.length := by unfold tmK; rw [List.length_map]
        refine (List.pairwise_iff_getElem.mp nd j i (by rw [List.length_map]; omega) (by rw [List.length_map]; omega) (by omega)) ?_
        rw [hq]
        unfold tmK
        rw [List.getElem_map, List.getElem_map, ht']
      refine ⟨_, _, _, tgd_tup fx .tup (tgsd_cons (tgd_name fx 7) (tgsd_cons (tgd_name fx 8) (tgsd_cons (tgd_name fx 9) tgsd_nil))), .inl (pssd_one (psd_dputT fx 6 (key := [Sum.inr t.1, Sum.inr t.2.1]) rfl (pd_var fx 9) (pd_tup (pad_cons (pd_var fx 7) (pad_cons (pd_var fx 8) pad_nil))) (by unfold tmK; rw [List.length_map, List.length_take, sizeLine_eq]; omega) (by rw [e1]; exact (List.take_sublist _ _).nodup nd))), ?_⟩
      rw [putG_new _ _ _ nk, List.take_add_one, ht]
      refine .s (.s (.s (.s (.s (.s ?_)))))
      unfold tmK
      rw [show (some t).toList = [t] from rfl, List.map_append]
      exact .s (.u (.u (.u (.u (.u .n)))))
    rw [List.take_length]
    refine pssd_freeze 6 rfl ?_
    -- told
    intro H0 S0 S H σ En k q
    have k : Ok K H0 S0 S H σ (gR x ps) := k
    refine rs_cons (as_set fx 10 ((pd_sayAdds Z fx x hx (pd_var (γ := gR x ps) fx 2) (by decide)) H0 S0 S H σ k _ fun v S1 H1 g1 s1 ⟨l, p, kvs, y, ev, ne, ⟨a1, a2⟩, ⟨b1, b2⟩, hl, hp, hk, t, ry⟩ => ?_))
    subst ev
    have pv0 : Pv K (gR x ps) (fun _ => none) H0 S0 S1 H1 σ := ⟨k.grow g1 s1, noOw_of rfl, fun a o h => (by cases h), fun a o h => (by cases h), fun a o h => (by cases h)⟩
    have pv1 : Pv K (gR x ps) (fun _ => none) H0 S0 S1 H1 (σ.set 10 (some (.ref l))) := pv0.setu (j := 10) (ov := some (.ref l)) (Nat.le_of_ble_eq_true rfl)
    have pv2 := (pv1.add hp b1 (Ex.back k.h0 b2)).add hl a1 (Ex.back k.h0 a2)
    have hlen : σ.length = 12 := k.len
    have hσ : (σ.set 10 (some (.ref l)))[10]? = some (some (.ref l)) := by rw [List.getElem?_set_self (by rw [hlen]; decide)]
    have fl : (upd (upd (fun _ => none) p (.dT kvs)) l (.tup [.ref p, y]) : Hp) l = some (.tup [.ref p, y]) := upd_same
    have fp : (upd (upd (fun _ => none) p (.dT kvs)) l (.tup [.ref p, y]) : Hp) p = some (.dT kvs) := by rw [upd_ne (fun z => ne z.symm)]; exact upd_same
    have eF := uni_ex pv2.fs
    have hd : Dat K (uni S1 (upd (upd (fun _ => none) p (.dT kvs)) l (.tup [.ref p, y]))) (.ref l) (.tup [.dt (tmK x.tms), .int x.num]) := .tup (uni_F fl) (.cons (.dt (uni_F fp) hk (t.ex eF)) (.cons (ry.ex eF) .nil))
    refine rs_cons (as_ifF (R := fun H2 => Pv K (gR x ps) (upd (upd (fun _ => none) p (.dT kvs)) l (.tup [.ref p, y])) H0 S0 S1 H2 (σ.set 10 (some (.ref l)))) (fun Q qq => pv2.testF (i := 10) (Nat.le_of_ble_eq_true rfl) hσ hd (PWD.t (pwd_or (tv := false) (tw := false) (ptd_not (tv := true) (ptd_val (pd_isi fx (pad_cons (pd_var fx 10) (pad_cons (pd_ty fx (n := "tuple") Z.b_tuple) pad_nil)) Z.b_isinstance (.one (.bt rfl) rfl rfl)))) fun _ => pwd_or (tv := false) (tw := false) (ptd_ne fx (tv := true) (pd_var fx 10) (pd_tup (pad_cons (pd_var fx 6) (pad_cons (pd_var fx 5) pad_nil))) (.same (pl_sum _ _) (by decide) (.inr ⟨_, .tup⟩))) fun _ => pwd_or1 (ptd_val (pd_isi fx (pad_cons (pd_sub fx (pd_var fx 10) pd_int (.tup .tup rfl)) (pad_cons (pd_ty fx (n := "bool") Z.b_bool) pad_nil)) Z.b_isinstance (.one (.bt rfl) rfl rfl))))) qq) fun H2 pv3 => ?_)
    refine ⟨tNext, fun _ => pss_nil, ?_⟩
    refine rs_cons (as_clrT fx 10 pv3 hσ fl fp fun pv4 => ?_)
    exact right_tail Z cdv A outer s _ E fx x ps hx hpl hfit hz H0 S0 _ _ _ En pv4.ok q
  cases x with
  | at_ n p i =>
    refine pssd_cons (psd_set fx 3 (PED.share (pd_if (rs := .ow (.lst [.str n])) (ptd_is Z fx (pd_sub fx (pd_var fx 0) pd_int (.tup .tup rfl)) pd_str (tv := true) (by decide +kernel)) (fun _ => pd_lst (pad_cons (pd_sub fx (pd_var fx 0) pd_int (.tup .tup rfl)) pad_nil)) (fun z => nomatch z)))) ?_
    exact pssd_ifF (ptd_is Z fx (pd_sub fx (pd_var fx 0) pd_int (.tup .tup rfl)) pd_str (by decide +kernel)) due
  | bes n s o b =>
    refine pssd_cons (psd_set fx 3 (PED.share (pd_if (rs := .ow (.lst [.str n, .str o])) (ptd_is Z fx (pd_sub fx (pd_var fx 0) pd_int (.tup .tup rfl)) pd_str (tv := false) (by decide +kernel)) (fun z => nomatch z) (fun _ => pd_lst (pad_cons (pd_sub fx (pd_var fx 0) pd_int (.tup .tup rfl)) (pad_cons (pd_sub fx (pd_var fx 0) pd_int (.tup .tup rfl)) pad_nil)))))) ?_
    exact pssd_ifF (ptd_is Z fx (pd_sub fx (pd_var fx 0) pd_int (.tup .tup rfl)) pd_str (by decide +kernel)) due
  | alk n p o m =>
    refine pssd_cons (psd_set fx 3 (PED.share (pd_if (rs := .ow (.lst [.str n, .str o])) (ptd_is Z fx (pd_sub fx (pd_var fx 0) pd_int (.tup .tup rfl)) pd_str (tv := false) (by decide +kernel)) (fun z => nomatch z) (fun _ => pd_lst (pad_cons (pd_sub fx (pd_var fx 0) pd_int (.tup .tup rfl)) (pad_cons (pd_sub fx (pd_var fx 0) pd_int (.tup .tup rfl)) pad_nil)))))) ?_
    exact pssd_ifF (ptd_is Z fx (pd_sub fx (pd_var fx 0) pd_int (.tup .tup rfl)) pd_str (by decide +kernel)) due
  | amd n v o u =>
    refine pssd_cons (psd_set fx 3 (PED.share (pd_if (rs := .ow (.lst [.str n, .str o])) (ptd_is Z fx (pd_sub fx (pd_var fx 0) pd_int (.tup .tup rfl)) pd_str (tv := false) (by decide +kernel)) (fun z => nomatch z) (fun _ => pd_lst (pad_cons (pd_sub fx (pd_var fx 0) pd_int (.tup .tup rfl)) (pad_cons (pd_sub fx (pd_var fx 0) pd_int (.tup .tup rfl)) pad_nil)))))) ?_
    exact pssd_cons (psd_ifT (ptd_is Z fx (pd_sub fx (pd_var fx 0) pd_int (.tup .tup rfl)) pd_str (by decide +kernel)) (pssd_one (psd_set fx 3 (PED.share (pd_lst (pad_cons (pd_sub fx (pd_var fx 0) pd_int (.tup .tup rfl)) (pad_cons (pd_sub fx (pd_var fx 0) pd_int (.tup .tup rfl)) (pad_cons (pd_sub fx (pd_var fx 0) pd_int (.tup .tup rfl)) pad_nil)))))))) due
end
end K1
set_option Elab.async false
set_option linter.all false
set_option maxRecDepth 100000
set_option maxHeartbeats 4000000
namespace K1
open PySem PySem.Spec L2 Wd
open PyProof.Rows hiding St
/-! ### a sheet made of lists that are changed afterwards: its fields are new -/
theorem dats_flat {K : PySem.W.Frag} {S S' : Hp} : ∀ {ds : List D} {vs : List V}, (∀ d ∈ ds, (∃ i, d = .int i) ∨ ∃ x, d = .str x) → Dats K S vs ds → Dats K S' vs ds
  | [], _, _, .nil => .nil
  | d :: ds, _, h, .cons h1 t => by
    refine .cons ?_ (dats_flat (fun d hd => h d (List.mem_cons_of_mem _ hd)) t)
    rcases h d List.mem_cons_self with ⟨i, rfl⟩ | ⟨x, rfl⟩
    · cases h1; exact .int
    · cases h1; exact .str
theorem say_flat (x : Say) : ∀ d ∈ x.fs.map (·.2), (∃ i, d = .int i) ∨ ∃ y, d = .str y := by
  cases x with
  | at_ n p i => intro d hd; simp [Say.fs, atF] at hd; rcases hd with rfl | rfl | rfl <;> simp
  | bes n s o b => intro d hd; simp [Say.fs, besF] at hd; rcases hd with rfl | rfl | rfl | rfl <;> simp
  | alk n p o m => intro d hd; simp [Say.fs, alkF] at hd; rcases hd with rfl | rfl | rfl | rfl <;> simp
  | amd n v o u => intro d hd; simp [Say.fs, amdF] at hd; rcases hd with rfl | rfl | rfl | rfl <;> simp
theorem say_move {K : PySem.W.Frag} {S S' : Hp} (h : ∀ a C dx fs, S a = some (.ins C dx fs) → S' a = some (.ins C dx fs)) {x : Say} {v : V} (hd : Dat K S v x.d) : Dat K S' v x.d := by
  unfold Say.d at hd ⊢
  cases hd with
  | obj h1 h2 t => exact .obj (h _ _ _ _ h1) h2 (dats_flat (say_flat x) t)
theorem says_move {K : PySem.W.Frag} {S S' : Hp} (h : ∀ a C dx fs, S a = some (.ins C dx fs) → S' a = some (.ins C dx fs)) : ∀ {xs : List Say} {vs : List V}, Dats K S vs (xs.map Say.d) → Dats K S' vs (xs.map Say.d)
  | [], _, t => by cases t; exact .nil
  | x :: xs, _, t => by
    rw [List.map_cons] at t ⊢
    cases t with
    | cons t1 t2 => exact .cons (say_move h t1) (says_move h t2)
def spN (K : PySem.W.Frag) : Sp := fun vs H Q _ => ∃ (S : Hp) (x dx l1 l2 : Addr) (xs1 xs2 : List V) (ns : List Str) (xs : List Say), vs = [.ref x, .ref l1, .ref l2] ∧ Sub S H ∧ S x = none ∧ S l1 = none ∧ S l2 = none ∧ l1 ≠ l2 ∧ H x = some (.ins (He.ga K "Sheet") dx []) ∧ H l1 = some (.lst xs1) ∧ H l2 = some (.lst xs2) ∧ Dats K S xs1 (ns.map .str) ∧ Dats K S xs2 (xs.map Say.d) ∧ NsOk ns ∧ XsOk ns xs ∧
  ∀ S' H', Ex S S' → (∀ b o, H b = some o → b ≠ x → H' b = some o) → (∀ b o, S' b = some o → S b = none → H b = none) → Sub S' H' → OwnAt K S' H' x (.obj "Sheet" (shF ns xs)) → Q .non H'
section
variable {ι : Type} {Xs : ι → Cx} {P : Program} {w : World} {K : PySem.W.Frag} {mg : Str → Option Value} {base : Heap} {N : List Str} {k : Nat} {e : Expr} {pos np tp : Pos} {x f : Str} {H : Hp} {σ : St} {En : Ends}
theorem as_expr (h : anyE Xs e σ H fun _ H1 => En.nx σ H1) (hs : ∀ j, swapsWith e none pos.line (Xs j).env = pure false := by exact fun _ => rfl) : anyS Xs (.Expr e pos) En σ H :=
  ⟨tDrop (anyE Xs e), fun j => ps_expr (pe_any e j) (hs j), h⟩
theorem as_fput (fx : Fx Xs P w K mg base N k) (h : anyE Xs e σ H fun y H1 => tVar 0 σ H1 fun x H2 => ∃ a C dx fs, x = .ref a ∧ H2 a = some (.ins C dx fs) ∧ Cls K C ∧ NoAttr K C f ∧ fs.length < 1000 ∧ En.nx σ (upd H2 a (.ins C dx (putF f y fs)))) (hN : N[0]? = some x := by rfl) (hv : ∀ j, Vis (Xs j).env.scope x := by first | exact fun _ => Or.inl rfl | exact fun _ => Or.inr (Or.inl rfl) | exact fun _ => Or.inr (Or.inr rfl))
    (hd : (x == ("__debug__" : Str)) = false := by decide) (hcd : (x == ("__classdict__" : Str)) = false := by decide)
    (hs : ∀ j, swapsWith e (some (.Attribute (.Name x np) f tp)) pos.line (Xs j).env = pure false := by exact fun _ => rfl) : anyS Xs (.Assign [.Attribute (.Name x np) f tp] e pos) En σ H := by
  refine ⟨sFld K (tVar 0) (anyE Xs e) f, fun j => ?_, h⟩
  have z := ps_fld (pos := pos) (pos' := tp) (f := f) (pe_self 0 fx hN hv hd hcd j) (pe_any e j) (hs j)
  rw [fx.hK j] at z
  exact z
end
section
variable {P : Program} {w : World} {K : PySem.W.Frag} {mg : Str → Option Value} {base : Heap} (Z : Env K mg w)
include Z
theorem ok_Sheet_initN : FnOk P w K mg base (L2.CX P w) 4 (He.ma K (He.ga K "Sheet") "__init__") Z.d_Sheet_init ["self", "names", "sayings"] (spN K) := by
  refine Z.F_Sheet_init.ok sc_Sheet_init (fun vs H Q E ⟨_, _, _, _, _, _, _, _, _, e, _⟩ => (by rw [e]; rfl)) fun cdv A outer s H vs Q E hr ⟨S, x, dx, l1, l2, xs1, xs2, ns, xs, e, hs, hSx, hS1, hS2, hne, hx, h1, h2, d1, d2, ⟨n1, n2⟩, ⟨m1, m2⟩, q⟩ => ?_
  subst e
  have fx : Fx (bodyX P w K mg base N_Sheet_init "Sheet.__init__" (defScope s_Sheet_init) (He.ma K (He.ga K "Sheet") "__init__") cdv A outer s H E) P w K mg base N_Sheet_init 3 := ⟨fun _ => rfl, fun _ => rfl, fun _ => rfl, fun _ => rfl, fun _ => rfl, fun _ => rfl, sc_Sheet_init.nd, fun _ => rfl, fun _ => hr⟩
  refine ⟨_, (pss_any (Xs := bodyX P w K mg base N_Sheet_init "Sheet.__init__" (defScope s_Sheet_init) (He.ma K (He.ga K "Sheet") "__init__") cdv A outer s H E) (defBody s_Sheet_init) ()).nox, ?_⟩
  let Sr : Hp := upd (upd S l1 (.lst xs1)) l2 (.lst xs2)
  have hS2' : (upd S l1 (.lst xs1)) l2 = none := by rw [upd_ne hne.symm]; exact hS2
  have eS : Ex S Sr := Same.trans (Ex.new hS1) (Ex.new hS2')
  have r2 : Sr l2 = some (.lst xs2) := upd_same
  have r1 : Sr l1 = some (.lst xs1) := by show (upd (upd S l1 (.lst xs1)) l2 (.lst xs2)) l1 = _; rw [upd_ne hne]; exact upd_same
  have nx1 : x ≠ l1 := fun z => by rw [z, h1] at hx; cases hx
  have nx2 : x ≠ l2 := fun z => by rw [z, h2] at hx; cases hx
  have rx : Sr x = none := by show (upd (upd S l1 (.lst xs1)) l2 (.lst xs2)) x = _; rw [upd_ne nx2, upd_ne nx1]; exact hSx
  have kE : ∀ H', H' l1 = some (.lst xs1) → H' l2 = some (.lst xs2) → Sub S H' → Ok K H' Sr Sr H' (L2.start N_Sheet_init [.ref x, .ref l1, .ref l2]) [.un, .sh (.lst (ns.map .str)), .sh (.lst (xs.map Say.d))] := fun H' z1 z2 z3 =>
    { h0 := Same.refl _, s0 := Same.refl _, sh := (z3.add z1).add z2, nw := fun b o h n => (by rw [n] at h; cases h), len := rfl,
      en := fun i t ht => (by
        match i with
        | 0 => cases ht; trivial
        | 1 => cases ht; exact ⟨.ref l1, rfl, .lst r1 (d1.ex eS)⟩
        | 2 => cases ht; exact ⟨.ref l2, rfl, .lst r2 (d2.ex eS)⟩
        | n + 3 => cases ht),
      ds := fun i j d e l hi hj _ _ => (by
        match i with
        | 0 => cases hi
        | 1 => cases hi
        | 2 => cases hi
        | n + 3 => cases hi) }
  refine rs_cons (as_expr ((pd_call fx (ok_check_boxes Z) Z.m_check_boxes Z.F_check_boxes.kp (bi_check_boxes Z) .nil (fun _ => .nil) (pad_cons (pd_var fx 1) pad_nil) ⟨ns, n1, n2, rfl, rfl⟩) H Sr Sr H _ (kE H h1 h2 hs) _ fun v S1 H1 g1 s1 r => ?_))
  have k1 := kE H1 (g1.hh _ _ h1) (g1.hh _ _ h2) (hs.ex g1.hh)
  refine rs_cons (as_expr ((pd_call fx (ok_check_sayings Z) Z.m_check_sayings Z.F_check_sayings.kp (bi_check_sayings Z) .nil (fun _ => .nil) (pad_cons (pd_var fx 2) (pad_cons (pd_var fx 1) pad_nil)) ⟨xs, ns, by omega, m1, m2, rfl, rfl⟩) H1 Sr Sr H1 _ k1 _ fun v S2 H2 g2 s2 r => ?_))
  have e02 : Ex H H2 := Same.trans g1.hh g2.hh
  have k2 := kE H2 (e02 _ _ h1) (e02 _ _ h2) (hs.ex e02)
  refine rs_cons (as_fput fx ((pd_bty (rs := .ow (.lst (ns.map D.str))) fx (fun _ => call_listU) Z.b_list (pad_cons (pd_var fx 1) pad_nil) (rc_list (.inl .lst))) H2 Sr Sr H2 _ k2 _ fun v S3 H3 g3 s3 ⟨b, ev, b1, b2, ys, hb, tb⟩ => ?_))
  subst ev
  obtain rfl := tb.strs
  have e03 : Ex H H3 := Same.trans e02 g3.hh
  have nbx : b ≠ x := fun z => by rw [z, e02 _ _ hx] at b2; cases b2
  have nb1 : b ≠ l1 := fun z => by rw [z, e02 _ _ h1] at b2; cases b2
  have nb2 : b ≠ l2 := fun z => by rw [z, e02 _ _ h2] at b2; cases b2
  refine ⟨.ref x, rfl, x, _, dx, [], rfl, e03 _ _ hx, Z.c_Sheet, Z.na_Sheet_boxes, by decide, ?_⟩
  let H4 : Hp := upd H3 x (.ins (He.ga K "Sheet") dx [("boxes", .ref b)])
  have k4 := kE H4 (by show upd H3 x _ l1 = _; rw [upd_ne nx1.symm]; exact e03 _ _ h1) (by show upd H3 x _ l2 = _; rw [upd_ne nx2.symm]; exact e03 _ _ h2) ((hs.ex e03).mut hSx)
  refine rs_cons (as_fput fx ((pd_bty (rs := .ow (.lst (xs.map Say.d))) fx (fun _ => call_listU) Z.b_list (pad_cons (pd_var fx 2) pad_nil) (rc_list (.inl .lst))) H4 Sr Sr H4 _ k4 _ fun v S5 H5 g5 s5 ⟨c, ev, c1, c2, zs, hc, tc⟩ => ?_))
  subst ev
  have h4x : H4 x = some (.ins (He.ga K "Sheet") dx [("boxes", .ref b)]) := upd_same
  have h4b : H4 b = some (.lst (ns.map V.str)) := by show upd H3 x _ b = _; rw [upd_ne nbx]; exact hb
  have ncx : c ≠ x := fun z => by rw [z, h4x] at c2; cases c2
  have ncb : c ≠ b := fun z => by rw [z, h4b] at c2; cases c2
  have h5x : H5 x = some (.ins (He.ga K "Sheet") dx [("boxes", .ref b)]) := g5.hh _ _ h4x
  have h5b : H5 b = some (.lst (ns.map V.str)) := g5.hh _ _ h4b
  have e05 : ∀ a o, H a = some o → a ≠ x → H5 a = some o := fun a o h n => g5.hh _ _ (by show upd H3 x _ a = _; rw [upd_ne n]; exact e03 _ _ h)
  refine ⟨.ref x, rfl, x, _, dx, [("boxes", .ref b)], rfl, h5x, Z.c_Sheet, Z.na_Sheet_said, Nat.le_of_ble_eq_true rfl, ?_⟩
  have ef : putF "said" (V.ref c) [(("boxes" : Str), V.ref b)] = [(("boxes" : Str), V.ref b), (("said" : Str), V.ref c)] := by
    show (if ("boxes" : Str) = "said" then [(("boxes" : Str), V.ref c)] else ("boxes", V.ref b) :: putF "said" (V.ref c) []) = _
    rw [if_neg (by decide +kernel)]
    rfl
  rw [ef]
  refine ⟨tNext, fun _ => pss_nil, ?_⟩
  let S' : Hp := fun a => if a = b then some (.lst (ns.map V.str)) else if a = c then some (.lst zs) else if a = l1 ∨ a = l2 then none else S5 a
  have sb : S' b = some (.lst (ns.map V.str)) := if_pos rfl
  have sc : S' c = some (.lst zs) := (if_neg ncb).trans (if_pos rfl)
  have so : ∀ a, a ≠ b → a ≠ c → a ≠ l1 → a ≠ l2 → S' a = S5 a := fun a q1 q2 q3 q4 => (if_neg q1).trans ((if_neg q2).trans (if_neg (fun z => z.elim q3 q4)))
  have s51 : S5 l1 = some (.lst xs1) := g5.ss _ _ r1
  have s52 : S5 l2 = some (.lst xs2) := g5.ss _ _ r2
  have nc1 : c ≠ l1 := fun z => by rw [z, s51] at c1; cases c1
  have nc2 : c ≠ l2 := fun z => by rw [z, s52] at c1; cases c1
  have sx5 : S5 x = none := g5.out rx h4x
  have H4' : Ex H H3 := e03
  -- what is known at the end
  refine q S' _ (fun a o h => ?_) (fun a o h n => ?_) (fun a o h n => ?_) (fun a o h => ?_) ⟨dx, _, upd_same, rfl, .cons (.lst sb ?_) (.cons (.lst sc ?_) .nil)⟩
  · -- S stays
    have hHa : ∃ u, H a = some u := by rcases hs a o h with z | ⟨ob, z, _⟩ <;> exact ⟨_, z⟩
    obtain ⟨u, hu⟩ := hHa
    have q1 : a ≠ b := fun z => by rw [← z, e02 _ _ hu] at b2; cases b2
    have q3 : a ≠ l1 := fun z => by rw [z, hS1] at h; cases h
    have q4 : a ≠ l2 := fun z => by rw [z, hS2] at h; cases h
    have qx : a ≠ x := fun z => by rw [z, hSx] at h; cases h
    have q2 : a ≠ c := fun z => by
      have y : H4 a = some u := by show upd H3 x _ a = _; rw [upd_ne qx]; exact e03 _ _ hu
      rw [z, c2] at y; cases y
    rw [so a q1 q2 q3 q4]
    exact g5.ss _ _ (eS _ _ h)
  · rw [upd_ne n]; exact e05 a o h n
  · -- new
    by_cases q1 : a = b
    · subst q1; exact Ex.back e02 b2
    · by_cases q2 : a = c
      · subst q2
        have y : H3 a = none := by
          have := c2
          have hh : upd H3 x (.ins (He.ga K "Sheet") dx [("boxes", .ref b)]) a = none := this
          rw [upd_ne ncx] at hh
          exact hh
        exact Ex.back e03 y
      · by_cases q3 : a = l1
        · subst q3; rw [show S' a = none from (if_neg q1).trans ((if_neg q2).trans (if_pos (.inl rfl)))] at h; cases h
        · by_cases q4 : a = l2
          · subst q4; rw [show S' a = none from (if_neg q1).trans ((if_neg q2).trans (if_pos (.inr rfl)))] at h; cases h
          · rw [so a q1 q2 q3 q4] at h
            have hr0 : Sr a = none := by show (upd (upd S l1 (.lst xs1)) l2 (.lst xs2)) a = _; rw [upd_ne q4, upd_ne q3]; exact n
            have y := g5.nw a o h hr0
            have nax : a ≠ x := fun z => by rw [z, sx5] at h; cases h
            have hh : upd H3 x (.ins (He.ga K "Sheet") dx [("boxes", .ref b)]) a = none := y
            rw [upd_ne nax] at hh
            exact Ex.back e03 hh
  · -- read
    by_cases q1 : a = b
    · subst q1; rw [sb] at h; cases h; exact .inl (by rw [upd_ne nbx]; exact h5b)
    · by_cases q2 : a = c
      · subst q2; rw [sc] at h; cases h; exact .inl (by rw [upd_ne ncx]; exact hc)
      · by_cases q3 : a = l1
        · subst q3; rw [show S' a = none from (if_neg q1).trans ((if_neg q2).trans (if_pos (.inl rfl)))] at h; cases h
        · by_cases q4 : a = l2
          · subst q4; rw [show S' a = none from (if_neg q1).trans ((if_neg q2).trans (if_pos (.inr rfl)))] at h; cases h
          · rw [so a q1 q2 q3 q4] at h
            have nax : a ≠ x := fun z => by rw [z, sx5] at h; cases h
            rw [upd_ne nax]
            exact s5 a o h
  · have : ∀ ns : List Str, Dats K S' (ns.map V.str) (ns.map D.str) := fun ns => by
      induction ns with
      | nil => exact .nil
      | cons _ _ ih => exact .cons .str ih
    exact this ns
  · refine says_move (fun a C dx' fs h => ?_) tc
    have hH5 : H5 a = some (.ins C dx' fs) := s5.ins h
    have q1 : a ≠ b := fun z => by rw [z, h5b] at hH5; cases hH5
    have q2 : a ≠ c := fun z => by rw [z, c1] at h; cases h
    have q3 : a ≠ l1 := fun z => by rw [z, s51] at h; cases h
    have q4 : a ≠ l2 := fun z => by rw [z, s52] at h; cases h
    rw [so a q1 q2 q3 q4]
    exact h
end
end K1
set_option Elab.async false
set_option linter.all false
set_option maxRecDepth 100000
set_option maxHeartbeats 4000000
namespace K1
open PySem PySem.Spec L2 Wd
open PyProof.Rows hiding St
/-! ### sheets are right -/
theorem pl_told (xs : List Say) : Pl (4 + 1) (.lst (xs.map Say.told)) := .lst .lst fun d hd => by
  obtain ⟨x, _, rfl⟩ := List.mem_map.mp hd
  refine .tup .tup fun e he => ?_
  simp only [List.mem_cons, List.not_mem_nil, or_false] at he
  rcases he with rfl | rfl | rfl
  · exact .lst .lst fun y hy => by
      obtain ⟨n, _, rfl⟩ := List.mem_map.mp hy
      exact .flat rfl
  · refine .tup .tup fun y hy => ?_
    simp only [List.mem_cons, List.not_mem_nil, or_false] at hy
    rcases hy with rfl | rfl
    · exact .dt fun p hp => by
        unfold tmK at hp
        obtain ⟨t, _, rfl⟩ := List.mem_map.mp hp
        exact .flat rfl
    · exact .flat rfl
  · exact .flat rfl
theorem cut_to {α : Type} (l : List α) (i : Nat) : Wd.cutD l none (some (i : Int)) = l.take i := by
  unfold Wd.cutD
  rw [HT.sIx_nat, HT.sIx_none, List.drop_zero, Nat.sub_zero]
  by_cases h : i ≤ l.length
  · rw [Nat.min_eq_left h]
  · rw [Nat.min_eq_right (by omega), List.take_length, List.take_of_length_le (by omega)]
theorem cut_from {α : Type} (l : List α) (i : Nat) : Wd.cutD l (some (i : Int)) none = l.drop i := by
  unfold Wd.cutD
  rw [HT.sIx_nat, HT.sIx_none]
  by_cases h : i ≤ l.length
  · rw [Nat.min_eq_left h, List.take_of_length_le (by rw [List.length_drop]; omega)]
  · rw [Nat.min_eq_right (by omega), Nat.sub_self, List.take_zero, List.drop_of_length_le (by omega)]
def XOk (ns : List Str) (xs : List Say) : Prop := xs.length ≤ 16 ∧ ∀ x ∈ xs, x.ok ∧ ofNames x ns = true
theorem XOk.xs {ns : List Str} {xs : List Say} (h : XOk ns xs) : XsOk ns xs := ⟨h.1, fun x hx => (h.2 x hx).2⟩
theorem XOk.wf {ns : List Str} {xs : List Say} (h : XOk ns xs) : ∀ x ∈ xs, x.wf := fun x hx => (h.2 x hx).1.wf
theorem XOk.sub {ns : List Str} {xs ys : List Say} (h : XOk ns xs) (s : ys.Sublist xs) : XOk ns ys := ⟨Nat.le_trans s.length_le h.1, fun x hx => h.2 x (s.subset hx)⟩
def moreS (ns : List Str) : Say := .at_ (ns.headD Str.empty) "top" 3
def PrSheetsR (ds : List D) (r : Wd.Slot) : Prop := ∃ (ns : List Str) (xs : List Say) (c : Int), NsOk ns ∧ XOk ns xs ∧ ds = [.lst (ns.map .str), .lst (xs.map Say.t), .int c] ∧ r = .sh (.bl true)
theorem nameOk_of {ns : List Str} (h : unlikeOk ns = true) {n : Str} (hn : n ∈ ns) : nameOk n = true := by
  unfold unlikeOk at h
  rw [Bool.and_eq_true] at h
  exact List.all_eq_true.mp h.1 n hn
theorem more_ok {ns : List Str} (h : NsOk ns) : (moreS ns).ok ∧ ofNames (moreS ns) ns = true ∧ atI (ns.map D.str) 0 = some (.str (ns.headD Str.empty)) := by
  obtain ⟨⟨h1, h2, h3⟩, h4⟩ := h
  match ns, h1, h3, h4 with
  | n :: r, _, h3, h4 =>
    refine ⟨⟨h3 n List.mem_cons_self, nameOk_of h4 List.mem_cons_self, by decide +kernel, by decide, by decide⟩, ?_, atI_nat (j := 0) rfl⟩
    show ([n].all fun m => inV (.str m) ((n :: r).map V.str)) = true
    rw [List.all_cons, List.all_nil, Bool.and_true]
    exact inV_mem List.mem_cons_self
section
variable {P : Program} {w : World} {K : PySem.W.Frag} {mg : Str → Option Value} {base : Heap} (Z : Env K mg w)
include Z
theorem bi_l_sheets_right : Binds K Z.d_l_sheets_right ["_law_names_here", "_law_said", "_law_cell"] [] := Z.F_l_sheets_right.bindsN fun _ _ _ _ _ _ us hl => match us, hl with | [_, _, _], _ => rfl
theorem sheets_tail (cdv : Value) (A : Around) (outer : List PySem.Env) (s : Shared) (H : Hp) (E : XK) (fx : Fx (bodyX P w K mg base N_l_sheets_right "_law_sheets_right" (defScope s_l_sheets_right) (He.ga K "_law_sheets_right") cdv A outer s H E) P w K mg base N_l_sheets_right 7)
    (ns : List Str) (xs : List Say) (c : Int) (hn : NsOk ns) (hx : XOk ns xs) :
    PSsD K (bodyX P w K mg base N_l_sheets_right "_law_sheets_right" (defScope s_l_sheets_right) (He.ga K "_law_sheets_right") cdv A outer s H E) ((defBody s_l_sheets_right).drop 5) [.sh (.lst (ns.map .str)), .sh (.lst (xs.map Say.t)), .sh (.int c), .sh (.lst (xs.map Say.d)), .un, .un, .sh (.obj "Sheet" (shF ns xs)), .un, .un, .un, .un, .un] (.rt (.sh (.bl true))) := by
  obtain ⟨l16, _⟩ := id hx
  have l6 := hn.1.2.1
  refine pssd_cons (psd_clearNew fx (pd_meth0 fx (pd_var fx 6) Z.c_Sheet Z.M_Sheet_names (ok_Sheet_names Z) (bi_Sheet_names Z) .nil (fun _ => .nil) rfl ⟨ns, xs, rfl, rfl⟩)) ?_
  refine pssd_cons (psd_appendNew fx (pd_meth0 fx (pd_var fx 6) Z.c_Sheet Z.M_Sheet_sayings (ok_Sheet_sayings Z) (bi_Sheet_sayings Z) .nil (fun _ => .nil) rfl ⟨ns, xs, rfl, rfl⟩) pd_non (by rw [List.length_map, sizeLine_eq]; omega)) ?_
  refine pssd_ifF (PWD.t (pwd_or (tv := false) (tw := false) (ptd_ne fx (tv := true) (PED.share (pd_meth0 fx (pd_var fx 6) Z.c_Sheet Z.M_Sheet_names (ok_Sheet_names Z) (bi_Sheet_names Z) .nil (fun _ => .nil) rfl ⟨ns, xs, rfl, rfl⟩)) (pd_var fx 0) (.same (pl_names _) (by decide) (.inl ⟨_, .lst⟩))) fun _ => pwd_or1 (ptd_ne fx (tv := true) (PED.share (pd_call fx (ok_l_told Z) Z.m_l_told Z.F_l_told.kp (bi_l_told Z) .nil (fun _ => .nil) (pad_cons (pd_var fx 6) pad_nil) ⟨ns, xs, by omega, hx.wf, rfl, rfl⟩)) (PED.share (pd_call fx (ok_l_as Z) Z.m_l_as Z.F_l_as.kp (bi_l_as Z) .nil (fun _ => .nil) (pad_cons (pd_var fx 3) pad_nil) ⟨xs, by omega, hx.wf, _, .lst, rfl, rfl⟩)) (.same (pl_told _) (by decide) (.inl ⟨_, .lst⟩))))) ?_
  obtain ⟨q1, q2, q3⟩ := more_ok hn
  have hM : moreS ns = .at_ (ns.headD Str.empty) "top" 3 := rfl
  refine pssd_cons (psd_set fx 7 (PED.share (pd_make fx Z.M_At_init (ok_At_init Z) Z.m_At (bi_At_init Z) .nil (fun _ => .nil) (pad_cons (pd_sub fx (pd_var fx 0) pd_int (.lst .lst q3)) (pad_cons pd_str (pad_cons pd_int pad_nil))) ⟨ns.headD Str.empty, "top", 3, q1, rfl, rfl⟩))) ?_
  obtain ⟨m1, m2⟩ := md c ((xs.length : Int) + 1) (by omega)
  have hi : (c % ((xs.length : Int) + 1)).toNat ≤ xs.length := by omega
  have ei : c % (((xs.map Say.t).length : Nat) + 1 : Int) = (((c % ((xs.length : Int) + 1)).toNat : Nat) : Int) := by rw [List.length_map]; exact (Int.toNat_of_nonneg m1).symm
  generalize (c % ((xs.length : Int) + 1)).toNat = i at hi ei
  refine pssd_cons (psd_set fx 8 (pd_cast (slotI ei) (pd_op (fun _ => op_mod) (pd_var fx 2) (pd_plus (pd_blt fx (fun _ => call_lenU) Z.b_len (pad_cons (pd_var fx 1) pad_nil) (rc_len (.lst .lst))) pd_int) (rd_mod (by rw [List.length_map]; omega))))) ?_
  have last : ∀ s9 s10 : Wd.Slot, PSsD K (bodyX P w K mg base N_l_sheets_right "_law_sheets_right" (defScope s_l_sheets_right) (He.ga K "_law_sheets_right") cdv A outer s H E) ((defBody s_l_sheets_right).drop 11) [.sh (.lst (ns.map .str)), .sh (.lst (xs.map Say.t)), .sh (.int c), .sh (.lst (xs.map Say.d)), .un, .un, .sh (.obj "Sheet" (shF ns xs)), .sh (moreS ns).d, .sh (.int (i : Nat)), s9, s10, .un] (.rt (.sh (.bl true))) := fun s9 s10 => by
    have ea : ((List.range xs.length).all fun k => true) = true := List.all_eq_true.mpr fun _ _ => rfl
    refine pssd_rt (psd_ret (pd_cast (by rw [ea]) (pd_allC fx [("_law_k", 11)] (List.range xs.length) (fun k : Nat => D.int (0 + (k : Int))) (fun _ => true) Z.b_all (by rw [show List.range xs.length = List.range ((((xs.map Say.d).length : Nat) : Int)).toNat by rw [List.length_map]; rfl]; exact pid_range1 fx (pad_cons (pd_blt fx (fun _ => call_lenU) Z.b_len (pad_cons (pd_var fx 3) pad_nil) (rc_len (.lst .lst))) pad_nil) Z.b_range (by rw [List.length_map]; omega)) (by rw [List.length_range, sizeLine_eq]; omega) fun k hk => ⟨_, _, tgd_name fx.bk 11, fun _ h => h, ?_⟩)))
    have hk : k < xs.length := List.mem_range.mp hk
    have e1 : xs.eraseIdx k = xs.take k ++ xs.drop (k + 1) := List.eraseIdx_eq_take_drop_succ _ _
    have hx2 : XOk ns (xs.eraseIdx k) := hx.sub (List.eraseIdx_sublist _ _)
    have e2 : Wd.cutD (xs.map Say.d) none (some (0 + (k : Int))) ++ Wd.cutD (xs.map Say.d) (some (0 + (k : Int) + 1)) none = (xs.eraseIdx k).map Say.d := by
      rw [Int.zero_add, cut_to, show (k : Int) + 1 = ((k + 1 : Nat) : Int) by omega, cut_from, e1, List.map_append, List.map_take, List.map_drop]
    have lx2 : (xs.eraseIdx k).length ≤ 16 := hx2.1
    exact pd_eq fx.bk (PED.share (pd_call fx.bk (ok_l_told Z) Z.m_l_told Z.F_l_told.kp (bi_l_told Z) .nil (fun _ => .nil) (pad_cons (PED.share (pd_call fx.bk (ok_taken Z) Z.m_taken Z.F_taken.kp (bi_taken Z) .nil (fun _ => .nil) (pad_cons (pd_var fx.bk 6) (pad_cons (pd_cast (slotI (Int.zero_add _)) (pd_var fx.bk 11)) pad_nil)) ⟨ns, xs, k, hn, hx2.xs, hk, by omega, rfl, rfl⟩)) pad_nil) ⟨ns, xs.eraseIdx k, by omega, hx2.wf, rfl, rfl⟩)) (PED.share (pd_call fx.bk (ok_l_as Z) Z.m_l_as Z.F_l_as.kp (bi_l_as Z) .nil (fun _ => .nil) (pad_cons (pd_cast (r := .sh (.lst (Wd.cutD (xs.map Say.d) none (some (0 + (k : Int))) ++ Wd.cutD (xs.map Say.d) (some (0 + (k : Int) + 1)) none))) (by rw [e2]) (PED.share (pd_op (r := rAddU K) (fun _ => op_addU) (PED.share (pd_slice fx.bk (pd_var fx.bk 3) pod_none (pod_some (pd_var fx.bk 11)) (.lst .lst))) (PED.share (pd_slice fx.bk (pd_var fx.bk 3) (pod_some (pd_plus (pd_var fx.bk 11) pd_int)) pod_none (.lst .lst))) (rd_add (.lst (by rw [← List.length_append, e2, List.length_map, sizeLine_eq]; omega)))))) pad_nil) ⟨xs.eraseIdx k, by omega, hx2.wf, _, .lst, rfl, rfl⟩)) (.same (pl_told _) (by decide) (.inl ⟨_, .lst⟩))
  by_cases h16 : xs.length < 16
  · have t16 : decide ((((xs.map Say.t).length : Nat) : Int) < 16) = true := decide_eq_true (by rw [List.length_map]; omega)
    let ys := xs.take i ++ [moreS ns] ++ xs.drop i
    have hy : XOk ns ys := by
      refine ⟨?_, fun x h => ?_⟩
      · simp only [ys, List.length_append, List.length_take, List.length_drop, List.length_cons, List.length_nil]; omega
      · rcases List.mem_append.mp h with h | h
        · rcases List.mem_append.mp h with h | h
          · exact hx.2 x (List.mem_of_mem_take h)
          · rw [List.mem_singleton.mp h]; exact ⟨q1, q2⟩
        · exact hx.2 x (List.mem_of_mem_drop h)
    have ly : ys.length ≤ 16 := hy.1
    have ey : Wd.cutD (xs.map Say.d) none (some (i : Int)) ++ [(moreS ns).d] ++ Wd.cutD (xs.map Say.d) (some (i : Int)) none = ys.map Say.d := by
      rw [cut_to, cut_from]
      simp [ys, List.map_take, List.map_drop]
    have eE : ys.eraseIdx i = xs := by
      simp only [ys]
      rw [List.append_assoc, List.eraseIdx_append_of_length_le (by rw [List.length_take]; omega)]
      rw [show i - (xs.take i).length = 0 by rw [List.length_take]; omega]
      show xs.take i ++ xs.drop i = xs
      exact List.take_append_drop i xs
    have iy : i < ys.length := by simp only [ys, List.length_append, List.length_take, List.length_drop, List.length_cons, List.length_nil]; omega
    refine pssd_cons (psd_ifT (ptd_cast t16 (ptd_cmp (fun _ => op_lt) (nomark _) (pd_blt fx (fun _ => call_lenU) Z.b_len (pad_cons (pd_var fx 1) pad_nil) (rc_len (.lst .lst))) pd_int rd_lt)) ?_) (last (.sh (.obj "Sheet" (shF ns ys))) (.sh (.lst (ys.map Say.told))))
    refine pssd_cons (psd_set fx 9 (PED.share (pd_call fx (ok_put Z) Z.m_put Z.F_put.kp (bi_put Z) .nil (fun _ => .nil) (pad_cons (pd_var fx 6) (pad_cons (pd_var fx 8) (pad_cons (pd_var fx 7) pad_nil))) ⟨ns, xs, i, moreS ns, hn, hy.xs, hi, rfl, rfl⟩))) ?_
    refine pssd_cons (psd_set fx 10 (PED.share (pd_call fx (ok_l_as Z) Z.m_l_as Z.F_l_as.kp (bi_l_as Z) .nil (fun _ => .nil) (pad_cons (pd_cast (r := .sh (.lst (Wd.cutD (xs.map Say.d) none (some (i : Int)) ++ [(moreS ns).d] ++ Wd.cutD (xs.map Say.d) (some (i : Int)) none))) (by rw [ey]) (PED.share (pd_op (r := rAddU K) (fun _ => op_addU) (PED.share (pd_op (r := rAddU K) (fun _ => op_addU) (PED.share (pd_slice fx (pd_var fx 3) pod_none (pod_some (pd_var fx 8)) (.lst .lst))) (PED.share (pd_lst (pad_cons (pd_var fx 7) pad_nil))) (rd_add (.lst (by rw [cut_to, List.length_take, List.length_map, sizeLine_eq]; show _ + 1 ≤ _; omega))))) (PED.share (pd_slice fx (pd_var fx 3) (pod_some (pd_var fx 8)) pod_none (.lst .lst))) (rd_add (.lst (by rw [← List.length_append, ey, List.length_map, sizeLine_eq]; omega)))))) pad_nil) ⟨ys, by omega, hy.wf, _, .lst, rfl, rfl⟩))) ?_
    refine pssd_ifF (PWD.t (pwd_or (tv := false) (tw := false) (ptd_ne fx (tv := true) (PED.share (pd_meth0 fx (pd_var fx 9) Z.c_Sheet Z.M_Sheet_names (ok_Sheet_names Z) (bi_Sheet_names Z) .nil (fun _ => .nil) rfl ⟨ns, ys, rfl, rfl⟩)) (pd_var fx 0) (.same (pl_names _) (by decide) (.inl ⟨_, .lst⟩))) fun _ => pwd_or1 (ptd_ne fx (tv := true) (PED.share (pd_call fx (ok_l_told Z) Z.m_l_told Z.F_l_told.kp (bi_l_told Z) .nil (fun _ => .nil) (pad_cons (pd_var fx 9) pad_nil) ⟨ns, ys, by omega, hy.wf, rfl, rfl⟩)) (pd_var fx 10) (.same (pl_told _) (by decide) (.inl ⟨_, .lst⟩))))) ?_
    exact pssd_ifF (PWD.t (pwd_or (tv := false) (tw := false) (ptd_ne fx (tv := true) (PED.share (pd_call fx (ok_l_told Z) Z.m_l_told Z.F_l_told.kp (bi_l_told Z) .nil (fun _ => .nil) (pad_cons (PED.share (pd_call fx (ok_taken Z) Z.m_taken Z.F_taken.kp (bi_taken Z) .nil (fun _ => .nil) (pad_cons (pd_var fx 9) (pad_cons (pd_var fx 8) pad_nil)) ⟨ns, ys, i, hn, by rw [eE]; exact hx.xs, iy, by omega, rfl, by rw [eE]⟩)) pad_nil) ⟨ns, xs, by omega, hx.wf, rfl, rfl⟩)) (PED.share (pd_call fx (ok_l_as Z) Z.m_l_as Z.F_l_as.kp (bi_l_as Z) .nil (fun _ => .nil) (pad_cons (pd_var fx 3) pad_nil) ⟨xs, by omega, hx.wf, _, .lst, rfl, rfl⟩)) (.same (pl_told _) (by decide) (.inl ⟨_, .lst⟩))) fun _ => pwd_or1 (ptd_ne fx (tv := true) (PED.share (pd_call fx (ok_l_told Z) Z.m_l_told Z.F_l_told.kp (bi_l_told Z) .nil (fun _ => .nil) (pad_cons (pd_var fx 6) pad_nil) ⟨ns, xs, by omega, hx.wf, rfl, rfl⟩)) (PED.share (pd_call fx (ok_l_as Z) Z.m_l_as Z.F_l_as.kp (bi_l_as Z) .nil (fun _ => .nil) (pad_cons (pd_var fx 3) pad_nil) ⟨xs, by omega, hx.wf, _, .lst, rfl, rfl⟩)) (.same (pl_told _) (by decide) (.inl ⟨_, .lst⟩))))) pssd_nil
  · have t16 : decide ((((xs.map Say.t).length : Nat) : Int) < 16) = false := decide_eq_false (by rw [List.length_map]; omega)
    exact pssd_ifF (ptd_cast t16 (ptd_cmp (fun _ => op_lt) (nomark _) (pd_blt fx (fun _ => call_lenU) Z.b_len (pad_cons (pd_var fx 1) pad_nil) (rc_len (.lst .lst))) pd_int rd_lt)) (last .un .un)
end
end K1
set_option Elab.async false
set_option linter.all false
set_option maxRecDepth 100000
set_option maxHeartbeats 4000000
namespace K1
open PySem PySem.Spec L2 Wd
open PyProof.Rows hiding St
section
variable {ι : Type} {Xs : ι → Cx} {P : Program} {w : World} {K : PySem.W.Frag} {mg : Str → Option Value} {base : Heap} {N : List Str} {k : Nat} {γ : Gm} {e e1 e2 : Expr} {pos p p2 np np2 tp tp2 : Pos} {x : Str} {H0 S0 S H F : Hp} {σ : St} {En : Ends}
def hF (l1 l2 l3 : Addr) (a1 a2 : List V) : Hp := upd (upd (upd (fun _ => none) l1 (.lst a1)) l2 (.lst a2)) l3 (.lst [.ref l1, .ref l2])
/-- x = [e1, e2], both new lists -/
theorem as_setLL (fx : Fx Xs P w K mg base N k) (i : Nat) {ds1 ds2 : List D} (kk : Ok K H0 S0 S H σ γ) (no : noOw (γ.set i .un)) (hi : i < γ.length) (h1 : PED K Xs e1 γ (.ow (.lst ds1))) (h2 : PED K Xs e2 γ (.ow (.lst ds2))) (noγ : noOw γ)
    (q : ∀ S' H' l1 l2 l3 xs1 xs2, l1 ≠ l2 → l1 ≠ l3 → l2 ≠ l3 → Dats K S' xs1 ds1 → Dats K S' xs2 ds2 → Pv K (γ.set i .un) (hF l1 l2 l3 xs1 xs2) H0 S0 S' H' (σ.set i (some (.ref l3))) → En.nx (σ.set i (some (.ref l3))) H')
    (hN : N[i]? = some x := by rfl) (hx : ∀ j, Loc (Xs j).env.scope x := by first | exact fun _ => Or.inl rfl | exact fun _ => Or.inr rfl)
    (hs : ∀ j, swapsWith (.List [e1, e2] p) (some (.Name x np)) pos.line (Xs j).env = pure false := by exact fun _ => rfl) (hf : ∀ j, (Xs j).fn x = true ∨ (Xs j).env.scope.names.lookup x = some .local := by first | exact fun _ => Or.inl rfl | exact fun _ => Or.inr rfl)
    (s1 : ∀ i, starEach [e1, e2] (Xs i).env = (false, eval e1 (Xs i).env) :: starEach [e2] (Xs i).env := by exact fun _ => rfl) (s2 : ∀ i, starEach [e2] (Xs i).env = (false, eval e2 (Xs i).env) :: starEach [] (Xs i).env := by exact fun _ => rfl) : anyS Xs (.Assign [.Name x np] (.List [e1, e2] p) pos) En σ H := by
  refine as_set fx i ⟨tLst (tCons (anyE Xs e1) (tCons (anyE Xs e2) tNil)), fun j => pe_lst (pa_cons (pe_any e1 j) (pa_cons (pe_any e2 j) pa_nil (s2 j)) (s1 j)), ?_⟩ hN hx hs hf
  refine h1 _ _ _ _ σ kk _ fun v1 S1 H1 g1 t1 ⟨l1, ev1, a1, a2, xs1, hl1, d1⟩ => h2 _ _ _ _ σ (kk.grow g1 t1) _ fun v2 S2 H2 g2 t2 ⟨l2, ev2, b1, b2, xs2, hl2, d2⟩ => ⟨by show 2 ≤ sizeLine; decide, fun l3 hl3 => ?_⟩
  subst ev1 ev2
  have n12 : l1 ≠ l2 := fun z => by rw [← z, hl1] at b2; cases b2
  have h2l1 : H2 l1 = some (.lst xs1) := g2.hh _ _ hl1
  have n13 : l1 ≠ l3 := fun z => by rw [← z, h2l1] at hl3; cases hl3
  have n23 : l2 ≠ l3 := fun z => by rw [← z, hl2] at hl3; cases hl3
  have kk2 := (kk.grow g1 t1).grow g2 t2
  have kk3 : Ok K H0 S0 S2 (upd H2 l3 (.lst [.ref l1, .ref l2])) σ γ := kk2.grow ⟨Same.refl _, Ex.new hl3, fun b o h n => by rw [n] at h; cases h⟩ (t2.ex (Ex.new hl3))
  have pv0 : Pv K γ (fun _ => none) H0 S0 S2 (upd H2 l3 (.lst [.ref l1, .ref l2])) σ := ⟨kk3, noγ, fun a o h => (by cases h), fun a o h => (by cases h), fun a o h => (by cases h)⟩
  have pv1 := pv0.setu (j := i) (ov := some (.ref l3)) hi
  have pv2 := ((pv1.add (a := l1) (o := .lst xs1) (by rw [upd_ne n13]; exact h2l1) (g2.out a1 hl1) (Ex.back kk.h0 a2)).add (a := l2) (o := .lst xs2) (by rw [upd_ne n23]; exact hl2) b1 (Ex.back (kk.grow g1 t1).h0 b2)).add (a := l3) (o := .lst [.ref l1, .ref l2]) upd_same (t2.out hl3) (Ex.back kk2.h0 hl3)
  exact q S2 _ l1 l2 l3 xs1 xs2 n12 n13 n23 (d1.ex g2.ss) d2 pv2
theorem hF1 {l1 l2 l3 : Addr} {a1 a2 : List V} (n12 : l1 ≠ l2) (n13 : l1 ≠ l3) : hF l1 l2 l3 a1 a2 l1 = some (.lst a1) := by unfold hF; rw [upd_ne n13, upd_ne n12]; exact upd_same
theorem hF2 {l1 l2 l3 : Addr} {a1 a2 : List V} (n23 : l2 ≠ l3) : hF l1 l2 l3 a1 a2 l2 = some (.lst a2) := by unfold hF; rw [upd_ne n23]; exact upd_same
theorem hF3 {l1 l2 l3 : Addr} {a1 a2 : List V} : hF l1 l2 l3 a1 a2 l3 = some (.lst [.ref l1, .ref l2]) := upd_same
/-- x[j].append(e), x a private list of private lists -/
theorem as_appE (fx : Fx Xs P w K mg base N k) (i : Nat) {l a : Addr} {vs xs : List V} {m : Int} {jj : Nat} {d : D} (pv : Pv K γ F H0 S0 S H σ) (hσ : σ[i]? = some (some (.ref l))) (fl : F l = some (.lst vs)) (hm : atI vs m = some (.ref a)) (fa : F a = some (.lst xs)) (hl : xs.length < sizeLine) (he : PED K Xs e γ (.sh d)) (q : ∀ S' H' y, Ex S S' → Pv K γ (upd F a (.lst (xs ++ [y]))) H0 S0 S' H' σ → En.nx σ H')
    (hN : N[i]? = some x := by rfl) (hv : ∀ j, Vis (Xs j).env.scope x := by first | exact fun _ => Or.inl rfl | exact fun _ => Or.inr (Or.inl rfl) | exact fun _ => Or.inr (Or.inr rfl))
    (hd : (x == ("__debug__" : Str)) = false := by decide) (hcd : (x == ("__classdict__" : Str)) = false := by decide) (hsx : PlainIx (.Constant (.int m) jj tp2) := by exact fun _ _ => rfl)
    (hbase : ∀ i, attributeBase (.Subscript (.Name x np) (.Constant (.int m) jj tp2) np2) "append" (Xs i).env (eval (.Subscript (.Name x np) (.Constant (.int m) jj tp2) np2) (Xs i).env) = eval (.Subscript (.Name x np) (.Constant (.int m) jj tp2) np2) (Xs i).env := by exact fun _ => rfl)
    (hfew : ∀ j, ((backTo pos (starEach [e] (Xs j).env)).all (fun x => !x.1) && (backToKw pos (keywordEach [] (Xs j).env)).all (fun x => x.1.isSome) && decide (([e] : List Expr).length + ([] : List Keyword).length + (if ([] : List Keyword).isEmpty then 0 else 1) < 30)) = true := by exact fun _ => rfl)
    (hline : (p.endLine == pos.line) = true := by rfl) (hs : ∀ j, starEach [e] (Xs j).env = (false, eval e (Xs j).env) :: starEach [] (Xs j).env := by exact fun _ => rfl) (hplain : ∀ j, (backTo pos (starEach [] (Xs j).env)).any (·.1) = false := by exact fun _ => rfl)
    (hsw : ∀ j, swapsWith (.Call (.Attribute (.Subscript (.Name x np) (.Constant (.int m) jj tp2) np2) "append" p) [e] [] pos) none tp.line (Xs j).env = pure false := by exact fun _ => rfl) : anyS Xs (.Expr (.Call (.Attribute (.Subscript (.Name x np) (.Constant (.int m) jj tp2) np2) "append" p) [e] [] pos) tp) En σ H := by
  refine ⟨tDrop (tBM K "list" rAppend (tOp (rIx K) (tVar i) (tC (.int m))) (tCons (anyE Xs e) tNil)), fun j => ps_expr ?_ (hsw j), ?_⟩
  · have z := pe_ix (pos := np2) (ix_seq (X := Xs j)) (pe_self (pos := np) i fx hN hv hd hcd j) (pe_int (i := m) (pos := tp2) (j := jj)) hsx
    rw [fx.hK j] at z
    have z2 := pe_bm (X := Xs j) (r := rAppend) PySem.F.plainAttrs_list PySem.F.slot_list_append PySem.F.type_list_append mt_append z (pa_cons (pe_any e j) pa_nil (hs j)) (hbase j) (hfew j) hline (hs j) (hplain j)
    rw [fx.hK j] at z2
    exact z2
  · exact ⟨_, hσ, .inl ⟨l, vs, m, .ref a, rfl, rfl, SqL.of (pv.fh l _ fl), hm, .inl ⟨rfl, xs, SqL.of (pv.fh a _ fa)⟩, pv.eval he fun y S1 H1 pv1 g1 s1 r1 => ⟨a, xs, y, rfl, rfl, pv1.fh a _ fa, hl, q S1 _ y g1.ss (pv1.mut fa _)⟩⟩⟩
/-- x[j].clear() -/
theorem as_clrE (fx : Fx Xs P w K mg base N k) (i : Nat) {l a : Addr} {vs xs : List V} {m : Int} {jj : Nat} (pv : Pv K γ F H0 S0 S H σ) (hσ : σ[i]? = some (some (.ref l))) (fl : F l = some (.lst vs)) (hm : atI vs m = some (.ref a)) (fa : F a = some (.lst xs)) (q : Pv K γ (upd F a (.lst [])) H0 S0 S (upd H a (.lst [])) σ → En.nx σ (upd H a (.lst [])))
    (hN : N[i]? = some x := by rfl) (hv : ∀ j, Vis (Xs j).env.scope x := by first | exact fun _ => Or.inl rfl | exact fun _ => Or.inr (Or.inl rfl) | exact fun _ => Or.inr (Or.inr rfl))
    (hd : (x == ("__debug__" : Str)) = false := by decide) (hcd : (x == ("__classdict__" : Str)) = false := by decide) (hsx : PlainIx (.Constant (.int m) jj tp2) := by exact fun _ _ => rfl)
    (hbase : ∀ i, attributeBase (.Subscript (.Name x np) (.Constant (.int m) jj tp2) np2) "clear" (Xs i).env (eval (.Subscript (.Name x np) (.Constant (.int m) jj tp2) np2) (Xs i).env) = eval (.Subscript (.Name x np) (.Constant (.int m) jj tp2) np2) (Xs i).env := by exact fun _ => rfl) (hline : (p.endLine == pos.line) = true := by rfl)
    (hsw : ∀ j, swapsWith (.Call (.Attribute (.Subscript (.Name x np) (.Constant (.int m) jj tp2) np2) "clear" p) [] [] pos) none tp.line (Xs j).env = pure false := by exact fun _ => rfl) : anyS Xs (.Expr (.Call (.Attribute (.Subscript (.Name x np) (.Constant (.int m) jj tp2) np2) "clear" p) [] [] pos) tp) En σ H := by
  refine ⟨tDrop (tBM0 K "list" rClear (tOp (rIx K) (tVar i) (tC (.int m)))), fun j => ps_expr ?_ (hsw j), ?_⟩
  · have z := pe_ix (pos := np2) (ix_seq (X := Xs j)) (pe_self (pos := np) i fx hN hv hd hcd j) (pe_int (i := m) (pos := tp2) (j := jj)) hsx
    rw [fx.hK j] at z
    have z2 := pe_bm0 (X := Xs j) (r := rClear) PySem.F.plainAttrs_list PySem.F.slot_list_clear PySem.F.type_list_clear mt_clear z (hbase j) hline
    rw [fx.hK j] at z2
    exact z2
  · exact ⟨_, hσ, .inl ⟨l, vs, m, .ref a, rfl, rfl, SqL.of (pv.fh l _ fl), hm, .inl ⟨rfl, xs, SqL.of (pv.fh a _ fa)⟩, a, xs, rfl, rfl, pv.fh a _ fa, q (pv.mut fa _)⟩⟩
end
section
variable {P : Program} {w : World} {K : PySem.W.Frag} {mg : Str → Option Value} {base : Heap} (Z : Env K mg w)
include Z
theorem as_sheet {ι : Type} {Xs : ι → Cx} {N : List Str} {k : Nat} {γ : Gm} {pos p np1 np2 tp1 tp2 sp1 sp2 : Pos} {x y : Str} {H0 S0 S H : Hp} {σ : St} {En : Ends} {j1 j2 : Nat} {np : Pos} {apos : Pos} (fx : Fx Xs P w K mg base N k) (i j : Nat) {l1 l2 l3 : Addr} {a1 a2 : List V} {ns : List Str} {xs : List Say} (hk : 5 ≤ k) (hj : j < γ.length) (hij : i ≠ j) (n12 : l1 ≠ l2) (n13 : l1 ≠ l3) (n23 : l2 ≠ l3) (pv : Pv K γ (hF l1 l2 l3 a1 a2) H0 S0 S H σ) (hσ : σ[i]? = some (some (.ref l3)))
    (d1 : Dats K S a1 (ns.map .str)) (d2 : Dats K S a2 (xs.map Say.d)) (hn : NsOk ns) (hx : XsOk ns xs)
    (q : ∀ S' H' v, Pv K (γ.set j (.sh (.obj "Sheet" (shF ns xs)))) (hF l1 l2 l3 a1 a2) H0 S0 S' H' (σ.set j (some v)) → En.nx (σ.set j (some v)) H')
    (hN : N[i]? = some x := by rfl) (hv : ∀ j, Vis (Xs j).env.scope x := by first | exact fun _ => Or.inl rfl | exact fun _ => Or.inr (Or.inl rfl) | exact fun _ => Or.inr (Or.inr rfl))
    (hd : (x == ("__debug__" : Str)) = false := by decide) (hcd : (x == ("__classdict__" : Str)) = false := by decide) (hs1 : PlainIx (.Constant (.int 0) j1 tp1) := by exact fun _ _ => rfl) (hs2 : PlainIx (.Constant (.int 1) j2 tp2) := by exact fun _ _ => rfl)
    (hg : ∀ i, Gl (Xs i) "Sheet" := by exact fun _ => rfl)
    (he : ∀ i, starEach [.Subscript (.Name x np1) (.Constant (.int 0) j1 tp1) sp1, .Subscript (.Name x np2) (.Constant (.int 1) j2 tp2) sp2] (Xs i).env = (false, eval (.Subscript (.Name x np1) (.Constant (.int 0) j1 tp1) sp1) (Xs i).env) :: starEach [.Subscript (.Name x np2) (.Constant (.int 1) j2 tp2) sp2] (Xs i).env := by exact fun _ => rfl)
    (he2 : ∀ i, starEach [.Subscript (.Name x np2) (.Constant (.int 1) j2 tp2) sp2] (Xs i).env = (false, eval (.Subscript (.Name x np2) (.Constant (.int 1) j2 tp2) sp2) (Xs i).env) :: starEach [] (Xs i).env := by exact fun _ => rfl)
    (hpl : ∀ i, (backTo pos (starEach [.Subscript (.Name x np2) (.Constant (.int 1) j2 tp2) sp2] (Xs i).env)).any (·.1) = false := by exact fun _ => rfl)
    (hN2 : N[j]? = some y := by rfl) (hy : ∀ j, Loc (Xs j).env.scope y := by first | exact fun _ => Or.inl rfl | exact fun _ => Or.inr rfl)
    (hsw : ∀ j, swapsWith (.Call (.Name "Sheet" p) [.Subscript (.Name x np1) (.Constant (.int 0) j1 tp1) sp1, .Subscript (.Name x np2) (.Constant (.int 1) j2 tp2) sp2] [] pos) (some (.Name y np)) apos.line (Xs j).env = pure false := by exact fun _ => rfl) (hf : ∀ j, (Xs j).fn y = true ∨ (Xs j).env.scope.names.lookup y = some .local := by first | exact fun _ => Or.inl rfl | exact fun _ => Or.inr rfl) :
    anyS Xs (.Assign [.Name y np] (.Call (.Name "Sheet" p) [.Subscript (.Name x np1) (.Constant (.int 0) j1 tp1) sp1, .Subscript (.Name x np2) (.Constant (.int 1) j2 tp2) sp2] [] pos) apos) En σ H := by
  refine as_set fx j ⟨tMake (He.ga K "Sheet") (spN K) [] E0 (tCons (tOp (rIx K) (tVar i) (tC (.int 0))) (tCons (tOp (rIx K) (tVar i) (tC (.int 1))) tNil)), fun m => ?_, ?_⟩ hN2 hy hsw hf
  · have hK := fx.hK m
    have z1 := pe_ix (pos := sp1) (ix_seq (X := Xs m)) (pe_self (pos := np1) i fx hN hv hd hcd m) (pe_int (i := 0) (pos := tp1) (j := j1)) hs1
    have z2 := pe_ix (pos := sp2) (ix_seq (X := Xs m)) (pe_self (pos := np2) i fx hN hv hd hcd m) (pe_int (i := 1) (pos := tp2) (j := j2)) hs2
    rw [hK] at z1 z2
    exact pe_make (by rw [hK]; exact Z.M_Sheet_init) (fx.fn (ok_Sheet_initN Z) m) ((fx.room m).mono hk) (hg m) (by rw [fx.hmg m]; exact Z.m_Sheet) (fx.binds (bi_Sheet_init Z) m) .nil passL (pa_cons z1 (pa_cons z2 pa_nil (he2 m)) (he m)) (by decide) (he m) (hpl m)
  · have f3 := pv.fh l3 _ hF3
    have f1 := pv.fh l1 _ (hF1 n12 n13)
    have f2 := pv.fh l2 _ (hF2 n23)
    have s1 := pv.fs l1 _ (hF1 n12 n13)
    have s2 := pv.fs l2 _ (hF2 n23)
    refine ⟨_, hσ, .inl ⟨l3, _, 0, .ref l1, rfl, rfl, SqL.of f3, rfl, _, hσ, .inl ⟨l3, _, 1, .ref l2, rfl, rfl, SqL.of f3, rfl, fun a dx ha hdx hne => ?_⟩⟩⟩
    have e1 : Ex H (upd H dx (.own a)) := Ex.new hdx
    have ha2 : (upd H dx (.own a)) a = none := by rw [upd_ne (fun z => hne z.symm)]; exact ha
    have e2 : Ex H (upd (upd H dx (.own a)) a (.ins (He.ga K "Sheet") dx [])) := Same.trans e1 (Ex.new ha2)
    have sa := pv.ok.sh.out ha
    refine ⟨S, a, dx, l1, l2, a1, a2, ns, xs, rfl, pv.ok.sh.ex e2, sa, s1, s2, n12, upd_same, e2 _ _ f1, e2 _ _ f2, d1, d2, hn, hx, fun S' H' es keep nw s' ow => ⟨rfl, ?_⟩⟩
    have g : Gr S H S' H' := ⟨es, fun b o hb => keep b o (e2 b o hb) (fun z => by subst z; rw [ha] at hb; cases hb), fun b o hb hn => Ex.back e2 (nw b o hb hn)⟩
    have hys : S' a = none := by
      cases z : S' a with
      | none => rfl
      | some u =>
        have := nw a u z sa
        rw [upd_same] at this
        cases this
    obtain ⟨o, ho, b1, b2, b3⟩ := ow.froze s' hys
    have g2 : Gr S H (upd S' a o) H' := ⟨Same.trans es b2, g.hh, fun b u hb hn => by
      by_cases z : b = a
      · subst z; exact ha
      · rw [upd_ne z] at hb; exact g.nw b u hb hn⟩
    exact q _ H' (.ref a) ((pv.grow g2 b1).sets hj b3)
theorem ok_l_sheets_right : FnOk P w K mg base (L2.CX P w) 8 (He.ga K "_law_sheets_right") Z.d_l_sheets_right ["_law_names_here", "_law_said", "_law_cell"] (spD K PrSheetsR) := by
  refine fn_data Z.F_l_sheets_right sc_l_sheets_right (fun ds r ⟨_, _, _, _, _, e, _⟩ => (by rw [e]; rfl)) fun cdv A outer s H E fx ds r hp => ?_
  obtain ⟨ns, xs, c, hn, hx, rfl, rfl⟩ := hp
  obtain ⟨l16, _⟩ := id hx
  have l6 := hn.1.2.1
  refine ⟨.rt _, ?_, .rt⟩
  refine pssd_cons (psd_set fx 3 (PED.share (pd_lcA fx [("_law_one", 4)] xs Say.t Say.d (pid_list fx .lst (pd_var fx 1)) (by rw [sizeLine_eq]; omega) fun x hm => ⟨_, _, tgd_name fx.bk 4, fun _ h => h, PED.share (pd_call fx.bk (ok_l_made Z) Z.m_l_made Z.F_l_made.kp (bi_l_made Z) .nil (fun _ => .nil) (pad_cons (pd_var fx.bk 4) pad_nil) ⟨x, (hx.2 x hm).1, rfl, rfl⟩)⟩))) ?_
  intro H0 S0 S H σ En k q
  have hlen : σ.length = 12 := k.len
  refine rs_cons (as_setLL fx 5 (ds1 := ns.map .str) (ds2 := xs.map Say.d) k (noOw_of rfl) (Nat.le_of_ble_eq_true rfl) (pd_bty fx (fun _ => call_listU) Z.b_list (pad_cons (pd_var fx 0) pad_nil) (rc_list (.inl .lst))) (pd_bty fx (fun _ => call_listU) Z.b_list (pad_cons (pd_var fx 3) pad_nil) (rc_list (.inl .lst))) (noOw_of rfl) fun S1 H1 l1 l2 l3 a1 a2 n12 n13 n23 d1 d2 pv1 => ?_)
  have hσ1 : (σ.set 5 (some (.ref l3)))[5]? = some (some (.ref l3)) := by rw [List.getElem?_set_self (by rw [hlen]; decide)]
  refine rs_cons (as_sheet Z fx 5 6 (ns := ns) (xs := xs) (by decide) (Nat.le_of_ble_eq_true rfl) (by decide) n12 n13 n23 pv1 hσ1 d1 d2 hn hx.xs fun S2 H2 v pv2 => ?_)
  have hσ2 : ((σ.set 5 (some (.ref l3))).set 6 (some v))[5]? = some (some (.ref l3)) := by rw [List.getElem?_set_ne (by decide)]; exact hσ1
  have la1 : a1.length = ns.length := by rw [d1.length, List.length_map]
  refine rs_cons (as_appE fx 5 (l := l3) (a := l1) (xs := a1) (d := .str "z") pv2 hσ2 hF3 rfl (hF1 n12 n13) (by rw [la1, sizeLine_eq]; omega) pd_str fun S3 H3 y ex3 pv3 => ?_)
  refine rs_cons (as_clrE fx 5 (l := l3) (a := l2) (xs := a2) pv3 hσ2 (by rw [upd_ne n13.symm]; exact hF3) rfl (by rw [upd_ne n12.symm]; exact hF2 n23) fun pv4 => ?_)
  exact sheets_tail Z cdv A outer s _ E fx ns xs c hn hx H0 S0 _ _ _ En pv4.ok q
end
end K1
set_option Elab.async false
set_option linter.all false
set_option maxRecDepth 100000
set_option maxHeartbeats 4000000
namespace K1
open PySem PySem.Spec L2 Wd
open PyProof.Rows hiding St
/-! ### what is drawn is a sheet, and places of it -/
theorem unl2 {a b : Str} (ha : nameOk a = true) (hb : nameOk b = true) (h : a ≠ b) : unlikeOk [a, b] = true := by
  unfold unlikeOk
  rw [Bool.and_eq_true]
  refine ⟨by simp [ha, hb], decide_eq_true ((unlikes_iff [a, b]).mpr (by simp [h]))⟩
theorem unl3 {a b c : Str} (ha : nameOk a = true) (hb : nameOk b = true) (hc : nameOk c = true) (h1 : a ≠ b) (h2 : a ≠ c) (h3 : b ≠ c) : unlikeOk [a, b, c] = true := by
  unfold unlikeOk
  rw [Bool.and_eq_true]
  refine ⟨by simp [ha, hb, hc], decide_eq_true ((unlikes_iff [a, b, c]).mpr (by simp [h1, h2, h3]))⟩
theorem left_bes {ns : List Str} {h : Hid} (hf : HidFull ns h) {n s o : Str} (hn : n ∈ ns) (ho : o ∈ ns) : -100 ≤ leftOf h (.bes n s o 0) ∧ leftOf h (.bes n s o 0) ≤ 100 := by
  obtain ⟨a1, a2⟩ := near_in s
  obtain ⟨v1, e1, b1⟩ := hidAt_in hf hn a1
  obtain ⟨v2, e2, b2⟩ := hidAt_in hf ho a1
  obtain ⟨v3, e3, b3⟩ := hidAt_in hf hn a2
  obtain ⟨v4, e4, b4⟩ := hidAt_in hf ho a2
  have e : (Say.bes n s o 0).tms = besT n s o := rfl
  have en : (Say.bes n s o 0).num = 0 := by show besN s 0 = 0; unfold besN; split <;> rfl
  unfold leftOf
  rw [e, en]
  unfold besT
  split
  · simp only [List.map_cons, List.map_nil, List.sum_cons, List.sum_nil, e1, e2, e4, Option.getD_some]
    omega
  · simp only [List.map_cons, List.map_nil, List.sum_cons, List.sum_nil, e1, e2, e3, Option.getD_some]
    omega
theorem by_abs (s : Str) (l : Int) (h : -100 ≤ l ∧ l ≤ 100) : -100 ≤ byL s l ∧ byL s l ≤ 100 := by
  unfold byL
  split <;> omega
theorem spoil_in (c : Int) : spoilOf c = 0 ∨ spoilOf c = 1 := by
  unfold spoilOf
  split
  · exact .inr rfl
  · exact .inl rfl
theorem say_ok {c : Int} {ns : List Str} {h : Hid} (hne : ns ≠ []) (nd : ns.Nodup) (hm : ∀ x ∈ ns, NmOk x) (hf : HidFull ns h) : (sayOf c ns h).ok ∧ ∀ n ∈ (sayOf c ns h).names, n ∈ ns := by
  have one := oneOf_in (c := c) hne
  have o1 := hm _ one
  have sp := spoil_in c
  obtain ⟨pl, _⟩ := partOf_in c
  have atOk : (Say.at_ (oneOf c ns) (partOf c) ((hidAt h (oneOf c ns) (partOf c)).getD 0 + spoilOf c)).ok ∧ ∀ n ∈ (Say.at_ (oneOf c ns) (partOf c) ((hidAt h (oneOf c ns) (partOf c)).getD 0 + spoilOf c)).names, n ∈ ns := by
    obtain ⟨v, e, b⟩ := hidAt_in hf one pl
    refine ⟨⟨o1.1, o1.2, pl, ?_, ?_⟩, fun n hn => by rw [List.mem_singleton.mp hn]; exact one⟩
    · rw [e]; show -1000 ≤ v + _; omega
    · rw [e]; show v + _ ≤ 1000; omega
  unfold sayOf
  split
  · rename_i A
    have rne := rest_ne nd A.2.1
    have ot : othersOf c ns ≠ [] := fun z => by rw [z] at A; exact absurd A.2.1 (by decide)
    have f1 := others_in (first_in ot)
    have r1 := rest_in (pick_mem (dg c 3) Str.empty rne).1
    have r2 := others_in r1.1
    have n1 := hm _ f1.1
    have n2 := hm _ r2.1
    refine ⟨⟨⟨o1.1, n1.1, n2.1⟩, unl3 o1.2 n1.2 n2.2 f1.2.symm r2.2.symm r1.2.symm, (way_at c).1⟩, fun n hn => ?_⟩
    have hn' : n ∈ [oneOf c ns, firstOf c ns, pick (restOf c ns) (dg c 3) Str.empty] := hn
    simp only [List.mem_cons, List.not_mem_nil, or_false] at hn'
    rcases hn' with rfl | rfl | rfl
    · exact one
    · exact f1.1
    · exact r2.1
  · split
    · rename_i A C
      have ot : othersOf c ns ≠ [] := fun z => by have := kind_nil z; omega
      have f1 := others_in (first_in ot)
      have n1 := hm _ f1.1
      have lb := by_abs (sideOf c) _ (left_bes (s := sideOf c) hf one f1.1)
      refine ⟨⟨⟨o1.1, n1.1⟩, unl2 o1.2 n1.2 f1.2.symm, (sideOf_in c).1, by omega, by omega⟩, fun n hn => ?_⟩
      have hn' : n ∈ [oneOf c ns, firstOf c ns] := hn
      simp only [List.mem_cons, List.not_mem_nil, or_false] at hn'
      rcases hn' with rfl | rfl
      · exact one
      · exact f1.1
    · split
      · rename_i A C m F
        split at F
        · rename_i D2
          have ot : othersOf c ns ≠ [] := fun z => by have := kind_nil z; omega
          have f1 := others_in (first_in ot)
          have n1 := hm _ f1.1
          have mm := many_in (List.mem_of_find?_eq_some F)
          refine ⟨⟨⟨o1.1, n1.1⟩, unl2 o1.2 n1.2 f1.2.symm, pl, mm.1, mm.2⟩, fun n hn => ?_⟩
          have hn' : n ∈ [oneOf c ns, firstOf c ns] := hn
          simp only [List.mem_cons, List.not_mem_nil, or_false] at hn'
          rcases hn' with rfl | rfl
          · exact one
          · exact f1.1
        · cases F
      · exact atOk
theorem ok_fit {x : Say} {ps : Pls} (h : x.ok) (hn : ∀ n ∈ x.names, n ∈ ps.map (·.1)) : x.fit ps := by
  cases x with
  | at_ n p i =>
    obtain ⟨_, _, h3, h4, h5⟩ := h
    exact ⟨hn n (by simp [Say.names]), h3, by unfold sm; omega⟩
  | bes n s o b =>
    obtain ⟨_, _, h3, h4, h5⟩ := h
    exact ⟨hn n (by simp [Say.names]), hn o (by simp [Say.names]), h3, by unfold sm; omega⟩
  | alk n p o m =>
    obtain ⟨_, _, h3, h4, h5⟩ := h
    exact ⟨hn n (by simp [Say.names]), hn o (by simp [Say.names]), h3, by unfold sm; omega⟩
  | amd n v o u =>
    obtain ⟨_, _, h3⟩ := h
    exact ⟨hn n (by simp [Say.names]), hn o (by simp [Say.names]), hn u (by simp [Say.names]), h3⟩
theorem ok_of {x : Say} {ns : List Str} (hn : ∀ n ∈ x.names, n ∈ ns) : ofNames x ns = true := List.all_eq_true.mpr fun n h => inV_mem (hn n h)
/-! bounds -/
theorem ok_small {x : Say} (h : x.ok) : (∀ t ∈ x.tms, -1000 ≤ t.2.2 ∧ t.2.2 ≤ 1000) ∧ -1000 ≤ x.num ∧ x.num ≤ 1000 := by
  cases x with
  | at_ n p i =>
    obtain ⟨_, _, h3, h4, h5⟩ := h
    refine ⟨fun t ht => ?_, h4, h5⟩
    have ht' : t ∈ atT n p := ht
    unfold atT at ht'
    simp only [List.mem_cons, List.not_mem_nil, or_false] at ht'
    subst ht'
    (refine ⟨?_, ?_⟩ <;> dsimp only <;> decide)
  | bes n s o b =>
    obtain ⟨_, _, h3, h4, h5⟩ := h
    refine ⟨fun t ht => ?_, ?_⟩
    · have ht' : t ∈ besT n s o := ht
      unfold besT at ht'
      split at ht' <;>
      · simp only [List.mem_cons, List.not_mem_nil, or_false] at ht'
        rcases ht' with rfl | rfl | rfl <;> (refine ⟨?_, ?_⟩ <;> dsimp only <;> decide)
    · show -1000 ≤ besN s b ∧ besN s b ≤ 1000
      unfold besN
      split <;> omega
  | alk n p o m =>
    obtain ⟨_, _, h3, h4, h5⟩ := h
    refine ⟨fun t ht => ?_, (by decide : -1000 ≤ (0 : Int)), (by decide : (0 : Int) ≤ 1000)⟩
    have ht' : t ∈ alkT n p o m := ht
    unfold alkT at ht'
    simp only [List.mem_cons, List.not_mem_nil, or_false] at ht'
    rcases ht' with rfl | rfl
    · (refine ⟨?_, ?_⟩ <;> dsimp only <;> decide)
    · exact ⟨by show -1000 ≤ -m; omega, by show -m ≤ 1000; omega⟩
  | amd n v o u =>
    refine ⟨fun t ht => ?_, (by decide : -1000 ≤ (0 : Int)), (by decide : (0 : Int) ≤ 1000)⟩
    have ht' : t ∈ amdT n v o u := ht
    unfold amdT at ht'
    simp only [List.mem_cons, List.not_mem_nil, or_false] at ht'
    rcases ht' with rfl | rfl | rfl | rfl | rfl | rfl <;> (refine ⟨?_, ?_⟩ <;> dsimp only <;> decide)
def PlSm (ps : Pls) : Prop := ∀ p ∈ ps, ∀ s ∈ p.2, -1000 ≤ s.1 ∧ s.1 ≤ 1000
theorem div_small {a b : Int} (h : -1000 ≤ a ∧ a ≤ 1000) (hb : 1 ≤ b) : -1000 ≤ a / b ∧ a / b ≤ 1000 := by
  constructor
  · exact Int.le_ediv_of_mul_le (by omega) (by
      have : (-1000 : Int) * b ≤ -1000 * 1 := by
        rw [Int.neg_mul, Int.neg_mul]
        have := Int.mul_le_mul_of_nonneg_left hb (show (0 : Int) ≤ 1000 by decide)
        omega
      omega)
  · by_cases z : 0 ≤ a
    · exact Int.le_trans (Int.ediv_le_self _ z) h.2
    · have := Int.ediv_neg_of_neg_of_pos (show a < 0 by omega) (show 0 < b by omega)
      omega
theorem flo_small {ps : Pls} (hp : PlOk ps) (h : PlSm ps) {p : Str × List Sh} (hm : p ∈ ps) : ∀ v ∈ flo p.2, -1000 ≤ v ∧ v ≤ 1000 := fun v hv => by
  unfold flo at hv
  obtain ⟨s, hs, rfl⟩ := List.mem_map.mp hv
  exact div_small (h p hm s hs) ((hp.2.2 p hm).2 s hs).2.1
theorem prod_small {i j : Int} (h : -1000 ≤ i ∧ i ≤ 1000) (g : -1000 ≤ j ∧ j ≤ 1000) : -1000000 ≤ i * j ∧ i * j ≤ 1000000 := by
  have h1 : (i * j).natAbs ≤ 1000000 := by
    rw [Int.natAbs_mul]
    have a : i.natAbs ≤ 1000 := by omega
    have b : j.natAbs ≤ 1000 := by omega
    calc i.natAbs * j.natAbs ≤ 1000 * 1000 := Nat.mul_le_mul a b
      _ = 1000000 := by decide
  omega
theorem sum_small {α : Type} (f : α → Int) : ∀ ts : List α, (∀ t ∈ ts, -1000000 ≤ f t ∧ f t ≤ 1000000) → -(1000000 * (ts.length : Int)) ≤ (ts.map f).sum ∧ (ts.map f).sum ≤ 1000000 * (ts.length : Int)
  | [], _ => by simp
  | t :: ts, h => by
    obtain ⟨a1, a2⟩ := h t List.mem_cons_self
    obtain ⟨b1, b2⟩ := sum_small f ts fun u hu => h u (List.mem_cons_of_mem _ hu)
    rw [List.map_cons, List.sum_cons, List.length_cons]
    omega
theorem nearV_small {ps : Pls} (hp : PlOk ps) (hs : PlSm ps) {x : Say} (hx : x.ok) (hf : x.fit ps) : sm (nearV ps x) := by
  obtain ⟨c1, c2, c3⟩ := ok_small hx
  have hv : ∀ t ∈ x.tms, -1000 ≤ (hidAt (hidN ps) t.1 t.2.1).getD 0 ∧ (hidAt (hidN ps) t.1 t.2.1).getD 0 ≤ 1000 := fun t ht => by
    obtain ⟨h1, h2, _⟩ := fit_tms hf t ht
    obtain ⟨l, v, e1, e2, e3⟩ := hidN_at hp h1 h2
    rw [e3]
    obtain ⟨l', q1, q2⟩ := getK_some (hidN ps) t.1 (by unfold hidN; rw [List.map_map]; exact h1)
    rw [e1] at q1
    cases q1
    unfold hidN at q2
    obtain ⟨q, hq, eq⟩ := List.mem_map.mp q2
    have el : flo q.2 = l := congrArg Prod.snd eq
    rw [← el] at e2
    exact flo_small hp hs hq v (List.mem_of_getElem? e2)
  have hsum := sum_small (fun t : Tm => t.2.2 * (hidAt (hidN ps) t.1 t.2.1).getD 0) x.tms fun t ht => prod_small (c1 t ht) (hv t ht)
  have hl := tms_len x
  have h0 := hv _ (t0_in x).1
  have hL : -7000000 ≤ leftOf (hidN ps) x ∧ leftOf (hidN ps) x ≤ 7000000 := by unfold leftOf; omega
  unfold nearV sm
  rcases (t0_in x).2.2 with e | e <;> rw [e] <;> omega
theorem ofI_ok {v : Int} (h : sm v) : ShOk (ofI v) := ⟨h, by show (1 : Int) ≤ 1; decide, by show (1 : Int) ≤ 7; decide⟩
theorem near_ok {ps : Pls} (hp : PlOk ps) (hs : PlSm ps) {x : Say} (hx : x.ok) (hf : x.fit ps) : PlOk (nearOf ps x) ∧ (nearOf ps x).map (·.1) = ps.map (·.1) := by
  have ek : (nearOf ps x).map (·.1) = ps.map (·.1) := by unfold nearOf nearH; rw [List.map_map, List.map_map]; rfl
  refine ⟨⟨by have := congrArg List.length ek; rw [List.length_map, List.length_map] at this; rw [this]; exact hp.1, by rw [ek]; exact hp.2.1, fun p hm => ?_⟩, ek⟩
  unfold nearOf nearH at hm
  obtain ⟨q, hq, rfl⟩ := List.mem_map.mp hm
  obtain ⟨r, hr, rfl⟩ := List.mem_map.mp hq
  have l4 : (flo r.2).length = 4 := by unfold flo; rw [List.length_map]; exact (hp.2.2 r hr).1
  refine ⟨?_, fun s hsm => ?_⟩
  · show ((nearG ps x r).map ofI).length = 4
    rw [List.length_map]
    unfold nearG
    split
    · rw [List.length_set]; exact l4
    · exact l4
  · obtain ⟨v, hv, rfl⟩ := List.mem_map.mp hsm
    refine ofI_ok ?_
    have small : ∀ v ∈ flo r.2, sm v := fun v hv => by
      have := flo_small hp hs hr v hv
      unfold sm
      omega
    have hv' : v ∈ nearG ps x r := hv
    unfold nearG at hv'
    split at hv'
    · rcases List.mem_or_eq_of_mem_set hv' with h | h
      · exact small v h
      · rw [h]; exact nearV_small hp hs hx hf
    · exact small v hv'
theorem fit_keys {ps qs : Pls} (h : qs.map (·.1) = ps.map (·.1)) {x : Say} (hf : x.fit ps) : x.fit qs := by
  cases x <;> (unfold Say.fit at hf ⊢; rw [h]; exact hf)
/-! the places drawn -/
def plRow (s : List Int) (k : Nat) : List Sh := (List.range 4).map fun a : Nat => drawn (cell s (30 + 4 * k + a))
def plOf (s : List Int) : Pls := (List.range (sNames s).length).map fun k => ((sNames s).getD k Str.empty, plRow s k)
theorem drawn_ok (c : Int) : ShOk (drawn c) ∧ -1000 ≤ (drawn c).1 ∧ (drawn c).1 ≤ 1000 := by
  obtain ⟨b1, b2⟩ := shBot_in c
  obtain ⟨p1, p2, p3, p4⟩ := shPart_in c
  have hle : shPart c ≤ shBot c := by
    unfold shDivs at p1
    obtain ⟨n, hn, e⟩ := List.mem_map.mp p1
    have := List.mem_range.mp (List.mem_filter.mp hn).1
    omega
  have ht : -1000 ≤ shTop c ∧ shTop c ≤ 1000 := by unfold shTop; omega
  have hd := div_small ht p3
  have q1 : 1 ≤ shBot c / shPart c := Int.le_ediv_of_mul_le (by omega) (by omega)
  have q2 : shBot c / shPart c ≤ 7 := Int.le_trans (Int.ediv_le_self _ (by omega)) b2
  refine ⟨⟨?_, q1, q2⟩, hd⟩
  show sm (shTop c / shPart c)
  unfold sm
  omega
theorem plOf_ok (s : List Int) : PlOk (plOf s) ∧ PlSm (plOf s) ∧ (plOf s).map (·.1) = sNames s := by
  obtain ⟨⟨nd, _⟩, l1, l6⟩ := namesOf_ok (cell s 0)
  have ek : (plOf s).map (·.1) = sNames s := by unfold plOf; rw [List.map_map]; exact getD_range _
  have row : ∀ p ∈ plOf s, ∃ k, p.2 = plRow s k := fun p hp => by
    unfold plOf at hp
    obtain ⟨k, _, rfl⟩ := List.mem_map.mp hp
    exact ⟨k, rfl⟩
  refine ⟨⟨by unfold plOf; rw [List.length_map, List.length_range]; exact l6, by rw [ek]; exact nd, fun p hp => ?_⟩, fun p hp v hv => ?_, ek⟩
  · obtain ⟨k, e⟩ := row p hp
    rw [e]
    refine ⟨by unfold plRow; rw [List.length_map, List.length_range], fun v hv => ?_⟩
    unfold plRow at hv
    obtain ⟨a, _, rfl⟩ := List.mem_map.mp hv
    exact (drawn_ok _).1
  · obtain ⟨k, e⟩ := row p hp
    rw [e] at hv
    unfold plRow at hv
    obtain ⟨a, _, rfl⟩ := List.mem_map.mp hv
    exact (drawn_ok _).2
theorem names_z (c : Int) : ("z" : Str) ∉ namesOf c := by
  have h : ∀ a < 12, ∀ m < 6, ("z" : Str) ∉ namesBy a m := by decide +kernel
  obtain ⟨a1, a2⟩ := md (c / 6) 12 (by decide)
  obtain ⟨b1, b2⟩ := md c 6 (by decide)
  rw [namesOf_by]
  exact h _ (by omega) _ (by omega)
theorem said_ok (s : List Int) : (∀ x ∈ sSaid s, x.ok ∧ (∀ n ∈ x.names, n ∈ sNames s)) ∧ (sSaid s).length ≤ 16 := by
  obtain ⟨⟨nd, nok⟩, l1, l6⟩ := namesOf_ok (cell s 0)
  refine ⟨fun x hx => ?_, ?_⟩
  · unfold sSaid at hx
    obtain ⟨k, _, rfl⟩ := List.mem_map.mp hx
    exact say_ok (fun z => by rw [show namesOf (cell s 0) = [] from z] at l1; exact absurd l1 (by decide)) nd nok (hidFull s)
  · unfold sSaid sMany
    rw [List.length_map, List.length_range]
    omega
theorem names_nsok (s : List Int) : NsOk (sNames s) := by
  obtain ⟨⟨nd, nok⟩, l1, l6⟩ := namesOf_ok (cell s 0)
  refine ⟨⟨l1, l6, fun x hx => (nok x hx).1⟩, ?_⟩
  unfold unlikeOk
  rw [Bool.and_eq_true]
  exact ⟨List.all_eq_true.mpr fun x hx => (nok x hx).2, decide_eq_true ((unlikes_iff _).mpr nd)⟩
end K1
set_option Elab.async false
set_option linter.all false
set_option maxRecDepth 100000
set_option maxHeartbeats 4000000
namespace K1
open PySem PySem.Spec L2 Wd
open PyProof.Rows hiding St
/-! ### the law -/
def tB : List Tm := [("a", "left", 1), ("b", "left", -1), ("b", "wide", -1)]
def tA : List Tm := [("a", "high", 1), ("b", "high", -1)]
def PrLaw (ds : List D) (r : Wd.Slot) : Prop := ∃ s : List Int, s.length ≤ 63 ∧ ds = [.ro (s.map .int)] ∧ r = .sh (.bl true)
section
variable {P : Program} {w : World} {K : PySem.W.Frag} {mg : Str → Option Value} {base : Heap} (Z : Env K mg w)
include Z
theorem bi_Beside_dfl : ∃ ds, Vals [V.int 0] ds ∧ Binds K Z.d_Beside_init ["self", "name", "side", "other", "by"] ds := Z.F_Beside_init.binds1 (ps := ["self", "name", "side", "other", "by"]) 4 0 (fun z => nomatch z) rfl fun T kV doc pm an cdv ct us its h1 h2 => match us, its, h1, h2 with
  | [_, _, _, _], [_], _, _ => ⟨_, rfl, rfl⟩
theorem bi_Alike_dfl : ∃ ds, Vals [V.int 1] ds ∧ Binds K Z.d_Alike_init ["self", "name", "part", "other", "times"] ds := Z.F_Alike_init.binds1 (ps := ["self", "name", "part", "other", "times"]) 4 0 (fun z => nomatch z) rfl fun T kV doc pm an cdv ct us its h1 h2 => match us, its, h1, h2 with
  | [_, _, _, _], [_], _, _ => ⟨_, rfl, rfl⟩
theorem ok_law : FnOk P w K mg base (L2.CX P w) 9 (He.ga K "law") Z.d_law ["_law_script"] (spD K PrLaw) := by
  refine fn_data Z.F_law sc_law (fun ds r ⟨_, _, e, _⟩ => (by rw [e]; rfl)) fun cdv A outer s H E fx ds r hp => ?_
  obtain ⟨sc, hs, rfl, rfl⟩ := hp
  obtain ⟨hpl, hsm, hkeys⟩ := plOf_ok sc
  obtain ⟨hsd, h16⟩ := said_ok sc
  have hns := names_nsok sc
  have l6 : (sNames sc).length ≤ 6 := hns.1.2.1
  have nd : (sNames sc).Nodup := unl_iff hns.2
  refine ⟨.rt _, ?_, .rt⟩
  refine pssd_cons (psd_asg fx (pd_call fx (ok_l_sheet Z) Z.m_l_sheet Z.F_l_sheet.kp (bi_l_sheet Z) .nil (fun _ => .nil) (pad_cons (pd_var fx 0) (pad_cons pd_int pad_nil)) ⟨sc, hs, rfl, rfl⟩) (tgd_tup fx .tup (tgsd_cons (tgd_name fx 1) (tgsd_cons (tgd_name fx 2) tgsd_nil)))) ?_
  refine pssd_cons (psd_set fx 3 pd_newK) ?_
  refine pssd_cons (psd_for fx (List.range (sNames sc).length) (fun k : Nat => D.int (0 + (k : Int))) (fun i => [.sh (.ro (sc.map .int)), .sh (.lst ((sNames sc).map .str)), .sh (.lst ((sSaid sc).map Say.t)), .ow (.dk (encK (fun l : List Sh => D.tup (l.map encSh)) ((List.range i).map fun k => ((sNames sc).getD k Str.empty, plRow sc k)))), .un, .un, .un]) (by rw [show (List.range (sNames sc).length) = List.range ((((sNames sc).map D.str).length : Nat) : Int).toNat by rw [List.length_map]; rfl]; exact pid_range1 fx (pad_cons (pd_blt fx (fun _ => call_lenU) Z.b_len (pad_cons (pd_var fx 1) pad_nil) (rc_len (.lst .lst))) pad_nil) Z.b_range (by rw [List.length_map]; omega)) (Wk.refl _) fun i x hx => ?_) ?_
  · have hi : i < (sNames sc).length := by
      rcases Nat.lt_or_ge i (sNames sc).length with z | z
      · exact z
      · rw [List.getElem?_eq_none (by rw [List.length_range]; exact z)] at hx; cases hx
    rw [List.getElem?_range hi] at hx
    cases hx
    obtain ⟨k1, k2⟩ := keys_new (sNames sc) nd (plRow sc) (fun l : List Sh => D.tup (l.map encSh)) hi
    have ix : atI ((sNames sc).map D.str) (0 + (i : Int)) = some (.str ((sNames sc).getD i Str.empty)) := by
      rw [Int.zero_add]
      exact atI_nat (by rw [List.getElem?_map, List.getD_eq_getElem?_getD, List.getElem?_eq_getElem hi]; rfl)
    have er : (plRow sc i).map encSh = (List.range 4).map fun a : Nat => encSh (drawn (cell sc (30 + 4 * i + a))) := by unfold plRow; rw [List.map_map]; rfl
    rw [er] at k2
    refine ⟨_, _, _, tgd_name fx 4, .inl (pssd_one (psd_dput fx 3 (key := Sum.inr ((sNames sc).getD i Str.empty)) rfl (pd_bty fx (fun i => call_tuple_of) Z.b_tuple (pad_cons (PED.share (pd_lcA fx [("_law_at", 5)] (List.range 4) (fun a : Nat => D.int (0 + (a : Int))) (fun a : Nat => encSh (drawn (cell sc (30 + 4 * i + a)))) (pid_range1 fx (pad_cons pd_int pad_nil) Z.b_range (by decide)) (by rw [List.length_range, sizeLine_eq]; decide) fun a ha => ⟨_, _, tgd_name fx.bk 5, fun _ h => h, ?_⟩)) pad_nil) (rc_tuple .lst)) (pd_sub fx (pd_var fx 1) (pd_var fx 4) (.lst .lst ix)) (by unfold encK; rw [List.length_map, List.length_map, List.length_range, sizeLine_eq]; omega) k1)), ?_⟩
    · have ha : a < 4 := List.mem_range.mp ha
      exact pd_call fx.bk (ok_l_drawn_share Z) Z.m_l_drawn_share Z.F_l_drawn_share.kp (bi_l_drawn_share Z) .nil (fun _ => .nil) (pad_cons (pd_call fx.bk (ok_l_cell_at Z) Z.m_l_cell_at Z.F_l_cell_at.kp (bi_l_cell_at Z) .nil (fun _ => .nil) (pad_cons (pd_var fx.bk 0) (pad_cons (pd_cast (slotI (show (30 : Int) + 4 * (0 + (i : Int)) + (0 + (a : Int)) = ((30 + 4 * i + a : Nat) : Int) by omega)) (pd_plus (pd_plus pd_int (pd_mul pd_int (pd_var fx.bk 4) (.inl (by decide)))) (pd_var fx.bk 5))) pad_nil)) ⟨sc, 30 + 4 * i + a, hs, by omega, rfl, rfl⟩) pad_nil) ⟨_, rfl, rfl⟩
    · rw [k2]
      exact .s (.s (.s (.s (.u (.u (.u .n))))))
  refine pssd_freeze 3 rfl ?_
  have hxok : XOk (sNames sc) (sSaid sc) := ⟨h16, fun x hx => ⟨(hsd x hx).1, ok_of (hsd x hx).2⟩⟩
  refine pssd_cons (psd_for fx (sSaid sc) Say.t (fun i => [.sh (.ro (sc.map .int)), .sh (.lst ((sNames sc).map .str)), .sh (.lst ((sSaid sc).map Say.t)), .sh (encPls (plOf sc)), .un, .un, .un]) (pid_list fx .lst (pd_var fx 2)) (by rw [List.length_range]; exact Wk.refl _) fun i x hx => ?_) ?_
  · have hm := List.mem_of_getElem? hx
    obtain ⟨o1, o2⟩ := hsd x hm
    have hf : x.fit (plOf sc) := ok_fit o1 (by rw [hkeys]; exact o2)
    obtain ⟨hnp, hnk⟩ := near_ok hpl hsm o1 hf
    have hz : ("z" : Str) ∉ x.names := fun z => names_z _ (o2 _ z)
    exact ⟨_, _, _, tgd_name fx 6, .inl (pssd_one (psd_ifF (PWD.t (pwd_or (tv := false) (tw := false) (ptd_not (tv := true) (ptd_val (pd_call fx (ok_l_saying_right Z) Z.m_l_saying_right Z.F_l_saying_right.kp (bi_l_saying_right Z) .nil (fun _ => .nil) (pad_cons (pd_var fx 6) (pad_cons (pd_var fx 3) pad_nil)) ⟨x, plOf sc, o1, hpl, hf, hz, rfl, rfl⟩))) fun _ => pwd_or1 (ptd_not (tv := true) (ptd_val (pd_call fx (ok_l_saying_right Z) Z.m_l_saying_right Z.F_l_saying_right.kp (bi_l_saying_right Z) .nil (fun _ => .nil) (pad_cons (pd_var fx 6) (pad_cons (PED.share (pd_call fx (ok_l_near Z) Z.m_l_near Z.F_l_near.kp (bi_l_near Z) .nil (fun _ => .nil) (pad_cons (pd_var fx 3) (pad_cons (pd_var fx 6) pad_nil)) ⟨plOf sc, x, hpl, hf, rfl, rfl⟩)) pad_nil)) ⟨x, nearOf (plOf sc) x, o1, hnp, fit_keys hnk hf, hz, rfl, rfl⟩))))) pssd_nil)), .s (.s (.s (.s (.u (.u (.u .n))))))⟩
  have eb : (Say.bes "a" "right" "b" 0).tms = tB := by decide +kernel
  have ea : (Say.alk "a" "high" "b" 1).tms = tA := by decide +kernel
  obtain ⟨d1, v1, B1⟩ := bi_Beside_dfl Z
  obtain ⟨d2, v2, B2⟩ := bi_Alike_dfl Z
  have okB : BesOk "a" "right" "b" 0 := ⟨⟨by decide +kernel, by decide +kernel⟩, by decide +kernel, by decide +kernel, by decide, by decide⟩
  have okA : AlkOk "a" "high" "b" 1 := ⟨⟨by decide +kernel, by decide +kernel⟩, by decide +kernel, by decide +kernel, by decide, by decide⟩
  refine pssd_ifF (ptd_ne fx (tv := true) (d1 := .tup [.dt (tmK tB), .int 0]) (pd_cast (r := .sh (.tup [.dt (tmK (Say.bes "a" "right" "b" 0).tms), .int (Say.bes "a" "right" "b" 0).num])) (by rw [eb]; rfl) (PED.shareT (pd_sayAdds Z fx (.bes "a" "right" "b" 0) ⟨by decide +kernel, by decide +kernel⟩ (PED.share (pd_make fx Z.M_Beside_init (ok_Beside_init Z) Z.m_Beside B1 v1 (dd := [.int 0]) (fun _ => .cons .int .nil) (pad_cons pd_str (pad_cons pd_str (pad_cons pd_str pad_nil))) ⟨"a", "right", "b", 0, okB, rfl, rfl⟩)) (by decide)))) (pd_tup (pad_cons (PED.share (pd_dispT fx (tmK tB) (ppd_cons (pd_tup (pad_cons pd_str (pad_cons pd_str pad_nil))) pd_int (ppd_cons (pd_tup (pad_cons pd_str (pad_cons pd_str pad_nil))) (pd_neg pd_int) (ppd_cons (pd_tup (pad_cons pd_str (pad_cons pd_str pad_nil))) (pd_neg pd_int) ppd_nil))) (by decide +kernel) (Nat.le_of_ble_eq_true rfl))) (pad_cons pd_int pad_nil))) (.same (pl_sum _ _) (by decide) (.inr ⟨_, .tup⟩))) ?_
  refine pssd_ifF (ptd_ne fx (tv := true) (d1 := .tup [.dt (tmK tA), .int 0]) (pd_cast (r := .sh (.tup [.dt (tmK (Say.alk "a" "high" "b" 1).tms), .int (Say.alk "a" "high" "b" 1).num])) (by rw [ea]; rfl) (PED.shareT (pd_sayAdds Z fx (.alk "a" "high" "b" 1) (by decide +kernel : ("a" : Str) ≠ "b") (PED.share (pd_make fx Z.M_Alike_init (ok_Alike_init Z) Z.m_Alike B2 v2 (dd := [.int 1]) (fun _ => .cons .int .nil) (pad_cons pd_str (pad_cons pd_str (pad_cons pd_str pad_nil))) ⟨"a", "high", "b", 1, okA, rfl, rfl⟩)) (by decide)))) (pd_tup (pad_cons (PED.share (pd_dispT fx (tmK tA) (ppd_cons (pd_tup (pad_cons pd_str (pad_cons pd_str pad_nil))) pd_int (ppd_cons (pd_tup (pad_cons pd_str (pad_cons pd_str pad_nil))) (pd_neg pd_int) ppd_nil)) (by decide +kernel) (Nat.le_of_ble_eq_true rfl))) (pad_cons pd_int pad_nil))) (.same (pl_sum _ _) (by decide) (.inr ⟨_, .tup⟩))) ?_
  exact pssd_rt (psd_ret (pd_call fx (ok_l_sheets_right Z) Z.m_l_sheets_right Z.F_l_sheets_right.kp (bi_l_sheets_right Z) .nil (fun _ => .nil) (pad_cons (pd_var fx 1) (pad_cons (pd_var fx 2) (pad_cons (pd_call fx (ok_l_cell_at Z) Z.m_l_cell_at Z.F_l_cell_at.kp (bi_l_cell_at Z) .nil (fun _ => .nil) (pad_cons (pd_var fx 0) (pad_cons pd_int pad_nil)) ⟨sc, 29, hs, by decide, rfl, rfl⟩) pad_nil))) ⟨sNames sc, sSaid sc, cell sc 29, hns, hxok, rfl, rfl⟩))
end
end K1
set_option Elab.async false
set_option linter.all false
set_option maxRecDepth 100000
set_option maxHeartbeats 0
namespace K1
open PySem PySem.Spec L2 Wd
open PyProof.Rows hiding St
theorem ownB_ok {K : PySem.W.Frag} {n : Str} (hc : Cls K (He.ga K n)) (h : ownB n K = true) : OwnC K (He.ga K n) := by
  obtain ⟨h1, h⟩ := He.ba h
  obtain ⟨h2, h⟩ := He.ba h
  obtain ⟨h3, h4⟩ := He.ba h
  exact ⟨hc, He.eqO_ok h1, He.eqO_ok h2, of_decide_eq_true h3, of_decide_eq_true h4⟩
theorem keysB_ok {K : PySem.W.Frag} {a : Addr} {ks : List Str} (h : keysB K a ks = true) : WKeys K a ks := by
  unfold keysB at h
  cases q : K.lookup a with
  | none => rw [q] at h; cases h
  | some o =>
    obtain ⟨oc, od, dt, osl⟩ := o
    rw [q] at h
    cases oc with
    | type c =>
      cases od with
      | none =>
        cases dt with
        | dict es n =>
          obtain ⟨h1, h2⟩ := He.ba (show (decide (c = "dict") && (osl.isEmpty && (!(a == sysModules) && He.relAll (ks.map V.str) (es.toList.map (·.key))))) = true from h)
          obtain ⟨h3, h4⟩ := He.ba h2
          obtain ⟨h5, h6⟩ := He.ba h4
          have e1 : c = "dict" := of_decide_eq_true h1
          have e2 : osl = #[] := Array.isEmpty_iff.mp h3
          subst e1 e2
          exact ⟨es, n, q, by simpa using h5, He.relAll_ok h6⟩
        | _ => cases h
      | some b => cases dt <;> cases h
    | _ => cases od <;> cases dt <;> cases h
theorem tupN_ok {K : PySem.W.Frag} {a : Addr} {l : List Str} (h : tupN K a l = true) : ∃ ob its n, (K.lookup a = some ob ∧ ob.cls = .type "tuple" ∧ ob.dict = none ∧ ob.data = .seq its n ∧ its.size ≤ sizeLine) ∧ Vals (l.map V.str) its.toList := by
  unfold tupN at h
  cases q : K.lookup a with
  | none => rw [q] at h; cases h
  | some o =>
    obtain ⟨oc, od, dt, osl⟩ := o
    rw [q] at h
    cases oc with
    | type c =>
      cases od with
      | none =>
        cases dt with
        | seq its n =>
          obtain ⟨h1, h2⟩ := He.ba (show (decide (c = "tuple") && (decide (its.size ≤ sizeLine) && He.relAll (l.map V.str) its.toList)) = true from h)
          obtain ⟨h3, h4⟩ := He.ba h2
          exact ⟨_, its, n, ⟨rfl, congrArg Value.type (of_decide_eq_true h1), rfl, rfl, of_decide_eq_true h3⟩, He.relAll_ok h4⟩
        | _ => cases h
      | some b => cases dt <;> cases h
    | _ => cases od <;> cases dt <;> cases h
theorem valsN_ok {K : PySem.W.Frag} {w : World} {a : Addr} {kvs : List (Str × List Str)} (t : ∃ es n, KDict K w a es n) (h : valsN K a kvs = true) : ∀ z l, (z, l) ∈ kvs → ∃ q, KDct K w a z (.ref q) ∧ ∃ ob its n, (K.lookup q = some ob ∧ ob.cls = .type "tuple" ∧ ob.dict = none ∧ ob.data = .seq its n ∧ its.size ≤ sizeLine) ∧ Vals (l.map V.str) its.toList := by
  intro z l hm
  obtain ⟨es, n, q1, q2, q3⟩ := t
  have h2 := List.all_eq_true.mp h _ hm
  cases e : PySem.W.nsIn K a z with
  | none => rw [show PySem.W.nsIn K a (z, l).1 = none from e] at h2; cases h2
  | some r =>
    rw [show PySem.W.nsIn K a (z, l).1 = some r from e] at h2
    cases r with
    | none => cases h2
    | some u =>
      cases u with
      | ref q => exact ⟨q, ⟨es, n, _, q1, q2, e, rfl⟩, tupN_ok h2⟩
      | _ => cases h2
theorem kitB_ok {K : PySem.W.Frag} {a b : Str} {v : Bool} (h : kitB a b v K = true) : PySem.W.kitOne K (.ref (He.ga K a)) (.ref (He.ga K b)) = some v := of_decide_eq_true h
theorem envY {w : World} {K : PySem.W.Frag} {h : Heap} {mg : Str → Option Value} (X : K.In h) (G : h.Ns mainGlobals mg) (c : He.SaysT faL fnL tsL w K) (ce : exK K = true) : Nonempty (Env K mg w) := by
  obtain ⟨d_is_whole, F_is_whole⟩ := c.d.def_ 0 (d := D_is_whole) rfl
  obtain ⟨d_is_number, F_is_number⟩ := c.d.def_ 1 (d := D_is_number) rfl
  obtain ⟨d_is_name, F_is_name⟩ := c.d.def_ 2 (d := D_is_name) rfl
  obtain ⟨d_are_unlike_names, F_are_unlike_names⟩ := c.d.def_ 3 (d := D_are_unlike_names) rfl
  obtain ⟨d_check_names, F_check_names⟩ := c.d.def_ 4 (d := D_check_names) rfl
  obtain ⟨d_check_word, F_check_word⟩ := c.d.def_ 5 (d := D_check_word) rfl
  obtain ⟨d_check_number, F_check_number⟩ := c.d.def_ 6 (d := D_check_number) rfl
  obtain ⟨d_comes_out, F_comes_out⟩ := c.d.def_ 7 (d := D_comes_out) rfl
  obtain ⟨d_Saying_names, F_Saying_names⟩ := c.d.def_ 8 (d := D_Saying_names) rfl
  obtain ⟨d_Saying_adds, F_Saying_adds⟩ := c.d.def_ 9 (d := D_Saying_adds) rfl
  obtain ⟨d_Saying_keeps, F_Saying_keeps⟩ := c.d.def_ 10 (d := D_Saying_keeps) rfl
  obtain ⟨d_At_init, F_At_init⟩ := c.d.def_ 11 (d := D_At_init) rfl
  obtain ⟨d_At_names, F_At_names⟩ := c.d.def_ 12 (d := D_At_names) rfl
  obtain ⟨d_At_adds, F_At_adds⟩ := c.d.def_ 13 (d := D_At_adds) rfl
  obtain ⟨d_At_keeps, F_At_keeps⟩ := c.d.def_ 14 (d := D_At_keeps) rfl
  obtain ⟨d_Beside_init, F_Beside_init⟩ := c.d.def_ 15 (d := D_Beside_init) rfl
  obtain ⟨d_Beside_names, F_Beside_names⟩ := c.d.def_ 16 (d := D_Beside_names) rfl
  obtain ⟨d_Beside_adds, F_Beside_adds⟩ := c.d.def_ 17 (d := D_Beside_adds) rfl
  obtain ⟨d_Beside_keeps, F_Beside_keeps⟩ := c.d.def_ 18 (d := D_Beside_keeps) rfl
  obtain ⟨d_Alike_init, F_Alike_init⟩ := c.d.def_ 19 (d := D_Alike_init) rfl
  obtain ⟨d_Alike_names, F_Alike_names⟩ := c.d.def_ 20 (d := D_Alike_names) rfl
  obtain ⟨d_Alike_adds, F_Alike_adds⟩ := c.d.def_ 21 (d := D_Alike_adds) rfl
  obtain ⟨d_Alike_keeps, F_Alike_keeps⟩ := c.d.def_ 22 (d := D_Alike_keeps) rfl
  obtain ⟨d_Amid_init, F_Amid_init⟩ := c.d.def_ 23 (d := D_Amid_init) rfl
  obtain ⟨d_Amid_names, F_Amid_names⟩ := c.d.def_ 24 (d := D_Amid_names) rfl
  obtain ⟨d_Amid_adds, F_Amid_adds⟩ := c.d.def_ 25 (d := D_Amid_adds) rfl
  obtain ⟨d_Amid_keeps, F_Amid_keeps⟩ := c.d.def_ 26 (d := D_Amid_keeps) rfl
  obtain ⟨d_check_boxes, F_check_boxes⟩ := c.d.def_ 27 (d := D_check_boxes) rfl
  obtain ⟨d_is_saying_of, F_is_saying_of⟩ := c.d.def_ 28 (d := D_is_saying_of) rfl
  obtain ⟨d_check_sayings, F_check_sayings⟩ := c.d.def_ 29 (d := D_check_sayings) rfl
  obtain ⟨d_check_sheet, F_check_sheet⟩ := c.d.def_ 30 (d := D_check_sheet) rfl
  obtain ⟨d_check_place, F_check_place⟩ := c.d.def_ 31 (d := D_check_place) rfl
  obtain ⟨d_Sheet_init, F_Sheet_init⟩ := c.d.def_ 32 (d := D_Sheet_init) rfl
  obtain ⟨d_Sheet_names, F_Sheet_names⟩ := c.d.def_ 33 (d := D_Sheet_names) rfl
  obtain ⟨d_Sheet_sayings, F_Sheet_sayings⟩ := c.d.def_ 34 (d := D_Sheet_sayings) rfl
  obtain ⟨d_put, F_put⟩ := c.d.def_ 35 (d := D_put) rfl
  obtain ⟨d_taken, F_taken⟩ := c.d.def_ 36 (d := D_taken) rfl
  obtain ⟨d_l_cell_at, F_l_cell_at⟩ := c.d.def_ 37 (d := D_l_cell_at) rfl
  obtain ⟨d_l_numbers, F_l_numbers⟩ := c.d.def_ 38 (d := D_l_numbers) rfl
  obtain ⟨d_l_names, F_l_names⟩ := c.d.def_ 39 (d := D_l_names) rfl
  obtain ⟨d_l_parts, F_l_parts⟩ := c.d.def_ 40 (d := D_l_parts) rfl
  obtain ⟨d_l_saying, F_l_saying⟩ := c.d.def_ 41 (d := D_l_saying) rfl
  obtain ⟨d_l_by, F_l_by⟩ := c.d.def_ 42 (d := D_l_by) rfl
  obtain ⟨d_l_terms, F_l_terms⟩ := c.d.def_ 43 (d := D_l_terms) rfl
  obtain ⟨d_l_left, F_l_left⟩ := c.d.def_ 44 (d := D_l_left) rfl
  obtain ⟨d_l_sheet, F_l_sheet⟩ := c.d.def_ 45 (d := D_l_sheet) rfl
  obtain ⟨d_l_made, F_l_made⟩ := c.d.def_ 46 (d := D_l_made) rfl
  obtain ⟨d_l_sheet_of, F_l_sheet_of⟩ := c.d.def_ 47 (d := D_l_sheet_of) rfl
  obtain ⟨d_l_words_kept, F_l_words_kept⟩ := c.d.def_ 48 (d := D_l_words_kept) rfl
  obtain ⟨d_l_drawn_share, F_l_drawn_share⟩ := c.d.def_ 49 (d := D_l_drawn_share) rfl
  obtain ⟨d_l_saying_right, F_l_saying_right⟩ := c.d.def_ 50 (d := D_l_saying_right) rfl
  obtain ⟨d_l_near, F_l_near⟩ := c.d.def_ 51 (d := D_l_near) rfl
  obtain ⟨d_l_as, F_l_as⟩ := c.d.def_ 52 (d := D_l_as) rfl
  obtain ⟨d_l_told, F_l_told⟩ := c.d.def_ 53 (d := D_l_told) rfl
  obtain ⟨d_l_sheets_right, F_l_sheets_right⟩ := c.d.def_ 54 (d := D_l_sheets_right) rfl
  obtain ⟨d_law, F_law⟩ := c.d.def_ 55 (d := D_law) rfl
  exact ⟨{
    p_ := (),
    d_is_whole := d_is_whole, F_is_whole := F_is_whole,
    m_is_whole := He.glo_ok X G (c.d.fact 0 (f := .glo "is_whole") rfl),
    d_is_number := d_is_number, F_is_number := F_is_number,
    m_is_number := He.glo_ok X G (c.d.fact 1 (f := .glo "is_number") rfl),
    d_is_name := d_is_name, F_is_name := F_is_name,
    m_is_name := He.glo_ok X G (c.d.fact 2 (f := .glo "is_name") rfl),
    d_are_unlike_names := d_are_unlike_names, F_are_unlike_names := F_are_unlike_names,
    m_are_unlike_names := He.glo_ok X G (c.d.fact 3 (f := .glo "are_unlike_names") rfl),
    d_check_names := d_check_names, F_check_names := F_check_names,
    m_check_names := He.glo_ok X G (c.d.fact 4 (f := .glo "check_names") rfl),
    d_check_word := d_check_word, F_check_word := F_check_word,
    m_check_word := He.glo_ok X G (c.d.fact 5 (f := .glo "check_word") rfl),
    d_check_number := d_check_number, F_check_number := F_check_number,
    m_check_number := He.glo_ok X G (c.d.fact 6 (f := .glo "check_number") rfl),
    d_comes_out := d_comes_out, F_comes_out := F_comes_out,
    m_comes_out := He.glo_ok X G (c.d.fact 7 (f := .glo "comes_out") rfl),
    d_Saying_names := d_Saying_names, F_Saying_names := F_Saying_names,
    M_Saying_names := He.meth_ok (c.d.fact 8 (f := .meth "Saying" "names") rfl),
    d_Saying_adds := d_Saying_adds, F_Saying_adds := F_Saying_adds,
    M_Saying_adds := He.meth_ok (c.d.fact 9 (f := .meth "Saying" "adds") rfl),
    d_Saying_keeps := d_Saying_keeps, F_Saying_keeps := F_Saying_keeps,
    M_Saying_keeps := He.meth_ok (c.d.fact 10 (f := .meth "Saying" "keeps") rfl),
    d_At_init := d_At_init, F_At_init := F_At_init,
    M_At_init := He.mkr_ok (c.d.fact 11 (f := .mkr "At") rfl),
    d_At_names := d_At_names, F_At_names := F_At_names,
    M_At_names := He.meth_ok (c.d.fact 12 (f := .meth "At" "names") rfl),
    d_At_adds := d_At_adds, F_At_adds := F_At_adds,
    M_At_adds := He.meth_ok (c.d.fact 13 (f := .meth "At" "adds") rfl),
    d_At_keeps := d_At_keeps, F_At_keeps := F_At_keeps,
    M_At_keeps := He.meth_ok (c.d.fact 14 (f := .meth "At" "keeps") rfl),
    d_Beside_init := d_Beside_init, F_Beside_init := F_Beside_init,
    M_Beside_init := He.mkr_ok (c.d.fact 15 (f := .mkr "Beside") rfl),
    d_Beside_names := d_Beside_names, F_Beside_names := F_Beside_names,
    M_Beside_names := He.meth_ok (c.d.fact 16 (f := .meth "Beside" "names") rfl),
    d_Beside_adds := d_Beside_adds, F_Beside_adds := F_Beside_adds,
    M_Beside_adds := He.meth_ok (c.d.fact 17 (f := .meth "Beside" "adds") rfl),
    d_Beside_keeps := d_Beside_keeps, F_Beside_keeps := F_Beside_keeps,
    M_Beside_keeps := He.meth_ok (c.d.fact 18 (f := .meth "Beside" "keeps") rfl),
    d_Alike_init := d_Alike_init, F_Alike_init := F_Alike_init,
    M_Alike_init := He.mkr_ok (c.d.fact 19 (f := .mkr "Alike") rfl),
    d_Alike_names := d_Alike_names, F_Alike_names := F_Alike_names,
    M_Alike_names := He.meth_ok (c.d.fact 20 (f := .meth "Alike" "names") rfl),
    d_Alike_adds := d_Alike_adds, F_Alike_adds := F_Alike_adds,
    M_Alike_adds := He.meth_ok (c.d.fact 21 (f := .meth "Alike" "adds") rfl),
    d_Alike_keeps := d_Alike_keeps, F_Alike_keeps := F_Alike_keeps,
    M_Alike_keeps := He.meth_ok (c.d.fact 22 (f := .meth "Alike" "keeps") rfl),
    d_Amid_init := d_Amid_init, F_Amid_init := F_Amid_init,
    M_Amid_init := He.mkr_ok (c.d.fact 23 (f := .mkr "Amid") rfl),
    d_Amid_names := d_Amid_names, F_Amid_names := F_Amid_names,
    M_Amid_names := He.meth_ok (c.d.fact 24 (f := .meth "Amid" "names") rfl),
    d_Amid_adds := d_Amid_adds, F_Amid_adds := F_Amid_adds,
    M_Amid_adds := He.meth_ok (c.d.fact 25 (f := .meth "Amid" "adds") rfl),
    d_Amid_keeps := d_Amid_keeps, F_Amid_keeps := F_Amid_keeps,
    M_Amid_keeps := He.meth_ok (c.d.fact 26 (f := .meth "Amid" "keeps") rfl),
    d_check_boxes := d_check_boxes, F_check_boxes := F_check_boxes,
    m_check_boxes := He.glo_ok X G (c.d.fact 27 (f := .glo "check_boxes") rfl),
    d_is_saying_of := d_is_saying_of, F_is_saying_of := F_is_saying_of,
    m_is_saying_of := He.glo_ok X G (c.d.fact 28 (f := .glo "is_saying_of") rfl),
    d_check_sayings := d_check_sayings, F_check_sayings := F_check_sayings,
    m_check_sayings := He.glo_ok X G (c.d.fact 29 (f := .glo "check_sayings") rfl),
    d_check_sheet := d_check_sheet, F_check_sheet := F_check_sheet,
    m_check_sheet := He.glo_ok X G (c.d.fact 30 (f := .glo "check_sheet") rfl),
    d_check_place := d_check_place, F_check_place := F_check_place,
    m_check_place := He.glo_ok X G (c.d.fact 31 (f := .glo "check_place") rfl),
    d_Sheet_init := d_Sheet_init, F_Sheet_init := F_Sheet_init,
    M_Sheet_init := He.mkr_ok (c.d.fact 32 (f := .mkr "Sheet") rfl),
    d_Sheet_names := d_Sheet_names, F_Sheet_names := F_Sheet_names,
    M_Sheet_names := He.meth_ok (c.d.fact 33 (f := .meth "Sheet" "names") rfl),
    d_Sheet_sayings := d_Sheet_sayings, F_Sheet_sayings := F_Sheet_sayings,
    M_Sheet_sayings := He.meth_ok (c.d.fact 34 (f := .meth "Sheet" "sayings") rfl),
    d_put := d_put, F_put := F_put,
    m_put := He.glo_ok X G (c.d.fact 35 (f := .glo "put") rfl),
    d_taken := d_taken, F_taken := F_taken,
    m_taken := He.glo_ok X G (c.d.fact 36 (f := .glo "taken") rfl),
    d_l_cell_at := d_l_cell_at, F_l_cell_at := F_l_cell_at,
    m_l_cell_at := He.glo_ok X G (c.d.fact 37 (f := .glo "_law_cell_at") rfl),
    d_l_numbers := d_l_numbers, F_l_numbers := F_l_numbers,
    m_l_numbers := He.glo_ok X G (c.d.fact 38 (f := .glo "_law_numbers") rfl),
    d_l_names := d_l_names, F_l_names := F_l_names,
    m_l_names := He.glo_ok X G (c.d.fact 39 (f := .glo "_law_names") rfl),
    d_l_parts := d_l_parts, F_l_parts := F_l_parts,
    m_l_parts := He.glo_ok X G (c.d.fact 40 (f := .glo "_law_parts") rfl),
    d_l_saying := d_l_saying, F_l_saying := F_l_saying,
    m_l_saying := He.glo_ok X G (c.d.fact 41 (f := .glo "_law_saying") rfl),
    d_l_by := d_l_by, F_l_by := F_l_by,
    m_l_by := He.glo_ok X G (c.d.fact 42 (f := .glo "_law_by") rfl),
    d_l_terms := d_l_terms, F_l_terms := F_l_terms,
    m_l_terms := He.glo_ok X G (c.d.fact 43 (f := .glo "_law_terms") rfl),
    d_l_left := d_l_left, F_l_left := F_l_left,
    m_l_left := He.glo_ok X G (c.d.fact 44 (f := .glo "_law_left") rfl),
    d_l_sheet := d_l_sheet, F_l_sheet := F_l_sheet,
    m_l_sheet := He.glo_ok X G (c.d.fact 45 (f := .glo "_law_sheet") rfl),
    d_l_made := d_l_made, F_l_made := F_l_made,
    m_l_made := He.glo_ok X G (c.d.fact 46 (f := .glo "_law_made") rfl),
    d_l_sheet_of := d_l_sheet_of, F_l_sheet_of := F_l_sheet_of,
    m_l_sheet_of := He.glo_ok X G (c.d.fact 47 (f := .glo "_law_sheet_of") rfl),
    d_l_words_kept := d_l_words_kept, F_l_words_kept := F_l_words_kept,
    m_l_words_kept := He.glo_ok X G (c.d.fact 48 (f := .glo "_law_words_kept") rfl),
    d_l_drawn_share := d_l_drawn_share, F_l_drawn_share := F_l_drawn_share,
    m_l_drawn_share := He.glo_ok X G (c.d.fact 49 (f := .glo "_law_drawn_share") rfl),
    d_l_saying_right := d_l_saying_right, F_l_saying_right := F_l_saying_right,
    m_l_saying_right := He.glo_ok X G (c.d.fact 50 (f := .glo "_law_saying_right") rfl),
    d_l_near := d_l_near, F_l_near := F_l_near,
    m_l_near := He.glo_ok X G (c.d.fact 51 (f := .glo "_law_near") rfl),
    d_l_as := d_l_as, F_l_as := F_l_as,
    m_l_as := He.glo_ok X G (c.d.fact 52 (f := .glo "_law_as") rfl),
    d_l_told := d_l_told, F_l_told := F_l_told,
    m_l_told := He.glo_ok X G (c.d.fact 53 (f := .glo "_law_told") rfl),
    d_l_sheets_right := d_l_sheets_right, F_l_sheets_right := F_l_sheets_right,
    m_l_sheets_right := He.glo_ok X G (c.d.fact 54 (f := .glo "_law_sheets_right") rfl),
    d_law := d_law, F_law := F_law,
    m_law := He.glo_ok X G (c.d.fact 55 (f := .glo "law") rfl),
    m_SayError := He.glo_ok X G (c.d.fact 56 (f := .glo "SayError") rfl),
    m_BadSaying := He.glo_ok X G (c.d.fact 57 (f := .glo "BadSaying") rfl),
    m_BadSheet := He.glo_ok X G (c.d.fact 58 (f := .glo "BadSheet") rfl),
    m_Saying := He.glo_ok X G (c.d.fact 59 (f := .glo "Saying") rfl),
    c_Saying := He.cls_ok (c.d.fact 60 (f := .cls "Saying") rfl),
    o_Saying := ownB_ok (He.cls_ok (c.d.fact 60 (f := .cls "Saying") rfl)) (exA ce 0),
    m_At := He.glo_ok X G (c.d.fact 61 (f := .glo "At") rfl),
    c_At := He.cls_ok (c.d.fact 62 (f := .cls "At") rfl),
    o_At := ownB_ok (He.cls_ok (c.d.fact 62 (f := .cls "At") rfl)) (exA ce 1),
    na_At_name := He.noat_ok (c.d.fact 63 (f := .noat "At" "name") rfl),
    na_At_part := He.noat_ok (c.d.fact 64 (f := .noat "At" "part") rfl),
    na_At_number := He.noat_ok (c.d.fact 65 (f := .noat "At" "number") rfl),
    m_Beside := He.glo_ok X G (c.d.fact 66 (f := .glo "Beside") rfl),
    c_Beside := He.cls_ok (c.d.fact 67 (f := .cls "Beside") rfl),
    o_Beside := ownB_ok (He.cls_ok (c.d.fact 67 (f := .cls "Beside") rfl)) (exA ce 2),
    na_Beside_name := He.noat_ok (c.d.fact 68 (f := .noat "Beside" "name") rfl),
    na_Beside_side := He.noat_ok (c.d.fact 69 (f := .noat "Beside" "side") rfl),
    na_Beside_other := He.noat_ok (c.d.fact 70 (f := .noat "Beside" "other") rfl),
    na_Beside_by := He.noat_ok (c.d.fact 71 (f := .noat "Beside" "by") rfl),
    m_Alike := He.glo_ok X G (c.d.fact 72 (f := .glo "Alike") rfl),
    c_Alike := He.cls_ok (c.d.fact 73 (f := .cls "Alike") rfl),
    o_Alike := ownB_ok (He.cls_ok (c.d.fact 73 (f := .cls "Alike") rfl)) (exA ce 3),
    na_Alike_name := He.noat_ok (c.d.fact 74 (f := .noat "Alike" "name") rfl),
    na_Alike_part := He.noat_ok (c.d.fact 75 (f := .noat "Alike" "part") rfl),
    na_Alike_other := He.noat_ok (c.d.fact 76 (f := .noat "Alike" "other") rfl),
    na_Alike_times := He.noat_ok (c.d.fact 77 (f := .noat "Alike" "times") rfl),
    m_Amid := He.glo_ok X G (c.d.fact 78 (f := .glo "Amid") rfl),
    c_Amid := He.cls_ok (c.d.fact 79 (f := .cls "Amid") rfl),
    o_Amid := ownB_ok (He.cls_ok (c.d.fact 79 (f := .cls "Amid") rfl)) (exA ce 4),
    na_Amid_name := He.noat_ok (c.d.fact 80 (f := .noat "Amid" "name") rfl),
    na_Amid_way := He.noat_ok (c.d.fact 81 (f := .noat "Amid" "way") rfl),
    na_Amid_one := He.noat_ok (c.d.fact 82 (f := .noat "Amid" "one") rfl),
    na_Amid_other := He.noat_ok (c.d.fact 83 (f := .noat "Amid" "other") rfl),
    m_Sheet := He.glo_ok X G (c.d.fact 84 (f := .glo "Sheet") rfl),
    c_Sheet := He.cls_ok (c.d.fact 85 (f := .cls "Sheet") rfl),
    o_Sheet := ownB_ok (He.cls_ok (c.d.fact 85 (f := .cls "Sheet") rfl)) (exA ce 5),
    na_Sheet_boxes := He.noat_ok (c.d.fact 86 (f := .noat "Sheet" "boxes") rfl),
    na_Sheet_said := He.noat_ok (c.d.fact 87 (f := .noat "Sheet" "said") rfl),
    kt_Saying_Saying := kitB_ok (exA ce 6),
    kt_Saying_At := kitB_ok (exA ce 7),
    kt_Saying_Beside := kitB_ok (exA ce 8),
    kt_Saying_Alike := kitB_ok (exA ce 9),
    kt_Saying_Amid := kitB_ok (exA ce 10),
    kt_Saying_Sheet := kitB_ok (exA ce 11),
    kt_At_Saying := kitB_ok (exA ce 12),
    kt_At_At := kitB_ok (exA ce 13),
    kt_At_Beside := kitB_ok (exA ce 14),
    kt_At_Alike := kitB_ok (exA ce 15),
    kt_At_Amid := kitB_ok (exA ce 16),
    kt_At_Sheet := kitB_ok (exA ce 17),
    kt_Beside_Saying := kitB_ok (exA ce 18),
    kt_Beside_At := kitB_ok (exA ce 19),
    kt_Beside_Beside := kitB_ok (exA ce 20),
    kt_Beside_Alike := kitB_ok (exA ce 21),
    kt_Beside_Amid := kitB_ok (exA ce 22),
    kt_Beside_Sheet := kitB_ok (exA ce 23),
    kt_Alike_Saying := kitB_ok (exA ce 24),
    kt_Alike_At := kitB_ok (exA ce 25),
    kt_Alike_Beside := kitB_ok (exA ce 26),
    kt_Alike_Alike := kitB_ok (exA ce 27),
    kt_Alike_Amid := kitB_ok (exA ce 28),
    kt_Alike_Sheet := kitB_ok (exA ce 29),
    kt_Amid_Saying := kitB_ok (exA ce 30),
    kt_Amid_At := kitB_ok (exA ce 31),
    kt_Amid_Beside := kitB_ok (exA ce 32),
    kt_Amid_Alike := kitB_ok (exA ce 33),
    kt_Amid_Amid := kitB_ok (exA ce 34),
    kt_Amid_Sheet := kitB_ok (exA ce 35),
    kt_Sheet_Saying := kitB_ok (exA ce 36),
    kt_Sheet_At := kitB_ok (exA ce 37),
    kt_Sheet_Beside := kitB_ok (exA ce 38),
    kt_Sheet_Alike := kitB_ok (exA ce 39),
    kt_Sheet_Amid := kitB_ok (exA ce 40),
    kt_Sheet_Sheet := kitB_ok (exA ce 41),
    i_LETTERS := He.str_ok X G (c.d.fact 88 (f := .str "LETTERS" "abcdefghijklmnopqrstuvwxyz") rfl),
    i_LONGEST_NAME := He.int_ok X G (c.d.fact 89 (f := .int "LONGEST_NAME" 8) rfl),
    m_PARTS := He.glo_ok X G (c.d.fact 90 (f := .glo "PARTS") rfl),
    t_PARTS := tupN_ok (exA ce 42),
    m_SIDES := He.glo_ok X G (c.d.fact 91 (f := .glo "SIDES") rfl),
    k_SIDES := keysB_ok (exA ce 43),
    v_SIDES := valsN_ok (c.tab 0) (exA ce 44),
    m_WAYS := He.glo_ok X G (c.d.fact 92 (f := .glo "WAYS") rfl),
    k_WAYS := keysB_ok (exA ce 45),
    v_WAYS := valsN_ok (c.tab 1) (exA ce 46),
    i_FARTHEST := He.int_ok X G (c.d.fact 93 (f := .int "FARTHEST" 1000) rfl),
    i_MOST_TIMES := He.int_ok X G (c.d.fact 94 (f := .int "MOST_TIMES" 9) rfl),
    i_MOST_NAMES := He.int_ok X G (c.d.fact 95 (f := .int "MOST_NAMES" 6) rfl),
    i_MOST_SAYINGS := He.int_ok X G (c.d.fact 96 (f := .int "MOST_SAYINGS" 16) rfl),
    b_all := He.free_ok X G (c.d.fact 97 (f := .free "all") rfl),
    b_bool := He.free_ok X G (c.d.fact 98 (f := .free "bool") rfl),
    b_dict := He.free_ok X G (c.d.fact 99 (f := .free "dict") rfl),
    b_int := He.free_ok X G (c.d.fact 100 (f := .free "int") rfl),
    b_isinstance := He.free_ok X G (c.d.fact 101 (f := .free "isinstance") rfl),
    b_len := He.free_ok X G (c.d.fact 102 (f := .free "len") rfl),
    b_list := He.free_ok X G (c.d.fact 103 (f := .free "list") rfl),
    b_max := He.free_ok X G (c.d.fact 104 (f := .free "max") rfl),
    b_range := He.free_ok X G (c.d.fact 105 (f := .free "range") rfl),
    b_set := He.free_ok X G (c.d.fact 106 (f := .free "set") rfl),
    b_str := He.free_ok X G (c.d.fact 107 (f := .free "str") rfl),
    b_sum := He.free_ok X G (c.d.fact 108 (f := .free "sum") rfl),
    b_tuple := He.free_ok X G (c.d.fact 109 (f := .free "tuple") rfl) }⟩
end K1
set_option Elab.async false
set_option linter.all false
set_option maxRecDepth 100000
set_option maxHeartbeats 0
namespace K1
open PySem PySem.Spec L2 Wd
open PyProof.Rows hiding St
/-- the walk of a law whose promise speaks of its world -/
theorem walkY {lw : PySem.W.OpenLaw} {most lev : Nat} {qq : Program} {lo : List Str} {A : (Str → Option Value) → Heap → Prop} {B : World → Heap → Prop} {dr : DefRec} {C : World → CXT} {nm : Str}
    (m1 : lw.most = some most) (m2 : most ≤ sizeLine) (m3 : dr.params.defaults = []) (room : Room lev callerA)
    (parts : ∀ (ww : World) (gl : Str → Option Value) (f : Addr) (hp : Heap), B ww hp → hp.Ns mainGlobals gl → gl dr.name = some (.ref f) → ∃ (K : PySem.W.Frag) (fd : FuncData) (pr : Sp), K.In hp ∧
      (∀ (s : Shared) (u : Value), BindsTo s fd ⟨[u], []⟩ [(nm, u)]) ∧
      (∀ (H : Hp) (b : Addr) (is : List Int), is.length ≤ most → Only H → SqL K H b (is.map V.int) → pr [.ref b] H (fun v _ => v = .bl true) fun _ _ _ => False) ∧ ∀ bs : Heap, K.In bs → bs.Ns mainGlobals gl → FnOk lw.prog ww K gl bs (C ww) lev f fd [nm] pr)
    (never : ∀ (ww : World) (H : Hp) (s : Shared) (u : Value) (s' : Shared), C ww [] H s (fun _ _ _ => False) u s' → False) : PySem.W.WalkO qq lo A B lw.row.toRowW dr [] (fun f vs => PySem.call f vs) :=
  Att.attach_call m1 m3 fun ww _ s1 gl _ f _ _ _ _ _ _ _ T Y _ _ _ hgl hob hin hle hge => by
    obtain ⟨K, fd, pr, k1, k2, k3, k4⟩ := parts ww gl f _ Y T.T.g hgl
    exact law_call k1 T.T.g T.T.b T.T.builtins T.T.nolimit hge hob hin (Nat.le_trans hle m2) room k4 k2 (fun H o q => k3 H _ _ hle o q) fun H u s' => never ww H s1 u s'
theorem endY (w : World) (mg : Str → Option Value) (fa : Addr) (h : Heap) (Y : (hookY 5).says w h) (G : h.Ns mainGlobals mg) (hm : mg "law" = some (.ref fa)) : ∃ (K : PySem.W.Frag) (fd : FuncData) (sp : Sp), K.In h ∧ (∀ (s : Shared) (u : Value), BindsTo s fd ⟨[u], []⟩ [("_law_script", u)]) ∧
    (∀ (H : Hp) (a : Addr) (ns : List Int), ns.length ≤ 63 → Only H → SqL K H a (ns.map V.int) → sp [.ref a] H (fun v _ => v = .bl true) fun _ _ _ => False) ∧ ∀ base : Heap, K.In base → base.Ns mainGlobals mg → FnOk (PySem.Challenge.rw_wheresay_k01_sayings).prog w K mg base (L2.CX (PySem.Challenge.rw_wheresay_k01_sayings).prog w) 9 fa fd ["_law_script"] sp := by
  obtain ⟨K, X, c, ce⟩ := Y
  obtain ⟨Z⟩ := envY X G c ce
  have e := hm.symm.trans Z.m_law
  cases e
  have b := FunD.bindsA (ps := ["_law_script"]) Z.F_law fun _ _ _ _ _ _ us hl => match us, hl with | [_], _ => rfl
  refine ⟨K, Z.d_law, spD K PrLaw, X, fun s v => b s [v] rfl, fun H a ns hl _ hS => ⟨H, [.ro (ns.map .int)], _, Wd.Sub.refl H, .cons (.ro hS (Dats.ofInts ns)) .nil, ⟨ns, hl, rfl, rfl⟩, fun v S' H' _ _ r => ?_⟩, fun base _ _ => ok_law Z⟩
  cases r
  rfl
end K1
open PySem PySem.W PySem.Calls PyProof.Rows
theorem PySem.Challenge.cw_wheresay_k01_sayings_holds : PySem.Challenge.rw_wheresay_k01_sayings.Holds := by
  w_on; o_law
  refine HandSHeadRun.head_any (r := OpenLaw.row PySem.Challenge.rw_wheresay_k01_sayings) (q := view (OpenLaw.row PySem.Challenge.rw_wheresay_k01_sayings).prog [56]) (H := K1.hookY 5) (ob := K1.obY) (M := 4000) (loose := K1.nsL) (d := HandSHeadRun.topDef (OpenLaw.row PySem.Challenge.rw_wheresay_k01_sayings).prog 56) (kwd := []) K1.obY_eq
    (by kernel_rfl) (fun s => by kernel_rfl) K1.runY (by kernel_rfl) (by kernel_rfl) (by kernel_rfl) (by rfl) (by first | assumption | decide +kernel) (by decide +kernel) ⟨rfl, rfl, rfl, rfl, rfl, by decide +kernel⟩ ?hw ?hc
  case hw => w_witness2
  case hc =>
    refine K1.walkY (lw := PySem.Challenge.rw_wheresay_k01_sayings) (most := 63) (lev := 9) (nm := "_law_script") (C := L2.CX (PySem.Challenge.rw_wheresay_k01_sayings).prog) rfl (by decide) (by kernel_rfl) ⟨rfl, by decide, by decide⟩ ?F (fun _ _ _ _ _ ⟨_, _, _, _, _, _, _, _, _, _, _, _, z⟩ => z)
    intro w mg fa h Y G hmg0
    have e : (HandSHeadRun.topDef (OpenLaw.row PySem.Challenge.rw_wheresay_k01_sayings).prog 56).name = ("law" : PySem.Str) := by kernel_rfl
    rw [e] at hmg0
    exact K1.endY w mg fa h Y G hmg0
