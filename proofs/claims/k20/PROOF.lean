import PyProof.Rows.All
import Wide.All
import OpenK.AllK
import Wide.FinOn
import KE.KStateDown
import HandS.Base
import HandS.Call
import HandS.List
import HandS.Comp
import HandS.Ends
import HandS.Dict
import HandS.Iter
import HandS.Text
import HandS.More
import HandS.Words
import HandS.WordsList
import HandS.WordsDict
import HandS.WordsExc
import HandS.Exc
import HandS.Defaults
import HandS.IsInst
import HandS.Set
import HandS.Strs
import HandS.SetFor
import HandS.TupSets
import HandS.TupMul
import HandS.TupAny
import HandS.TupLe
import HandS.Conv
import HandS.Walk
import HandS.Evl
import HandS.Flow
import HandS.Style
import HandS.Deep
import HandS.DeepEq
import HandS.SetBool
import HandS.Codes
import HandS.Head0
import HandS.Head1
import HandS.Head2
import HandS.HeadEnd
import HandS.HeadHook1
import HandS.HeadHook2
import PySem.Challenge.RW_roamlook_k20_papers_judged
import KE.GoesEnum
import PyProof.TupleOfSeq
import PyProof.EnumMake
import HandS.Zip0
import HandS.Zip
import KE.KRevSl
import PyProof.ReprRoads
import HandS.Lambda
import HandS.Flt
import KE.KEqSeq
import PyProof.ReprLen
set_option Elab.async false
set_option linter.all false
set_option maxRecDepth 100000
set_option maxHeartbeats 0
/-! The text by places, its facts by names. -/
namespace RL
open PySem PySem.Spec PyProof.Rows L2
def top (i : Nat) : Stmt := PySem.Challenge.pw_roamlook_k20_papers_judged.main.body.getD i (.Pass ⟨0, 0, 0, 0⟩)
abbrev s_is_number : Stmt := top 14
abbrev s_is_between : Stmt := top 15
abbrev s_is_lot : Stmt := top 16
abbrev s_check_lot : Stmt := top 17
abbrev s_is_filled_lot : Stmt := top 18
abbrev s_rising_ways : Stmt := top 19
abbrev s_fars_from : Stmt := top 20
abbrev s_way_text : Stmt := top 21
abbrev s_Board_init : Stmt := inClass (top 22) 0
abbrev s_Board_ways : Stmt := inClass (top 22) 1
abbrev s_Board_far : Stmt := inClass (top 22) 3
abbrev s_Board_within : Stmt := inClass (top 22) 4
abbrev s_Board_check_place : Stmt := inClass (top 22) 7
abbrev s_Board_len : Stmt := inClass (top 22) 9
abbrev s_is_pace : Stmt := top 26
abbrev s_check_pace : Stmt := top 27
abbrev s_step : Stmt := top 28
abbrev s_before : Stmt := top 29
abbrev s_are_parts : Stmt := top 32
abbrev s_is_look : Stmt := top 33
abbrev s_near_answer : Stmt := top 34
abbrev s_answers : Stmt := top 35
abbrev s_lot_of : Stmt := top 36
abbrev s_are_paces : Stmt := top 39
abbrev s_is_triple : Stmt := top 40
abbrev s_are_triples : Stmt := top 41
abbrev s_look_story : Stmt := top 42
abbrev s_last_beat : Stmt := top 43
abbrev s_check_beat : Stmt := top 44
abbrev s_meet : Stmt := top 45
abbrev s_answering : Stmt := top 46
abbrev s_next_lot : Stmt := top 47
abbrev s_forth : Stmt := top 48
abbrev s_back : Stmt := top 49
abbrev s_next_places : Stmt := top 51
abbrev s_is_walk : Stmt := top 52
abbrev s_missed : Stmt := top 53
abbrev s_onward_counts : Stmt := top 54
abbrev s_count_all : Stmt := top 55
abbrev s_pick : Stmt := top 56
abbrev s_counted_walk : Stmt := top 57
abbrev s_fits : Stmt := top 58
abbrev s_walk_by : Stmt := top 59
abbrev s_paper : Stmt := top 61
abbrev s_all_have : Stmt := top 62
abbrev s_shut_ahead : Stmt := top 63
abbrev s_shut_behind : Stmt := top 64
abbrev s_holds : Stmt := top 65
abbrev s__law_box : Stmt := top 67
abbrev s__law_pick : Stmt := top 68
abbrev s__law_from : Stmt := top 69
abbrev s__law_mixed : Stmt := top 70
abbrev s__law_same : Stmt := top 71
abbrev s__law_ways : Stmt := top 72
abbrev s__law_board : Stmt := top 73
abbrev s__law_made : Stmt := top 74
abbrev s__law_spans : Stmt := top 75
abbrev s__law_pace : Stmt := top 76
abbrev s__law_reached : Stmt := top 77
abbrev s__law_lot : Stmt := top 78
abbrev s__law_start : Stmt := top 79
abbrev s__law_look : Stmt := top 80
abbrev s__law_answer : Stmt := top 81
abbrev s__law_seen : Stmt := top 82
abbrev s__law_story : Stmt := top 83
abbrev s__law_ground : Stmt := top 84
abbrev s__law_open : Stmt := top 85
abbrev s__law_into : Stmt := top 86
abbrev s__law_fit : Stmt := top 87
abbrev s__law_paper_right : Stmt := top 88
abbrev s__law_judged_so : Stmt := top 89
abbrev s__law_bent_lots : Stmt := top 90
abbrev s__law_bent_paper : Stmt := top 91
abbrev s_law : Stmt := top 92
abbrev FnP (K : PySem.W.Frag) (x q : Str) (st : Stmt) (ds : List V) (f : Addr) (fd : FuncData) : Prop := FunD K x q (defArgs st) (defBody st) (defScope st) ds [] f fd
def d_is_number : He.DefD := ⟨("is_number", none), "is_number", "is_number", defArgs s_is_number, defBody s_is_number, defScope s_is_number, [], []⟩
def d_is_between : He.DefD := ⟨("is_between", none), "is_between", "is_between", defArgs s_is_between, defBody s_is_between, defScope s_is_between, [], []⟩
def d_is_lot : He.DefD := ⟨("is_lot", none), "is_lot", "is_lot", defArgs s_is_lot, defBody s_is_lot, defScope s_is_lot, [], []⟩
def d_check_lot : He.DefD := ⟨("check_lot", none), "check_lot", "check_lot", defArgs s_check_lot, defBody s_check_lot, defScope s_check_lot, [], []⟩
def d_is_filled_lot : He.DefD := ⟨("is_filled_lot", none), "is_filled_lot", "is_filled_lot", defArgs s_is_filled_lot, defBody s_is_filled_lot, defScope s_is_filled_lot, [], []⟩
def d_rising_ways : He.DefD := ⟨("rising_ways", none), "rising_ways", "rising_ways", defArgs s_rising_ways, defBody s_rising_ways, defScope s_rising_ways, [], []⟩
def d_fars_from : He.DefD := ⟨("fars_from", none), "fars_from", "fars_from", defArgs s_fars_from, defBody s_fars_from, defScope s_fars_from, [], []⟩
def d_way_text : He.DefD := ⟨("way_text", none), "way_text", "way_text", defArgs s_way_text, defBody s_way_text, defScope s_way_text, [], []⟩
def d_Board_init : He.DefD := ⟨("Board", some "__init__"), "__init__", "Board.__init__", defArgs s_Board_init, defBody s_Board_init, defScope s_Board_init, [.adr (He.dflAt ("Board", some "__init__") 0)], []⟩
def d_Board_ways : He.DefD := ⟨("Board", some "ways"), "ways", "Board.ways", defArgs s_Board_ways, defBody s_Board_ways, defScope s_Board_ways, [], []⟩
def d_Board_far : He.DefD := ⟨("Board", some "far"), "far", "Board.far", defArgs s_Board_far, defBody s_Board_far, defScope s_Board_far, [], []⟩
def d_Board_within : He.DefD := ⟨("Board", some "within"), "within", "Board.within", defArgs s_Board_within, defBody s_Board_within, defScope s_Board_within, [], []⟩
def d_Board_check_place : He.DefD := ⟨("Board", some "check_place"), "check_place", "Board.check_place", defArgs s_Board_check_place, defBody s_Board_check_place, defScope s_Board_check_place, [], []⟩
def d_Board_len : He.DefD := ⟨("Board", some "__len__"), "__len__", "Board.__len__", defArgs s_Board_len, defBody s_Board_len, defScope s_Board_len, [], []⟩
def d_is_pace : He.DefD := ⟨("is_pace", none), "is_pace", "is_pace", defArgs s_is_pace, defBody s_is_pace, defScope s_is_pace, [], []⟩
def d_check_pace : He.DefD := ⟨("check_pace", none), "check_pace", "check_pace", defArgs s_check_pace, defBody s_check_pace, defScope s_check_pace, [], []⟩
def d_step : He.DefD := ⟨("step", none), "step", "step", defArgs s_step, defBody s_step, defScope s_step, [], []⟩
def d_before : He.DefD := ⟨("before", none), "before", "before", defArgs s_before, defBody s_before, defScope s_before, [], []⟩
def d_are_parts : He.DefD := ⟨("are_parts", none), "are_parts", "are_parts", defArgs s_are_parts, defBody s_are_parts, defScope s_are_parts, [], []⟩
def d_is_look : He.DefD := ⟨("is_look", none), "is_look", "is_look", defArgs s_is_look, defBody s_is_look, defScope s_is_look, [], []⟩
def d_near_answer : He.DefD := ⟨("near_answer", none), "near_answer", "near_answer", defArgs s_near_answer, defBody s_near_answer, defScope s_near_answer, [], []⟩
def d_answers : He.DefD := ⟨("answers", none), "answers", "answers", defArgs s_answers, defBody s_answers, defScope s_answers, [], []⟩
def d_lot_of : He.DefD := ⟨("lot_of", none), "lot_of", "lot_of", defArgs s_lot_of, defBody s_lot_of, defScope s_lot_of, [], []⟩
def d_are_paces : He.DefD := ⟨("are_paces", none), "are_paces", "are_paces", defArgs s_are_paces, defBody s_are_paces, defScope s_are_paces, [], []⟩
def d_is_triple : He.DefD := ⟨("is_triple", none), "is_triple", "is_triple", defArgs s_is_triple, defBody s_is_triple, defScope s_is_triple, [], []⟩
def d_are_triples : He.DefD := ⟨("are_triples", none), "are_triples", "are_triples", defArgs s_are_triples, defBody s_are_triples, defScope s_are_triples, [], []⟩
def d_look_story : He.DefD := ⟨("look_story", none), "look_story", "look_story", defArgs s_look_story, defBody s_look_story, defScope s_look_story, [], []⟩
def d_last_beat : He.DefD := ⟨("last_beat", none), "last_beat", "last_beat", defArgs s_last_beat, defBody s_last_beat, defScope s_last_beat, [], []⟩
def d_check_beat : He.DefD := ⟨("check_beat", none), "check_beat", "check_beat", defArgs s_check_beat, defBody s_check_beat, defScope s_check_beat, [], []⟩
def d_meet : He.DefD := ⟨("meet", none), "meet", "meet", defArgs s_meet, defBody s_meet, defScope s_meet, [], []⟩
def d_answering : He.DefD := ⟨("answering", none), "answering", "answering", defArgs s_answering, defBody s_answering, defScope s_answering, [], []⟩
def d_next_lot : He.DefD := ⟨("next_lot", none), "next_lot", "next_lot", defArgs s_next_lot, defBody s_next_lot, defScope s_next_lot, [], []⟩
def d_forth : He.DefD := ⟨("forth", none), "forth", "forth", defArgs s_forth, defBody s_forth, defScope s_forth, [], []⟩
def d_back : He.DefD := ⟨("back", none), "back", "back", defArgs s_back, defBody s_back, defScope s_back, [], []⟩
def d_next_places : He.DefD := ⟨("next_places", none), "next_places", "next_places", defArgs s_next_places, defBody s_next_places, defScope s_next_places, [], []⟩
def d_is_walk : He.DefD := ⟨("is_walk", none), "is_walk", "is_walk", defArgs s_is_walk, defBody s_is_walk, defScope s_is_walk, [], []⟩
def d_missed : He.DefD := ⟨("missed", none), "missed", "missed", defArgs s_missed, defBody s_missed, defScope s_missed, [], []⟩
def d_onward_counts : He.DefD := ⟨("onward_counts", none), "onward_counts", "onward_counts", defArgs s_onward_counts, defBody s_onward_counts, defScope s_onward_counts, [], []⟩
def d_count_all : He.DefD := ⟨("count_all", none), "count_all", "count_all", defArgs s_count_all, defBody s_count_all, defScope s_count_all, [], []⟩
def d_pick : He.DefD := ⟨("pick", none), "pick", "pick", defArgs s_pick, defBody s_pick, defScope s_pick, [], []⟩
def d_counted_walk : He.DefD := ⟨("counted_walk", none), "counted_walk", "counted_walk", defArgs s_counted_walk, defBody s_counted_walk, defScope s_counted_walk, [], []⟩
def d_fits : He.DefD := ⟨("fits", none), "fits", "fits", defArgs s_fits, defBody s_fits, defScope s_fits, [], []⟩
def d_walk_by : He.DefD := ⟨("walk_by", none), "walk_by", "walk_by", defArgs s_walk_by, defBody s_walk_by, defScope s_walk_by, [], []⟩
def d_paper : He.DefD := ⟨("paper", none), "paper", "paper", defArgs s_paper, defBody s_paper, defScope s_paper, [], []⟩
def d_all_have : He.DefD := ⟨("all_have", none), "all_have", "all_have", defArgs s_all_have, defBody s_all_have, defScope s_all_have, [], []⟩
def d_shut_ahead : He.DefD := ⟨("shut_ahead", none), "shut_ahead", "shut_ahead", defArgs s_shut_ahead, defBody s_shut_ahead, defScope s_shut_ahead, [], []⟩
def d_shut_behind : He.DefD := ⟨("shut_behind", none), "shut_behind", "shut_behind", defArgs s_shut_behind, defBody s_shut_behind, defScope s_shut_behind, [], []⟩
def d_holds : He.DefD := ⟨("holds", none), "holds", "holds", defArgs s_holds, defBody s_holds, defScope s_holds, [], []⟩
def d__law_box : He.DefD := ⟨("_law_box", none), "_law_box", "_law_box", defArgs s__law_box, defBody s__law_box, defScope s__law_box, [], []⟩
def d__law_pick : He.DefD := ⟨("_law_pick", none), "_law_pick", "_law_pick", defArgs s__law_pick, defBody s__law_pick, defScope s__law_pick, [], []⟩
def d__law_from : He.DefD := ⟨("_law_from", none), "_law_from", "_law_from", defArgs s__law_from, defBody s__law_from, defScope s__law_from, [], []⟩
def d__law_mixed : He.DefD := ⟨("_law_mixed", none), "_law_mixed", "_law_mixed", defArgs s__law_mixed, defBody s__law_mixed, defScope s__law_mixed, [], []⟩
def d__law_same : He.DefD := ⟨("_law_same", none), "_law_same", "_law_same", defArgs s__law_same, defBody s__law_same, defScope s__law_same, [], []⟩
def d__law_ways : He.DefD := ⟨("_law_ways", none), "_law_ways", "_law_ways", defArgs s__law_ways, defBody s__law_ways, defScope s__law_ways, [], []⟩
def d__law_board : He.DefD := ⟨("_law_board", none), "_law_board", "_law_board", defArgs s__law_board, defBody s__law_board, defScope s__law_board, [], []⟩
def d__law_made : He.DefD := ⟨("_law_made", none), "_law_made", "_law_made", defArgs s__law_made, defBody s__law_made, defScope s__law_made, [], []⟩
def d__law_spans : He.DefD := ⟨("_law_spans", none), "_law_spans", "_law_spans", defArgs s__law_spans, defBody s__law_spans, defScope s__law_spans, [], []⟩
def d__law_pace : He.DefD := ⟨("_law_pace", none), "_law_pace", "_law_pace", defArgs s__law_pace, defBody s__law_pace, defScope s__law_pace, [], []⟩
def d__law_reached : He.DefD := ⟨("_law_reached", none), "_law_reached", "_law_reached", defArgs s__law_reached, defBody s__law_reached, defScope s__law_reached, [], []⟩
def d__law_lot : He.DefD := ⟨("_law_lot", none), "_law_lot", "_law_lot", defArgs s__law_lot, defBody s__law_lot, defScope s__law_lot, [], []⟩
def d__law_start : He.DefD := ⟨("_law_start", none), "_law_start", "_law_start", defArgs s__law_start, defBody s__law_start, defScope s__law_start, [], []⟩
def d__law_look : He.DefD := ⟨("_law_look", none), "_law_look", "_law_look", defArgs s__law_look, defBody s__law_look, defScope s__law_look, [], []⟩
def d__law_answer : He.DefD := ⟨("_law_answer", none), "_law_answer", "_law_answer", defArgs s__law_answer, defBody s__law_answer, defScope s__law_answer, [], []⟩
def d__law_seen : He.DefD := ⟨("_law_seen", none), "_law_seen", "_law_seen", defArgs s__law_seen, defBody s__law_seen, defScope s__law_seen, [], []⟩
def d__law_story : He.DefD := ⟨("_law_story", none), "_law_story", "_law_story", defArgs s__law_story, defBody s__law_story, defScope s__law_story, [], []⟩
def d__law_ground : He.DefD := ⟨("_law_ground", none), "_law_ground", "_law_ground", defArgs s__law_ground, defBody s__law_ground, defScope s__law_ground, [], []⟩
def d__law_open : He.DefD := ⟨("_law_open", none), "_law_open", "_law_open", defArgs s__law_open, defBody s__law_open, defScope s__law_open, [], []⟩
def d__law_into : He.DefD := ⟨("_law_into", none), "_law_into", "_law_into", defArgs s__law_into, defBody s__law_into, defScope s__law_into, [], []⟩
def d__law_fit : He.DefD := ⟨("_law_fit", none), "_law_fit", "_law_fit", defArgs s__law_fit, defBody s__law_fit, defScope s__law_fit, [], []⟩
def d__law_paper_right : He.DefD := ⟨("_law_paper_right", none), "_law_paper_right", "_law_paper_right", defArgs s__law_paper_right, defBody s__law_paper_right, defScope s__law_paper_right, [], []⟩
def d__law_judged_so : He.DefD := ⟨("_law_judged_so", none), "_law_judged_so", "_law_judged_so", defArgs s__law_judged_so, defBody s__law_judged_so, defScope s__law_judged_so, [], []⟩
def d__law_bent_lots : He.DefD := ⟨("_law_bent_lots", none), "_law_bent_lots", "_law_bent_lots", defArgs s__law_bent_lots, defBody s__law_bent_lots, defScope s__law_bent_lots, [], []⟩
def d__law_bent_paper : He.DefD := ⟨("_law_bent_paper", none), "_law_bent_paper", "_law_bent_paper", defArgs s__law_bent_paper, defBody s__law_bent_paper, defScope s__law_bent_paper, [], []⟩
def d_law : He.DefD := ⟨("law", none), "law", "law", defArgs s_law, defBody s_law, defScope s_law, [], []⟩
def fn : List He.DefD := [d_is_number, d_is_between, d_is_lot, d_check_lot, d_is_filled_lot, d_rising_ways, d_fars_from, d_way_text, d_Board_init, d_Board_ways, d_Board_far, d_Board_within, d_Board_check_place, d_Board_len, d_is_pace, d_check_pace, d_step, d_before, d_are_parts, d_is_look, d_near_answer, d_answers, d_lot_of, d_are_paces, d_is_triple, d_are_triples, d_look_story, d_last_beat, d_check_beat, d_meet, d_answering, d_next_lot, d_forth, d_back, d_next_places, d_is_walk, d_missed, d_onward_counts, d_count_all, d_pick, d_counted_walk, d_fits, d_walk_by, d_paper, d_all_have, d_shut_ahead, d_shut_behind, d_holds, d__law_box, d__law_pick, d__law_from, d__law_mixed, d__law_same, d__law_ways, d__law_board, d__law_made, d__law_spans, d__law_pace, d__law_reached, d__law_lot, d__law_start, d__law_look, d__law_answer, d__law_seen, d__law_story, d__law_ground, d__law_open, d__law_into, d__law_fit, d__law_paper_right, d__law_judged_so, d__law_bent_lots, d__law_bent_paper, d_law]
def fa0 : List He.Fa := [.glo "is_number", .glo "is_between", .glo "is_lot", .glo "check_lot", .glo "is_filled_lot", .glo "rising_ways", .glo "fars_from", .glo "way_text", .glo "is_pace", .glo "check_pace", .glo "step", .glo "before", .glo "are_parts", .glo "is_look", .glo "near_answer", .glo "answers", .glo "lot_of", .glo "are_paces", .glo "is_triple", .glo "are_triples", .glo "look_story", .glo "last_beat", .glo "check_beat", .glo "meet", .glo "answering", .glo "next_lot", .glo "forth", .glo "back", .glo "next_places", .glo "is_walk"]
def fa1 : List He.Fa := [.glo "missed", .glo "onward_counts", .glo "count_all", .glo "pick", .glo "counted_walk", .glo "fits", .glo "walk_by", .glo "paper", .glo "all_have", .glo "shut_ahead", .glo "shut_behind", .glo "holds", .glo "_law_box", .glo "_law_pick", .glo "_law_from", .glo "_law_mixed", .glo "_law_same", .glo "_law_ways", .glo "_law_board", .glo "_law_made", .glo "_law_spans", .glo "_law_pace", .glo "_law_reached", .glo "_law_lot", .glo "_law_start", .glo "_law_look", .glo "_law_answer", .glo "_law_seen", .glo "_law_story", .glo "_law_ground"]
def fa2 : List He.Fa := [.glo "_law_open", .glo "_law_into", .glo "_law_fit", .glo "_law_paper_right", .glo "_law_judged_so", .glo "_law_bent_lots", .glo "_law_bent_paper", .glo "law", .glo "Board", .free "abs", .free "all", .free "any", .free "bool", .free "enumerate", .free "int", .free "isinstance", .free "len", .free "list", .free "max", .free "min", .free "range", .free "repr", .free "set", .free "sorted", .free "str", .free "sum", .free "tuple", .free "zip", .int "MOST_PLACES" 8, .int "MOST_PACE" 7]
def fa3 : List He.Fa := [.int "MOST_BEATS" 12, .int "MOST_NEAR" 7, .int "MOST_TRIPLES" 24, .cls "Board", .mkr "Board", .noat "Board" "many", .noat "Board" "pairs", .noat "Board" "leads", .noat "Board" "fars", .meth "Board" "ways", .meth "Board" "far", .meth "Board" "within", .meth "Board" "check_place", .meth "Board" "__len__"]
def fa : List He.Fa := fa0 ++ fa1 ++ fa2 ++ fa3
abbrev R : PySem.W.OpenRow := PySem.W.OpenLaw.row PySem.Challenge.rw_roamlook_k20_papers_judged
abbrev hk : PySem.W.Hook := He.hookD 5 fa fn
def ob (s : PySem.W.SharedT) : He.AlD := He.obsDG 5 fa fn (HandSHeadRun.getT s)
theorem ob_eq (s : PySem.W.SharedT) : ob s = hk.obs s.abs := He.obsDG_eq (HandSHeadRun.getT_eq s)
end RL
namespace RL
open PySem PySem.Spec PyProof.Rows L2
def lo0 : List PySem.Str := ["_wall", "RoamError", "BadMany", "BadWay", "BadPace", "BadLot", "BadLook", "BadStory", "BadBeat", "Missing", "NoPlace", "MOST_PLACES", "is_number", "is_between", "is_lot", "check_lot", "is_filled_lot", "rising_ways", "fars_from", "way_text", "Board", "MOST_PACE", "MOST_BEATS", "is_pace", "check_pace", "step", "before", "MOST_NEAR", "are_parts", "is_look"]
def lo1 : List PySem.Str := ["near_answer", "answers", "lot_of", "MOST_TRIPLES", "are_paces", "is_triple", "are_triples", "look_story", "last_beat", "check_beat", "meet", "answering", "next_lot", "forth", "back", "next_places", "is_walk", "missed", "onward_counts", "count_all", "pick", "counted_walk", "fits", "walk_by", "paper", "all_have", "shut_ahead", "shut_behind", "holds", "_law_box"]
def lo2 : List PySem.Str := ["_law_pick", "_law_from", "_law_mixed", "_law_same", "_law_ways", "_law_board", "_law_made", "_law_spans", "_law_pace", "_law_reached", "_law_lot", "_law_start", "_law_look", "_law_answer", "_law_seen", "_law_story", "_law_ground", "_law_open", "_law_into", "_law_fit", "_law_paper_right", "_law_judged_so", "_law_bent_lots", "_law_bent_paper"]
def loose : List PySem.Str := lo0 ++ lo1 ++ lo2
def asL : List PySem.Addr := [3, 6, 4, 21, 39, 59, 78, 97, 116, 135, 154, 173, 193, 213, 222, 229, 234, 241, 248, 255, 262, 269, 359, 368, 375, 380, 385, 390, 397, 404, 409, 414, 419, 426, 431, 438, 445, 452, 457, 464, 471, 478, 485, 492, 499, 504, 509, 514, 521, 528, 535, 542, 549, 554, 561, 568, 573, 580, 587, 594, 601, 606, 611, 618, 625, 630, 635, 640, 645, 652, 657, 662, 669, 674, 681, 686, 691, 696, 701, 708, 713, 720, 725, 0, 20, 38, 58, 77, 96, 115, 134, 153, 172, 192, 212, 221, 228, 233, 240, 247, 254, 261, 268, 358, 367, 374, 379, 384, 389, 396, 403, 408, 413, 418, 425, 430, 437, 444, 451, 456, 463, 470, 477, 484, 491, 498, 503, 508, 513, 520, 527, 534, 541, 548, 553, 560, 567, 572, 579, 586, 593, 600, 605, 610, 617, 624, 629, 634, 639, 644, 651, 656, 661, 668, 673, 680, 685, 690, 695, 700, 707, 712, 719, 724, 15, 16, 17, 18, 19, 36, 37, 40, 56, 57, 75, 76, 94, 95, 113, 114, 132, 133, 151, 152, 170, 171, 190, 191, 194, 210, 211, 216, 217, 218, 219, 220, 223, 224, 225, 226, 227, 230, 231, 232, 235, 236, 237, 238, 239, 242, 243, 244, 245, 246, 249, 250, 251, 252, 253, 256, 257, 258, 259, 260, 263, 264, 265, 266, 267, 283, 290, 297, 304, 309, 316, 323, 330, 337, 344, 349, 356, 357, 360, 361, 364, 365, 366, 369, 370, 371, 372, 373, 376, 377, 378, 381, 382, 383, 386, 387, 388, 391, 392, 393, 394, 395, 398, 399, 400, 401, 402, 405, 406, 407, 410, 411, 412, 415, 416, 417, 420, 421, 422, 423, 424, 427, 428, 429, 432, 433, 434, 435, 436, 439, 440, 441, 442, 443, 446, 447, 448, 449, 450, 453, 454, 455, 458, 459, 460, 461, 462, 465, 466, 467, 468, 469, 472, 473, 474, 475, 476, 479, 480, 481, 482, 483, 486, 487, 488, 489, 490, 493, 494, 495, 496, 497, 500, 501, 502, 505, 506, 507, 510, 511, 512, 515, 516, 517, 518, 519, 522, 523, 524, 525, 526, 529, 530, 531, 532, 533, 536, 537, 538, 539, 540, 543, 544, 545, 546, 547, 550, 551, 552, 555, 556, 557, 558, 559, 562, 563, 564, 565, 566, 569, 570, 571, 574, 575, 576, 577, 578, 581, 582, 583, 584, 585, 588, 589, 590, 591, 592, 595, 596, 597, 598, 599, 602, 603, 604, 607, 608, 609, 612, 613, 614, 615, 616, 619, 620, 621, 622, 623, 626, 627, 628, 631, 632, 633, 636, 637, 638, 641, 642, 643, 646, 647, 648, 649, 650, 653, 654, 655, 658, 659, 660, 663, 664, 665, 666, 667, 670, 671, 672, 675, 676, 677, 678, 679, 682, 683, 684, 687, 688, 689, 692, 693, 694, 697, 698, 699, 702, 703, 704, 705, 706, 709, 710, 711, 714, 715, 716, 717, 718, 721, 722, 723, 35, 29, 55, 74, 93, 112, 131, 150, 169, 189, 183, 209, 282, 278, 289, 296, 303, 308, 315, 322, 329, 336, 343, 348, 355]
abbrev hkL : PySem.W.Hook where
  α := He.AlD
  obs := fun s => He.obsD fa fn (He.frG s.heap.get? asL)
  val := fun _ => He.valD fn
  says := fun _ h => ∃ K : PySem.W.Frag, K.In h ∧ He.SaysD fa fn K
  of := fun _ _ e => ⟨_, He.frG_in, e⟩
  keeps := fun _ _ _ ⟨K, hK, c⟩ k => ⟨K, PySem.W.Frag.In.keeps hK k, c⟩
def obL (s : PySem.W.SharedT) : He.AlD := He.obsD fa fn (He.frG (HandSHeadRun.getT s) asL)
theorem obL_eq (s : PySem.W.SharedT) : obL s = hkL.obs s.abs := by
  have e : HandSHeadRun.getT s = s.abs.heap.get? := funext (HandSHeadRun.getT_eq s)
  unfold obL
  rw [e] <;> rfl
theorem run (w : World) : HandSHeadRun.RunEq R (PySem.W.view R.prog [92]) hkL obL 9000 loose w := by
  intro os
  kernel_rfl
end RL
namespace RL
open PySem PySem.Spec PyProof.Rows L2
/-- what the top has left, by names -/
structure Tx (K : PySem.W.Frag) (mg : Str → Option Value) : Prop where
  sa : He.SaysD fa fn K
  hg : ∀ x, (He.Fa.glo x).ok K = true → mg x = some (.ref (He.ga K x))
  hf : ∀ x, (He.Fa.free x).ok K = true → mg x = none
  hi : ∀ x i, (He.Fa.int x i).ok K = true → ∃ t, mg x = some (.int i t)
/-- the class -/
abbrev cB (K : PySem.W.Frag) : Addr := He.ga K "Board"
abbrev mB (K : PySem.W.Frag) (m : Str) : Addr := He.ma K (He.ga K "Board") m
abbrev mC (K : PySem.W.Frag) (C m : Str) : Addr := He.ma K (He.ga K C) m
section
variable {K : PySem.W.Frag} {mg : Str → Option Value}
theorem Tx.glo_is_number (T : Tx K mg) : mg "is_number" = some (.ref (He.ga K "is_number")) := T.hg _ (T.sa.fact 0)
theorem Tx.glo_is_between (T : Tx K mg) : mg "is_between" = some (.ref (He.ga K "is_between")) := T.hg _ (T.sa.fact 1)
theorem Tx.glo_is_lot (T : Tx K mg) : mg "is_lot" = some (.ref (He.ga K "is_lot")) := T.hg _ (T.sa.fact 2)
theorem Tx.glo_check_lot (T : Tx K mg) : mg "check_lot" = some (.ref (He.ga K "check_lot")) := T.hg _ (T.sa.fact 3)
theorem Tx.glo_is_filled_lot (T : Tx K mg) : mg "is_filled_lot" = some (.ref (He.ga K "is_filled_lot")) := T.hg _ (T.sa.fact 4)
theorem Tx.glo_rising_ways (T : Tx K mg) : mg "rising_ways" = some (.ref (He.ga K "rising_ways")) := T.hg _ (T.sa.fact 5)
theorem Tx.glo_fars_from (T : Tx K mg) : mg "fars_from" = some (.ref (He.ga K "fars_from")) := T.hg _ (T.sa.fact 6)
theorem Tx.glo_way_text (T : Tx K mg) : mg "way_text" = some (.ref (He.ga K "way_text")) := T.hg _ (T.sa.fact 7)
theorem Tx.glo_is_pace (T : Tx K mg) : mg "is_pace" = some (.ref (He.ga K "is_pace")) := T.hg _ (T.sa.fact 8)
theorem Tx.glo_check_pace (T : Tx K mg) : mg "check_pace" = some (.ref (He.ga K "check_pace")) := T.hg _ (T.sa.fact 9)
theorem Tx.glo_step (T : Tx K mg) : mg "step" = some (.ref (He.ga K "step")) := T.hg _ (T.sa.fact 10)
theorem Tx.glo_before (T : Tx K mg) : mg "before" = some (.ref (He.ga K "before")) := T.hg _ (T.sa.fact 11)
theorem Tx.glo_are_parts (T : Tx K mg) : mg "are_parts" = some (.ref (He.ga K "are_parts")) := T.hg _ (T.sa.fact 12)
theorem Tx.glo_is_look (T : Tx K mg) : mg "is_look" = some (.ref (He.ga K "is_look")) := T.hg _ (T.sa.fact 13)
theorem Tx.glo_near_answer (T : Tx K mg) : mg "near_answer" = some (.ref (He.ga K "near_answer")) := T.hg _ (T.sa.fact 14)
theorem Tx.glo_answers (T : Tx K mg) : mg "answers" = some (.ref (He.ga K "answers")) := T.hg _ (T.sa.fact 15)
theorem Tx.glo_lot_of (T : Tx K mg) : mg "lot_of" = some (.ref (He.ga K "lot_of")) := T.hg _ (T.sa.fact 16)
theorem Tx.glo_are_paces (T : Tx K mg) : mg "are_paces" = some (.ref (He.ga K "are_paces")) := T.hg _ (T.sa.fact 17)
theorem Tx.glo_is_triple (T : Tx K mg) : mg "is_triple" = some (.ref (He.ga K "is_triple")) := T.hg _ (T.sa.fact 18)
theorem Tx.glo_are_triples (T : Tx K mg) : mg "are_triples" = some (.ref (He.ga K "are_triples")) := T.hg _ (T.sa.fact 19)
theorem Tx.glo_look_story (T : Tx K mg) : mg "look_story" = some (.ref (He.ga K "look_story")) := T.hg _ (T.sa.fact 20)
theorem Tx.glo_last_beat (T : Tx K mg) : mg "last_beat" = some (.ref (He.ga K "last_beat")) := T.hg _ (T.sa.fact 21)
theorem Tx.glo_check_beat (T : Tx K mg) : mg "check_beat" = some (.ref (He.ga K "check_beat")) := T.hg _ (T.sa.fact 22)
theorem Tx.glo_meet (T : Tx K mg) : mg "meet" = some (.ref (He.ga K "meet")) := T.hg _ (T.sa.fact 23)
theorem Tx.glo_answering (T : Tx K mg) : mg "answering" = some (.ref (He.ga K "answering")) := T.hg _ (T.sa.fact 24)
theorem Tx.glo_next_lot (T : Tx K mg) : mg "next_lot" = some (.ref (He.ga K "next_lot")) := T.hg _ (T.sa.fact 25)
theorem Tx.glo_forth (T : Tx K mg) : mg "forth" = some (.ref (He.ga K "forth")) := T.hg _ (T.sa.fact 26)
theorem Tx.glo_back (T : Tx K mg) : mg "back" = some (.ref (He.ga K "back")) := T.hg _ (T.sa.fact 27)
theorem Tx.glo_next_places (T : Tx K mg) : mg "next_places" = some (.ref (He.ga K "next_places")) := T.hg _ (T.sa.fact 28)
theorem Tx.glo_is_walk (T : Tx K mg) : mg "is_walk" = some (.ref (He.ga K "is_walk")) := T.hg _ (T.sa.fact 29)
theorem Tx.glo_missed (T : Tx K mg) : mg "missed" = some (.ref (He.ga K "missed")) := T.hg _ (T.sa.fact 30)
theorem Tx.glo_onward_counts (T : Tx K mg) : mg "onward_counts" = some (.ref (He.ga K "onward_counts")) := T.hg _ (T.sa.fact 31)
theorem Tx.glo_count_all (T : Tx K mg) : mg "count_all" = some (.ref (He.ga K "count_all")) := T.hg _ (T.sa.fact 32)
theorem Tx.glo_pick (T : Tx K mg) : mg "pick" = some (.ref (He.ga K "pick")) := T.hg _ (T.sa.fact 33)
theorem Tx.glo_counted_walk (T : Tx K mg) : mg "counted_walk" = some (.ref (He.ga K "counted_walk")) := T.hg _ (T.sa.fact 34)
theorem Tx.glo_fits (T : Tx K mg) : mg "fits" = some (.ref (He.ga K "fits")) := T.hg _ (T.sa.fact 35)
theorem Tx.glo_walk_by (T : Tx K mg) : mg "walk_by" = some (.ref (He.ga K "walk_by")) := T.hg _ (T.sa.fact 36)
theorem Tx.glo_paper (T : Tx K mg) : mg "paper" = some (.ref (He.ga K "paper")) := T.hg _ (T.sa.fact 37)
theorem Tx.glo_all_have (T : Tx K mg) : mg "all_have" = some (.ref (He.ga K "all_have")) := T.hg _ (T.sa.fact 38)
theorem Tx.glo_shut_ahead (T : Tx K mg) : mg "shut_ahead" = some (.ref (He.ga K "shut_ahead")) := T.hg _ (T.sa.fact 39)
theorem Tx.glo_shut_behind (T : Tx K mg) : mg "shut_behind" = some (.ref (He.ga K "shut_behind")) := T.hg _ (T.sa.fact 40)
theorem Tx.glo_holds (T : Tx K mg) : mg "holds" = some (.ref (He.ga K "holds")) := T.hg _ (T.sa.fact 41)
theorem Tx.glo_law_box (T : Tx K mg) : mg "_law_box" = some (.ref (He.ga K "_law_box")) := T.hg _ (T.sa.fact 42)
theorem Tx.glo_law_pick (T : Tx K mg) : mg "_law_pick" = some (.ref (He.ga K "_law_pick")) := T.hg _ (T.sa.fact 43)
theorem Tx.glo_law_from (T : Tx K mg) : mg "_law_from" = some (.ref (He.ga K "_law_from")) := T.hg _ (T.sa.fact 44)
theorem Tx.glo_law_mixed (T : Tx K mg) : mg "_law_mixed" = some (.ref (He.ga K "_law_mixed")) := T.hg _ (T.sa.fact 45)
theorem Tx.glo_law_same (T : Tx K mg) : mg "_law_same" = some (.ref (He.ga K "_law_same")) := T.hg _ (T.sa.fact 46)
theorem Tx.glo_law_ways (T : Tx K mg) : mg "_law_ways" = some (.ref (He.ga K "_law_ways")) := T.hg _ (T.sa.fact 47)
theorem Tx.glo_law_board (T : Tx K mg) : mg "_law_board" = some (.ref (He.ga K "_law_board")) := T.hg _ (T.sa.fact 48)
theorem Tx.glo_law_made (T : Tx K mg) : mg "_law_made" = some (.ref (He.ga K "_law_made")) := T.hg _ (T.sa.fact 49)
theorem Tx.glo_law_spans (T : Tx K mg) : mg "_law_spans" = some (.ref (He.ga K "_law_spans")) := T.hg _ (T.sa.fact 50)
theorem Tx.glo_law_pace (T : Tx K mg) : mg "_law_pace" = some (.ref (He.ga K "_law_pace")) := T.hg _ (T.sa.fact 51)
theorem Tx.glo_law_reached (T : Tx K mg) : mg "_law_reached" = some (.ref (He.ga K "_law_reached")) := T.hg _ (T.sa.fact 52)
theorem Tx.glo_law_lot (T : Tx K mg) : mg "_law_lot" = some (.ref (He.ga K "_law_lot")) := T.hg _ (T.sa.fact 53)
theorem Tx.glo_law_start (T : Tx K mg) : mg "_law_start" = some (.ref (He.ga K "_law_start")) := T.hg _ (T.sa.fact 54)
theorem Tx.glo_law_look (T : Tx K mg) : mg "_law_look" = some (.ref (He.ga K "_law_look")) := T.hg _ (T.sa.fact 55)
theorem Tx.glo_law_answer (T : Tx K mg) : mg "_law_answer" = some (.ref (He.ga K "_law_answer")) := T.hg _ (T.sa.fact 56)
theorem Tx.glo_law_seen (T : Tx K mg) : mg "_law_seen" = some (.ref (He.ga K "_law_seen")) := T.hg _ (T.sa.fact 57)
theorem Tx.glo_law_story (T : Tx K mg) : mg "_law_story" = some (.ref (He.ga K "_law_story")) := T.hg _ (T.sa.fact 58)
theorem Tx.glo_law_ground (T : Tx K mg) : mg "_law_ground" = some (.ref (He.ga K "_law_ground")) := T.hg _ (T.sa.fact 59)
theorem Tx.glo_law_open (T : Tx K mg) : mg "_law_open" = some (.ref (He.ga K "_law_open")) := T.hg _ (T.sa.fact 60)
theorem Tx.glo_law_into (T : Tx K mg) : mg "_law_into" = some (.ref (He.ga K "_law_into")) := T.hg _ (T.sa.fact 61)
theorem Tx.glo_law_fit (T : Tx K mg) : mg "_law_fit" = some (.ref (He.ga K "_law_fit")) := T.hg _ (T.sa.fact 62)
theorem Tx.glo_law_paper_right (T : Tx K mg) : mg "_law_paper_right" = some (.ref (He.ga K "_law_paper_right")) := T.hg _ (T.sa.fact 63)
theorem Tx.glo_law_judged_so (T : Tx K mg) : mg "_law_judged_so" = some (.ref (He.ga K "_law_judged_so")) := T.hg _ (T.sa.fact 64)
theorem Tx.glo_law_bent_lots (T : Tx K mg) : mg "_law_bent_lots" = some (.ref (He.ga K "_law_bent_lots")) := T.hg _ (T.sa.fact 65)
theorem Tx.glo_law_bent_paper (T : Tx K mg) : mg "_law_bent_paper" = some (.ref (He.ga K "_law_bent_paper")) := T.hg _ (T.sa.fact 66)
theorem Tx.glo_law (T : Tx K mg) : mg "law" = some (.ref (He.ga K "law")) := T.hg _ (T.sa.fact 67)
theorem Tx.glo_Board (T : Tx K mg) : mg "Board" = some (.ref (He.ga K "Board")) := T.hg _ (T.sa.fact 68)
theorem Tx.free_abs (T : Tx K mg) : mg "abs" = none := T.hf _ (T.sa.fact 69)
theorem Tx.free_all (T : Tx K mg) : mg "all" = none := T.hf _ (T.sa.fact 70)
theorem Tx.free_any (T : Tx K mg) : mg "any" = none := T.hf _ (T.sa.fact 71)
theorem Tx.free_bool (T : Tx K mg) : mg "bool" = none := T.hf _ (T.sa.fact 72)
theorem Tx.free_enumerate (T : Tx K mg) : mg "enumerate" = none := T.hf _ (T.sa.fact 73)
theorem Tx.free_int (T : Tx K mg) : mg "int" = none := T.hf _ (T.sa.fact 74)
theorem Tx.free_isinstance (T : Tx K mg) : mg "isinstance" = none := T.hf _ (T.sa.fact 75)
theorem Tx.free_len (T : Tx K mg) : mg "len" = none := T.hf _ (T.sa.fact 76)
theorem Tx.free_list (T : Tx K mg) : mg "list" = none := T.hf _ (T.sa.fact 77)
theorem Tx.free_max (T : Tx K mg) : mg "max" = none := T.hf _ (T.sa.fact 78)
theorem Tx.free_min (T : Tx K mg) : mg "min" = none := T.hf _ (T.sa.fact 79)
theorem Tx.free_range (T : Tx K mg) : mg "range" = none := T.hf _ (T.sa.fact 80)
theorem Tx.free_repr (T : Tx K mg) : mg "repr" = none := T.hf _ (T.sa.fact 81)
theorem Tx.free_set (T : Tx K mg) : mg "set" = none := T.hf _ (T.sa.fact 82)
theorem Tx.free_sorted (T : Tx K mg) : mg "sorted" = none := T.hf _ (T.sa.fact 83)
theorem Tx.free_str (T : Tx K mg) : mg "str" = none := T.hf _ (T.sa.fact 84)
theorem Tx.free_sum (T : Tx K mg) : mg "sum" = none := T.hf _ (T.sa.fact 85)
theorem Tx.free_tuple (T : Tx K mg) : mg "tuple" = none := T.hf _ (T.sa.fact 86)
theorem Tx.free_zip (T : Tx K mg) : mg "zip" = none := T.hf _ (T.sa.fact 87)
theorem Tx.glob_MOST_PLACES (T : Tx K mg) : ∃ t, mg "MOST_PLACES" = some (.int 8 t) := T.hi _ _ (T.sa.fact 88)
theorem Tx.glob_MOST_PACE (T : Tx K mg) : ∃ t, mg "MOST_PACE" = some (.int 7 t) := T.hi _ _ (T.sa.fact 89)
theorem Tx.glob_MOST_BEATS (T : Tx K mg) : ∃ t, mg "MOST_BEATS" = some (.int 12 t) := T.hi _ _ (T.sa.fact 90)
theorem Tx.glob_MOST_NEAR (T : Tx K mg) : ∃ t, mg "MOST_NEAR" = some (.int 7 t) := T.hi _ _ (T.sa.fact 91)
theorem Tx.glob_MOST_TRIPLES (T : Tx K mg) : ∃ t, mg "MOST_TRIPLES" = some (.int 24 t) := T.hi _ _ (T.sa.fact 92)
theorem Tx.cl (T : Tx K mg) : Cls K (cB K) := He.cls_ok (T.sa.fact 93)
theorem Tx.mkB (T : Tx K mg) : Mk K (cB K) (mB K "__init__") := He.mkr_ok (T.sa.fact 94)
theorem Tx.n_many (T : Tx K mg) : NoAttr K (cB K) "many" := He.noat_ok (T.sa.fact 95)
theorem Tx.n_pairs (T : Tx K mg) : NoAttr K (cB K) "pairs" := He.noat_ok (T.sa.fact 96)
theorem Tx.n_leads (T : Tx K mg) : NoAttr K (cB K) "leads" := He.noat_ok (T.sa.fact 97)
theorem Tx.n_fars (T : Tx K mg) : NoAttr K (cB K) "fars" := He.noat_ok (T.sa.fact 98)
theorem Tx.m_ways (T : Tx K mg) : Meth K (cB K) "ways" (mB K "ways") := He.meth_ok (T.sa.fact 99)
theorem Tx.m_far (T : Tx K mg) : Meth K (cB K) "far" (mB K "far") := He.meth_ok (T.sa.fact 100)
theorem Tx.m_within (T : Tx K mg) : Meth K (cB K) "within" (mB K "within") := He.meth_ok (T.sa.fact 101)
theorem Tx.m_check_place (T : Tx K mg) : Meth K (cB K) "check_place" (mB K "check_place") := He.meth_ok (T.sa.fact 102)
theorem Tx.m_len (T : Tx K mg) : Meth K (cB K) "__len__" (mB K "__len__") := He.meth_ok (T.sa.fact 103)
theorem Tx.d_is_number (T : Tx K mg) : ∃ fd, FnP K "is_number" "is_number" s_is_number [] (He.ga K "is_number") fd := T.sa.def_ 0 (d := _root_.RL.d_is_number) rfl
theorem Tx.d_is_between (T : Tx K mg) : ∃ fd, FnP K "is_between" "is_between" s_is_between [] (He.ga K "is_between") fd := T.sa.def_ 1 (d := _root_.RL.d_is_between) rfl
theorem Tx.d_is_lot (T : Tx K mg) : ∃ fd, FnP K "is_lot" "is_lot" s_is_lot [] (He.ga K "is_lot") fd := T.sa.def_ 2 (d := _root_.RL.d_is_lot) rfl
theorem Tx.d_check_lot (T : Tx K mg) : ∃ fd, FnP K "check_lot" "check_lot" s_check_lot [] (He.ga K "check_lot") fd := T.sa.def_ 3 (d := _root_.RL.d_check_lot) rfl
theorem Tx.d_is_filled_lot (T : Tx K mg) : ∃ fd, FnP K "is_filled_lot" "is_filled_lot" s_is_filled_lot [] (He.ga K "is_filled_lot") fd := T.sa.def_ 4 (d := _root_.RL.d_is_filled_lot) rfl
theorem Tx.d_rising_ways (T : Tx K mg) : ∃ fd, FnP K "rising_ways" "rising_ways" s_rising_ways [] (He.ga K "rising_ways") fd := T.sa.def_ 5 (d := _root_.RL.d_rising_ways) rfl
theorem Tx.d_fars_from (T : Tx K mg) : ∃ fd, FnP K "fars_from" "fars_from" s_fars_from [] (He.ga K "fars_from") fd := T.sa.def_ 6 (d := _root_.RL.d_fars_from) rfl
theorem Tx.d_way_text (T : Tx K mg) : ∃ fd, FnP K "way_text" "way_text" s_way_text [] (He.ga K "way_text") fd := T.sa.def_ 7 (d := _root_.RL.d_way_text) rfl
theorem Tx.d_Board_init (T : Tx K mg) : ∃ fd, FnP K "__init__" "Board.__init__" s_Board_init [V.ref (He.dflAt ("Board", some "__init__") 0 K)] (mB K "__init__") fd := T.sa.def_ 8 (d := _root_.RL.d_Board_init) rfl
theorem Tx.d_Board_ways (T : Tx K mg) : ∃ fd, FnP K "ways" "Board.ways" s_Board_ways [] (mB K "ways") fd := T.sa.def_ 9 (d := _root_.RL.d_Board_ways) rfl
theorem Tx.d_Board_far (T : Tx K mg) : ∃ fd, FnP K "far" "Board.far" s_Board_far [] (mB K "far") fd := T.sa.def_ 10 (d := _root_.RL.d_Board_far) rfl
theorem Tx.d_Board_within (T : Tx K mg) : ∃ fd, FnP K "within" "Board.within" s_Board_within [] (mB K "within") fd := T.sa.def_ 11 (d := _root_.RL.d_Board_within) rfl
theorem Tx.d_Board_check_place (T : Tx K mg) : ∃ fd, FnP K "check_place" "Board.check_place" s_Board_check_place [] (mB K "check_place") fd := T.sa.def_ 12 (d := _root_.RL.d_Board_check_place) rfl
theorem Tx.d_Board_len (T : Tx K mg) : ∃ fd, FnP K "__len__" "Board.__len__" s_Board_len [] (mB K "__len__") fd := T.sa.def_ 13 (d := _root_.RL.d_Board_len) rfl
theorem Tx.d_is_pace (T : Tx K mg) : ∃ fd, FnP K "is_pace" "is_pace" s_is_pace [] (He.ga K "is_pace") fd := T.sa.def_ 14 (d := _root_.RL.d_is_pace) rfl
theorem Tx.d_check_pace (T : Tx K mg) : ∃ fd, FnP K "check_pace" "check_pace" s_check_pace [] (He.ga K "check_pace") fd := T.sa.def_ 15 (d := _root_.RL.d_check_pace) rfl
theorem Tx.d_step (T : Tx K mg) : ∃ fd, FnP K "step" "step" s_step [] (He.ga K "step") fd := T.sa.def_ 16 (d := _root_.RL.d_step) rfl
theorem Tx.d_before (T : Tx K mg) : ∃ fd, FnP K "before" "before" s_before [] (He.ga K "before") fd := T.sa.def_ 17 (d := _root_.RL.d_before) rfl
theorem Tx.d_are_parts (T : Tx K mg) : ∃ fd, FnP K "are_parts" "are_parts" s_are_parts [] (He.ga K "are_parts") fd := T.sa.def_ 18 (d := _root_.RL.d_are_parts) rfl
theorem Tx.d_is_look (T : Tx K mg) : ∃ fd, FnP K "is_look" "is_look" s_is_look [] (He.ga K "is_look") fd := T.sa.def_ 19 (d := _root_.RL.d_is_look) rfl
theorem Tx.d_near_answer (T : Tx K mg) : ∃ fd, FnP K "near_answer" "near_answer" s_near_answer [] (He.ga K "near_answer") fd := T.sa.def_ 20 (d := _root_.RL.d_near_answer) rfl
theorem Tx.d_answers (T : Tx K mg) : ∃ fd, FnP K "answers" "answers" s_answers [] (He.ga K "answers") fd := T.sa.def_ 21 (d := _root_.RL.d_answers) rfl
theorem Tx.d_lot_of (T : Tx K mg) : ∃ fd, FnP K "lot_of" "lot_of" s_lot_of [] (He.ga K "lot_of") fd := T.sa.def_ 22 (d := _root_.RL.d_lot_of) rfl
theorem Tx.d_are_paces (T : Tx K mg) : ∃ fd, FnP K "are_paces" "are_paces" s_are_paces [] (He.ga K "are_paces") fd := T.sa.def_ 23 (d := _root_.RL.d_are_paces) rfl
theorem Tx.d_is_triple (T : Tx K mg) : ∃ fd, FnP K "is_triple" "is_triple" s_is_triple [] (He.ga K "is_triple") fd := T.sa.def_ 24 (d := _root_.RL.d_is_triple) rfl
theorem Tx.d_are_triples (T : Tx K mg) : ∃ fd, FnP K "are_triples" "are_triples" s_are_triples [] (He.ga K "are_triples") fd := T.sa.def_ 25 (d := _root_.RL.d_are_triples) rfl
theorem Tx.d_look_story (T : Tx K mg) : ∃ fd, FnP K "look_story" "look_story" s_look_story [] (He.ga K "look_story") fd := T.sa.def_ 26 (d := _root_.RL.d_look_story) rfl
theorem Tx.d_last_beat (T : Tx K mg) : ∃ fd, FnP K "last_beat" "last_beat" s_last_beat [] (He.ga K "last_beat") fd := T.sa.def_ 27 (d := _root_.RL.d_last_beat) rfl
theorem Tx.d_check_beat (T : Tx K mg) : ∃ fd, FnP K "check_beat" "check_beat" s_check_beat [] (He.ga K "check_beat") fd := T.sa.def_ 28 (d := _root_.RL.d_check_beat) rfl
theorem Tx.d_meet (T : Tx K mg) : ∃ fd, FnP K "meet" "meet" s_meet [] (He.ga K "meet") fd := T.sa.def_ 29 (d := _root_.RL.d_meet) rfl
theorem Tx.d_answering (T : Tx K mg) : ∃ fd, FnP K "answering" "answering" s_answering [] (He.ga K "answering") fd := T.sa.def_ 30 (d := _root_.RL.d_answering) rfl
theorem Tx.d_next_lot (T : Tx K mg) : ∃ fd, FnP K "next_lot" "next_lot" s_next_lot [] (He.ga K "next_lot") fd := T.sa.def_ 31 (d := _root_.RL.d_next_lot) rfl
theorem Tx.d_forth (T : Tx K mg) : ∃ fd, FnP K "forth" "forth" s_forth [] (He.ga K "forth") fd := T.sa.def_ 32 (d := _root_.RL.d_forth) rfl
theorem Tx.d_back (T : Tx K mg) : ∃ fd, FnP K "back" "back" s_back [] (He.ga K "back") fd := T.sa.def_ 33 (d := _root_.RL.d_back) rfl
theorem Tx.d_next_places (T : Tx K mg) : ∃ fd, FnP K "next_places" "next_places" s_next_places [] (He.ga K "next_places") fd := T.sa.def_ 34 (d := _root_.RL.d_next_places) rfl
theorem Tx.d_is_walk (T : Tx K mg) : ∃ fd, FnP K "is_walk" "is_walk" s_is_walk [] (He.ga K "is_walk") fd := T.sa.def_ 35 (d := _root_.RL.d_is_walk) rfl
theorem Tx.d_missed (T : Tx K mg) : ∃ fd, FnP K "missed" "missed" s_missed [] (He.ga K "missed") fd := T.sa.def_ 36 (d := _root_.RL.d_missed) rfl
theorem Tx.d_onward_counts (T : Tx K mg) : ∃ fd, FnP K "onward_counts" "onward_counts" s_onward_counts [] (He.ga K "onward_counts") fd := T.sa.def_ 37 (d := _root_.RL.d_onward_counts) rfl
theorem Tx.d_count_all (T : Tx K mg) : ∃ fd, FnP K "count_all" "count_all" s_count_all [] (He.ga K "count_all") fd := T.sa.def_ 38 (d := _root_.RL.d_count_all) rfl
theorem Tx.d_pick (T : Tx K mg) : ∃ fd, FnP K "pick" "pick" s_pick [] (He.ga K "pick") fd := T.sa.def_ 39 (d := _root_.RL.d_pick) rfl
theorem Tx.d_counted_walk (T : Tx K mg) : ∃ fd, FnP K "counted_walk" "counted_walk" s_counted_walk [] (He.ga K "counted_walk") fd := T.sa.def_ 40 (d := _root_.RL.d_counted_walk) rfl
theorem Tx.d_fits (T : Tx K mg) : ∃ fd, FnP K "fits" "fits" s_fits [] (He.ga K "fits") fd := T.sa.def_ 41 (d := _root_.RL.d_fits) rfl
theorem Tx.d_walk_by (T : Tx K mg) : ∃ fd, FnP K "walk_by" "walk_by" s_walk_by [] (He.ga K "walk_by") fd := T.sa.def_ 42 (d := _root_.RL.d_walk_by) rfl
theorem Tx.d_paper (T : Tx K mg) : ∃ fd, FnP K "paper" "paper" s_paper [] (He.ga K "paper") fd := T.sa.def_ 43 (d := _root_.RL.d_paper) rfl
theorem Tx.d_all_have (T : Tx K mg) : ∃ fd, FnP K "all_have" "all_have" s_all_have [] (He.ga K "all_have") fd := T.sa.def_ 44 (d := _root_.RL.d_all_have) rfl
theorem Tx.d_shut_ahead (T : Tx K mg) : ∃ fd, FnP K "shut_ahead" "shut_ahead" s_shut_ahead [] (He.ga K "shut_ahead") fd := T.sa.def_ 45 (d := _root_.RL.d_shut_ahead) rfl
theorem Tx.d_shut_behind (T : Tx K mg) : ∃ fd, FnP K "shut_behind" "shut_behind" s_shut_behind [] (He.ga K "shut_behind") fd := T.sa.def_ 46 (d := _root_.RL.d_shut_behind) rfl
theorem Tx.d_holds (T : Tx K mg) : ∃ fd, FnP K "holds" "holds" s_holds [] (He.ga K "holds") fd := T.sa.def_ 47 (d := _root_.RL.d_holds) rfl
theorem Tx.d__law_box (T : Tx K mg) : ∃ fd, FnP K "_law_box" "_law_box" s__law_box [] (He.ga K "_law_box") fd := T.sa.def_ 48 (d := _root_.RL.d__law_box) rfl
theorem Tx.d__law_pick (T : Tx K mg) : ∃ fd, FnP K "_law_pick" "_law_pick" s__law_pick [] (He.ga K "_law_pick") fd := T.sa.def_ 49 (d := _root_.RL.d__law_pick) rfl
theorem Tx.d__law_from (T : Tx K mg) : ∃ fd, FnP K "_law_from" "_law_from" s__law_from [] (He.ga K "_law_from") fd := T.sa.def_ 50 (d := _root_.RL.d__law_from) rfl
theorem Tx.d__law_mixed (T : Tx K mg) : ∃ fd, FnP K "_law_mixed" "_law_mixed" s__law_mixed [] (He.ga K "_law_mixed") fd := T.sa.def_ 51 (d := _root_.RL.d__law_mixed) rfl
theorem Tx.d__law_same (T : Tx K mg) : ∃ fd, FnP K "_law_same" "_law_same" s__law_same [] (He.ga K "_law_same") fd := T.sa.def_ 52 (d := _root_.RL.d__law_same) rfl
theorem Tx.d__law_ways (T : Tx K mg) : ∃ fd, FnP K "_law_ways" "_law_ways" s__law_ways [] (He.ga K "_law_ways") fd := T.sa.def_ 53 (d := _root_.RL.d__law_ways) rfl
theorem Tx.d__law_board (T : Tx K mg) : ∃ fd, FnP K "_law_board" "_law_board" s__law_board [] (He.ga K "_law_board") fd := T.sa.def_ 54 (d := _root_.RL.d__law_board) rfl
theorem Tx.d__law_made (T : Tx K mg) : ∃ fd, FnP K "_law_made" "_law_made" s__law_made [] (He.ga K "_law_made") fd := T.sa.def_ 55 (d := _root_.RL.d__law_made) rfl
theorem Tx.d__law_spans (T : Tx K mg) : ∃ fd, FnP K "_law_spans" "_law_spans" s__law_spans [] (He.ga K "_law_spans") fd := T.sa.def_ 56 (d := _root_.RL.d__law_spans) rfl
theorem Tx.d__law_pace (T : Tx K mg) : ∃ fd, FnP K "_law_pace" "_law_pace" s__law_pace [] (He.ga K "_law_pace") fd := T.sa.def_ 57 (d := _root_.RL.d__law_pace) rfl
theorem Tx.d__law_reached (T : Tx K mg) : ∃ fd, FnP K "_law_reached" "_law_reached" s__law_reached [] (He.ga K "_law_reached") fd := T.sa.def_ 58 (d := _root_.RL.d__law_reached) rfl
theorem Tx.d__law_lot (T : Tx K mg) : ∃ fd, FnP K "_law_lot" "_law_lot" s__law_lot [] (He.ga K "_law_lot") fd := T.sa.def_ 59 (d := _root_.RL.d__law_lot) rfl
theorem Tx.d__law_start (T : Tx K mg) : ∃ fd, FnP K "_law_start" "_law_start" s__law_start [] (He.ga K "_law_start") fd := T.sa.def_ 60 (d := _root_.RL.d__law_start) rfl
theorem Tx.d__law_look (T : Tx K mg) : ∃ fd, FnP K "_law_look" "_law_look" s__law_look [] (He.ga K "_law_look") fd := T.sa.def_ 61 (d := _root_.RL.d__law_look) rfl
theorem Tx.d__law_answer (T : Tx K mg) : ∃ fd, FnP K "_law_answer" "_law_answer" s__law_answer [] (He.ga K "_law_answer") fd := T.sa.def_ 62 (d := _root_.RL.d__law_answer) rfl
theorem Tx.d__law_seen (T : Tx K mg) : ∃ fd, FnP K "_law_seen" "_law_seen" s__law_seen [] (He.ga K "_law_seen") fd := T.sa.def_ 63 (d := _root_.RL.d__law_seen) rfl
theorem Tx.d__law_story (T : Tx K mg) : ∃ fd, FnP K "_law_story" "_law_story" s__law_story [] (He.ga K "_law_story") fd := T.sa.def_ 64 (d := _root_.RL.d__law_story) rfl
theorem Tx.d__law_ground (T : Tx K mg) : ∃ fd, FnP K "_law_ground" "_law_ground" s__law_ground [] (He.ga K "_law_ground") fd := T.sa.def_ 65 (d := _root_.RL.d__law_ground) rfl
theorem Tx.d__law_open (T : Tx K mg) : ∃ fd, FnP K "_law_open" "_law_open" s__law_open [] (He.ga K "_law_open") fd := T.sa.def_ 66 (d := _root_.RL.d__law_open) rfl
theorem Tx.d__law_into (T : Tx K mg) : ∃ fd, FnP K "_law_into" "_law_into" s__law_into [] (He.ga K "_law_into") fd := T.sa.def_ 67 (d := _root_.RL.d__law_into) rfl
theorem Tx.d__law_fit (T : Tx K mg) : ∃ fd, FnP K "_law_fit" "_law_fit" s__law_fit [] (He.ga K "_law_fit") fd := T.sa.def_ 68 (d := _root_.RL.d__law_fit) rfl
theorem Tx.d__law_paper_right (T : Tx K mg) : ∃ fd, FnP K "_law_paper_right" "_law_paper_right" s__law_paper_right [] (He.ga K "_law_paper_right") fd := T.sa.def_ 69 (d := _root_.RL.d__law_paper_right) rfl
theorem Tx.d__law_judged_so (T : Tx K mg) : ∃ fd, FnP K "_law_judged_so" "_law_judged_so" s__law_judged_so [] (He.ga K "_law_judged_so") fd := T.sa.def_ 70 (d := _root_.RL.d__law_judged_so) rfl
theorem Tx.d__law_bent_lots (T : Tx K mg) : ∃ fd, FnP K "_law_bent_lots" "_law_bent_lots" s__law_bent_lots [] (He.ga K "_law_bent_lots") fd := T.sa.def_ 71 (d := _root_.RL.d__law_bent_lots) rfl
theorem Tx.d__law_bent_paper (T : Tx K mg) : ∃ fd, FnP K "_law_bent_paper" "_law_bent_paper" s__law_bent_paper [] (He.ga K "_law_bent_paper") fd := T.sa.def_ 72 (d := _root_.RL.d__law_bent_paper) rfl
theorem Tx.d_law (T : Tx K mg) : ∃ fd, FnP K "law" "law" s_law [] (He.ga K "law") fd := T.sa.def_ 73 (d := _root_.RL.d_law) rfl
end
/-- a def keeps its promise -/
structure Has (P : Program) (w : World) (K : PySem.W.Frag) (mg : Str → Option Value) (base : Heap) (f : Addr) (k : Nat) (ps : List Str) (sp : Sp) : Prop where
  ex : ∃ fd, FnOk P w K mg base CX0 k f fd ps sp ∧ Binds K fd ps []
  kp : PySem.W.keepIn K (.ref f) = true
end RL
/-! Walks on a board, how far places are, lots: plain mathematics. -/
namespace RLM
/-- a walk of so many ways -/
inductive Wk (E : List (Nat × Nat)) : Nat → Nat → Nat → Prop where
  | z (a : Nat) : Wk E 0 a a
  | s {k a b c : Nat} (h : Wk E k a b) (e : (b, c) ∈ E) : Wk E (k + 1) a c
def Near (E : List (Nat × Nat)) (m : Int) (a b : Nat) : Prop := ∃ k : Nat, (k : Int) ≤ m ∧ Wk E k a b
/-- all ways lie on n places -/
def On (n : Nat) (E : List (Nat × Nat)) : Prop := ∀ p ∈ E, p.1 < n ∧ p.2 < n ∧ p.1 ≠ p.2
theorem Wk.lt {n : Nat} {E : List (Nat × Nat)} (h : On n E) {k a b : Nat} (w : Wk E k a b) (ha : a < n) : b < n := by
  induction w with
  | z a => exact ha
  | s w e ih => exact (h _ e).2.1
theorem Wk.left {E : List (Nat × Nat)} {k a b c : Nat} (e : (a, b) ∈ E) (w : Wk E k b c) : Wk E (k + 1) a c := by
  induction w with
  | z b => exact .s (.z a) e
  | s w e2 ih => exact .s (ih e) e2
theorem Wk.turn {E F : List (Nat × Nat)} (h : ∀ a b, (a, b) ∈ E → (b, a) ∈ F) {k a b : Nat} (w : Wk E k a b) : Wk F k b a := by
  induction w with
  | z a => exact .z a
  | s w e ih => exact ih.left (h _ _ e)
theorem Wk.map {E F : List (Nat × Nat)} (f : Nat → Nat) (h : ∀ a b, (a, b) ∈ E → (f a, f b) ∈ F) {k a b : Nat} (w : Wk E k a b) : Wk F k (f a) (f b) := by
  induction w with
  | z a => exact .z _
  | s w e ih => exact .s ih (h _ _ e)
theorem Wk.mono {E F : List (Nat × Nat)} (h : ∀ p, p ∈ E → p ∈ F) {k a b : Nat} (w : Wk E k a b) : Wk F k a b := by
  induction w with
  | z a => exact .z _
  | s w e ih => exact .s ih (h _ e)
theorem near_refl {E : List (Nat × Nat)} {m : Int} {a : Nat} (h : 0 ≤ m) : Near E m a a := ⟨0, h, .z a⟩
theorem near_mono {E : List (Nat × Nat)} {m m' : Int} {a b : Nat} (h : m ≤ m') (x : Near E m a b) : Near E m' a b := by
  obtain ⟨k, h1, h2⟩ := x
  exact ⟨k, Int.le_trans h1 h, h2⟩
theorem near_turn {E F : List (Nat × Nat)} (h : ∀ a b, (a, b) ∈ E ↔ (b, a) ∈ F) {m : Int} {a b : Nat} : Near E m a b ↔ Near F m b a := by
  constructor
  · rintro ⟨k, h1, h2⟩
    exact ⟨k, h1, h2.turn fun a b => (h a b).1⟩
  · rintro ⟨k, h1, h2⟩
    exact ⟨k, h1, h2.turn fun a b => (h b a).2⟩
/-! ### how far: breadth first -/
/-- the lists of how far while the places that are l far are looked at -/
structure Lev (n : Nat) (E : List (Nat × Nat)) (a l : Nat) (fs : List (Option Nat)) (edge : List Nat) : Prop where
  len : fs.length = n
  some_ : ∀ (b d : Nat), fs[b]? = some (some d) → d ≤ l ∧ Wk E d a b ∧ ∀ k, Wk E k a b → d ≤ k
  none_ : ∀ b : Nat, fs[b]? = some none → ∀ k, Wk E k a b → l < k
  edge_ : ∀ b, b ∈ edge ↔ fs[b]? = some (some l)
theorem lev_start {n : Nat} {E : List (Nat × Nat)} {a : Nat} (ha : a < n) : Lev n E a 0 ((List.replicate n none).set a (some 0)) [a] := by
  refine ⟨by simp, fun b d h => ?_, fun b h k w => ?_, fun b => ?_⟩
  · rw [List.getElem?_set] at h
    by_cases e : a = b
    · subst e
      simp [ha] at h
      subst h
      exact ⟨Nat.le_refl _, .z _, fun k _ => Nat.zero_le _⟩
    · rw [if_neg e, List.getElem?_replicate] at h
      split at h <;> simp at h
  · rw [List.getElem?_set] at h
    by_cases e : a = b
    · subst e
      simp [ha] at h
    · cases w with
      | z => exact absurd rfl e
      | s w e2 => omega
  · rw [List.getElem?_set]
    by_cases e : a = b
    · subst e
      simp [ha]
    · rw [if_neg e, List.getElem?_replicate]
      simp
      exact fun h => e h.symm
/-- within a level: done are the ends looked at -/
structure Mid (n : Nat) (E : List (Nat × Nat)) (l : Nat) (fs0 : List (Option Nat)) (edge done : List Nat) (fs : List (Option Nat)) (bey : List Nat) : Prop where
  len : fs.length = n
  old : ∀ (b d : Nat), fs0[b]? = some (some d) → fs[b]? = some (some d)
  new : ∀ (b d : Nat), fs[b]? = some (some d) → fs0[b]? = some (some d) ∨ (fs0[b]? = some none ∧ d = l + 1 ∧ b ∈ bey)
  bey_ : ∀ b : Nat, b ∈ bey → fs0[b]? = some none ∧ fs[b]? = some (some (l + 1)) ∧ ∃ c, c ∈ edge ∧ (c, b) ∈ E
  done_ : ∀ o : Nat, o ∈ done → ∃ d, fs[o]? = some (some d)
  cnt : fs.count none + bey.length = fs0.count none
theorem mid_start {n l : Nat} {E : List (Nat × Nat)} {fs0 : List (Option Nat)} {edge : List Nat} (h : fs0.length = n) : Mid n E l fs0 edge [] fs0 [] :=
  ⟨h, fun _ _ h => h, fun _ _ h => .inl h, fun _ h => (by cases h), fun _ h => (by cases h), by simp⟩
theorem count_set : ∀ (fs : List (Option Nat)) (o d : Nat), fs[o]? = some none → (fs.set o (some d)).count none + 1 = fs.count none
  | [], o, d, h => by simp at h
  | x :: r, 0, d, h => by
    simp at h
    subst h
    simp
  | x :: r, o + 1, d, h => by
    simp at h
    have ih := count_set r o d h
    rw [List.set_cons_succ, List.count_cons, List.count_cons]
    omega
theorem Mid.hit {n l : Nat} {E : List (Nat × Nat)} {fs0 fs : List (Option Nat)} {edge done bey : List Nat} {o d : Nat} (M : Mid n E l fs0 edge done fs bey) (h : fs[o]? = some (some d)) : Mid n E l fs0 edge (done ++ [o]) fs bey :=
  ⟨M.len, M.old, M.new, M.bey_, fun p hp => (List.mem_append.mp hp).elim (M.done_ p) (fun hq => ⟨d, by rw [List.mem_singleton.mp hq]; exact h⟩), M.cnt⟩
theorem Mid.put {n l : Nat} {E : List (Nat × Nat)} {fs0 fs : List (Option Nat)} {edge done bey : List Nat} {o c : Nat} (M : Mid n E l fs0 edge done fs bey) (h0 : fs0.length = n) (h : fs[o]? = some none) (hc : c ∈ edge) (he : (c, o) ∈ E) :
    Mid n E l fs0 edge (done ++ [o]) (fs.set o (some (l + 1))) (bey ++ [o]) := by
  have hl : o < fs.length := (List.getElem?_eq_some_iff.mp h).1
  have h00 : fs0[o]? = some none := by
    have h1 : o < fs0.length := by rw [h0, ← M.len]; exact hl
    rw [List.getElem?_eq_getElem h1]
    cases e : fs0[o] with
    | none => rfl
    | some d =>
      have q := M.old o d (by rw [List.getElem?_eq_getElem h1, e])
      rw [h] at q
      cases q
  refine ⟨by simp [M.len], fun b d hb => ?_, fun b d hb => ?_, fun b hb => ?_, fun p hp => ?_, ?_⟩
  · have q := M.old b d hb
    rw [List.getElem?_set]
    by_cases e : o = b
    · subst e
      rw [h] at q
      cases q
    · rw [if_neg e]
      exact q
  · rw [List.getElem?_set] at hb
    by_cases e : o = b
    · subst e
      simp [hl] at hb
      exact .inr ⟨h00, hb.symm, by simp⟩
    · rw [if_neg e] at hb
      rcases M.new b d hb with q | ⟨q1, q2, q3⟩
      · exact .inl q
      · exact .inr ⟨q1, q2, List.mem_append_left _ q3⟩
  · rcases List.mem_append.mp hb with hb | hb
    · obtain ⟨q1, q2, q3⟩ := M.bey_ b hb
      refine ⟨q1, ?_, q3⟩
      rw [List.getElem?_set]
      by_cases e : o = b
      · subst e
        simp [hl]
      · rw [if_neg e]
        exact q2
    · rw [List.mem_singleton.mp hb]
      exact ⟨h00, by simp [hl], c, hc, he⟩
  · rw [List.getElem?_set]
    by_cases e : o = p
    · subst e
      exact ⟨l + 1, by simp [hl]⟩
    · rw [if_neg e]
      rcases List.mem_append.mp hp with hp | hp
      · exact M.done_ p hp
      · exact absurd (List.mem_singleton.mp hp).symm e
  · have q := count_set fs o (l + 1) h
    have q2 := M.cnt
    rw [List.length_append]
    simp
    omega
/-- a level's end -/
theorem Mid.next {n l a : Nat} {E : List (Nat × Nat)} {fs0 fs : List (Option Nat)} {edge done bey : List Nat} (M : Mid n E l fs0 edge done fs bey) (L : Lev n E a l fs0 edge) (hE : On n E) (ha : a < n) (hd : ∀ c o, c ∈ edge → (c, o) ∈ E → o ∈ done) : Lev n E a (l + 1) fs bey := by
  have key : ∀ b, fs[b]? = some none → fs0[b]? = some none := fun b h => by
    have hl : b < fs.length := (List.getElem?_eq_some_iff.mp h).1
    have h1 : b < fs0.length := by rw [L.len, ← M.len]; exact hl
    rw [List.getElem?_eq_getElem h1]
    cases e : fs0[b] with
    | none => rfl
    | some d =>
      have q := M.old b d (by rw [List.getElem?_eq_getElem h1, e])
      rw [h] at q
      cases q
  refine ⟨M.len, fun b d h => ?_, fun b h k w => ?_, fun b => ⟨fun h => (M.bey_ b h).2.1, fun h => ?_⟩⟩
  · rcases M.new b d h with q | ⟨q1, q2, q3⟩
    · obtain ⟨r1, r2, r3⟩ := L.some_ b d q
      exact ⟨Nat.le_succ_of_le r1, r2, r3⟩
    · subst q2
      obtain ⟨_, _, c, hc, he⟩ := M.bey_ b q3
      have r := (L.some_ c l ((L.edge_ c).1 hc)).2.1
      exact ⟨Nat.le_refl _, .s r he, fun k w => L.none_ b q1 k w⟩
  · have h0 := key b h
    have q := L.none_ b h0 k w
    rcases Nat.lt_or_ge (l + 1) k with c | c
    · exact c
    · exfalso
      have e : k = l + 1 := by omega
      subst e
      cases w with
      | s w e =>
        rename_i c
        have hc : c < n := w.lt hE ha
        have hcl : c < fs0.length := by rw [L.len]; exact hc
        have hcs : fs0[c]? = some (some l) := by
          rw [List.getElem?_eq_getElem hcl]
          cases z : fs0[c] with
          | none =>
            have := L.none_ c (by rw [List.getElem?_eq_getElem hcl, z]) l w
            omega
          | some d =>
            have hz : fs0[c]? = some (some d) := by rw [List.getElem?_eq_getElem hcl, z]
            obtain ⟨r1, r2, r3⟩ := L.some_ c d hz
            have r4 := r3 l w
            have r5 : l + 1 ≤ d + 1 := by
              have := L.none_ b h0 (d + 1) (.s r2 e)
              omega
            have : d = l := by omega
            rw [this]
        obtain ⟨d, hd2⟩ := M.done_ b (hd c b ((L.edge_ c).2 hcs) e)
        rw [h] at hd2
        cases hd2
  · rcases M.new b (l + 1) h with q | ⟨_, _, q3⟩
    · have := (L.some_ b _ q).1
      omega
    · exact q3
/-- what a list of how far tells -/
def Fars (n : Nat) (E : List (Nat × Nat)) (a : Nat) (fs : List (Option Nat)) : Prop := fs.length = n ∧ ∀ (b : Nat) (d : Option Nat), fs[b]? = some d → (∀ m : Int, (∃ k : Nat, d = some k ∧ (k : Int) ≤ m) ↔ Near E m a b)
theorem Lev.fars {n l a : Nat} {E : List (Nat × Nat)} {fs : List (Option Nat)} (L : Lev n E a l fs []) (hE : On n E) (ha : a < n) : Fars n E a fs := by
  have all : ∀ k b, Wk E k a b → ∃ d, fs[b]? = some (some d) := by
    intro k
    induction k with
    | zero =>
      intro b w
      cases w
      have hl : a < fs.length := by rw [L.len]; exact ha
      cases z : fs[a] with
      | none =>
        have := L.none_ a (by rw [List.getElem?_eq_getElem hl, z]) 0 (.z a)
        omega
      | some d => exact ⟨d, by rw [List.getElem?_eq_getElem hl, z]⟩
    | succ k ih =>
      intro b w
      have hb : b < n := w.lt hE ha
      have hbl : b < fs.length := by rw [L.len]; exact hb
      cases w with
      | s w e =>
        rename_i c
        obtain ⟨d, hd⟩ := ih c w
        obtain ⟨r1, r2, r3⟩ := L.some_ c d hd
        have r4 : d ≠ l := fun z => by
          subst z
          have := (L.edge_ c).2 hd
          cases this
        cases z : fs[b] with
        | none =>
          have := L.none_ b (by rw [List.getElem?_eq_getElem hbl, z]) (d + 1) (.s r2 e)
          omega
        | some d2 => exact ⟨d2, by rw [List.getElem?_eq_getElem hbl, z]⟩
  refine ⟨L.len, fun b d h m => ⟨?_, ?_⟩⟩
  · rintro ⟨k, rfl, hk⟩
    exact ⟨k, hk, (L.some_ b k h).2.1⟩
  · rintro ⟨k, hk, w⟩
    obtain ⟨d2, hd2⟩ := all k b w
    rw [h] at hd2
    have e : d = some d2 := Option.some.inj hd2
    subst e
    have := (L.some_ b d2 h).2.2 k w
    exact ⟨d2, rfl, by omega⟩
/-! ### lots -/
open Classical in
noncomputable def lotP (n : Nat) (p : Nat → Prop) : List Nat := (List.range n).filter fun b => decide (p b)
open Classical in
theorem mem_lotP {n : Nat} {p : Nat → Prop} {b : Nat} : b ∈ lotP n p ↔ b < n ∧ p b := by
  unfold lotP
  rw [List.mem_filter, List.mem_range, decide_eq_true_iff]
open Classical in
theorem lotP_congr {n : Nat} {p q : Nat → Prop} (h : ∀ b, b < n → (p b ↔ q b)) : lotP n p = lotP n q := by
  unfold lotP
  refine List.filter_congr fun b hb => ?_
  rw [decide_eq_decide]
  exact h b (List.mem_range.mp hb)
theorem sorted_eq : ∀ {xs ys : List Nat}, xs.Pairwise (· < ·) → ys.Pairwise (· < ·) → (∀ b, b ∈ xs ↔ b ∈ ys) → xs = ys
  | [], [], _, _, _ => rfl
  | [], y :: ys, _, _, h => by
    have := (h y).2 (by simp)
    cases this
  | x :: xs, [], _, _, h => by
    have := (h x).1 (by simp)
    cases this
  | x :: xs, y :: ys, h1, h2, h => by
    rw [List.pairwise_cons] at h1 h2
    have exy : x = y := by
      rcases List.mem_cons.mp ((h x).1 (by simp)) with e | e
      · exact e
      · rcases List.mem_cons.mp ((h y).2 (by simp)) with e2 | e2
        · exact e2.symm
        · have a := h1.1 y e2
          have b := h2.1 x e
          omega
    subst exy
    congr 1
    refine sorted_eq h1.2 h2.2 fun b => ⟨fun hb => ?_, fun hb => ?_⟩
    · rcases List.mem_cons.mp ((h b).1 (List.mem_cons_of_mem _ hb)) with e | e
      · have := h1.1 b hb
        omega
      · exact e
    · rcases List.mem_cons.mp ((h b).2 (List.mem_cons_of_mem _ hb)) with e | e
      · have := h2.1 b hb
        omega
      · exact e
theorem range_sorted (n : Nat) : (List.range n).Pairwise (· < ·) := List.pairwise_lt_range
theorem lotP_sorted (n : Nat) (p : Nat → Prop) : (lotP n p).Pairwise (· < ·) := (range_sorted n).filter _
theorem lotP_of {n : Nat} {p : Nat → Prop} {xs : List Nat} (h : xs.Pairwise (· < ·)) (hm : ∀ b, b ∈ xs ↔ b < n ∧ p b) : xs = lotP n p :=
  sorted_eq h (lotP_sorted n p) fun b => (hm b).trans mem_lotP.symm
theorem lotP_len (n : Nat) (p : Nat → Prop) : (lotP n p).length ≤ n := by
  have := List.length_filter_le (fun b => @decide (p b) (Classical.propDecidable _)) (List.range n)
  rw [List.length_range] at this
  exact this
end RLM
/-! Rules that this program wants besides: len of an own object, sorted and set of a tuple, a tuple's index and multiple, enumerate of a tuple. -/
namespace RL
open PySem PySem.Spec PyProof.Rows L2
section
variable {X : Cx}
/-- set(t), t a tuple of ints -/
def rSetT (w : World) (K : PySem.W.Frag) : List V → Hp → VK → Prop := fun vs H Q => ∃ (a : Addr) (ns : List Int), vs = [.ref a] ∧ SqT K H a (ns.map V.int) ∧ ns.length ≤ 1000 ∧
  ∀ (p : Addr) (c : Nat), H p = none → c ≤ ns.length → Q (.ref p) (upd H p (SetO w p (fun j => decide (j ∈ ns)) c))
theorem cr_setT (hc : X.calm = true) : CallR X (.type "set") (rSetT X.w X.K) := by
  intro pins s σ H vs us Q I r h
  obtain ⟨a, ns, rfl, hs, hz, q⟩ := h
  obtain ⟨its, rv, ht, _⟩ := I.tuple hs
  rw [Vals.ref1 r]
  have hi : IntsAre its.toArray.toList ns := by simpa using rv.ints
  refine call_set_tupI ns (I.ok.hd hc) ht hi (Nat.lt_of_le_of_lt (Nat.succ_le_succ hz) (by decide)) fun h' tk c R hcl hk => ?_
  have fr : H s.heap.objs.size = none := I.hok.fresh (Nat.le_refl _)
  exact ⟨.ref _, _, I.laid hk (Nat.le_refl _) (setO_new R), rfl, q _ c fr hcl⟩
/-- sorted(t), t a tuple of ints, fewer than 64 -/
def rSortT (K : PySem.W.Frag) : List V → Hp → VK → Prop := fun vs H Q => ∃ (a : Addr) (ns : List Int), vs = [.ref a] ∧ SqT K H a (ns.map V.int) ∧ ns.length < 64 ∧
  ∀ (ms : List Int) (p : Addr), ms.Perm ns → ms.Pairwise (· ≤ ·) → H p = none → Q (.ref p) (upd H p (.lst (ms.map V.int)))
theorem cr_sortTup : CallR X (.builtin "sorted") (rSortT X.K) := by
  intro pins s σ H vs us Q I r h
  obtain ⟨a, ns, rfl, hs, h64, q⟩ := h
  obtain ⟨its, rv, ⟨o, ho, hcl, nn, hd⟩, _⟩ := I.tuple hs
  rw [Vals.ref1 r]
  have hi := rv.ints
  have hle : its.length = ns.length := hi.length
  refine Calls.call_function_entry kind_sorted plain_sorted entry_sorted (args_sorted1 _) ?_
  unfold Builtin.«sorted»
  refine wpAny_bind (m := checkCount "sorted" 1 1 _) (wpAny_pure ?_)
  refine wpAny_bind (wpAny_collect_seq a (.inr rfl) ho hcl hd (fun h1 k1 => ?_) (by rw [List.size_toArray, hle, sizeLine_eq]; omega))
  refine wpAny_bind (wpAny_newList ?_ (by rw [sizeLine_eq]; simp; omega))
  have at1 : (h1.push (seqObj "list" its.toArray 0)).get? h1.objs.size = some (seqObj "list" its.toArray 0) := Heap.get?_push_size _ rfl
  refine wpAny_bind (wpAny_holding (wpAny_call_entry slot_list_sort ⟨_, at1, rfl⟩ entry_list_sort (list_sort_tree at1 hi (by omega) fun out ms a1 a2 a3 => ⟨_, rfl, ?_⟩) (args_list_sort _)))
  refine wpAny_pure ⟨_, rfl, ?_⟩
  have I1 : Inv X pins σ H { s with heap := h1 } := I.kept (t' := s.toks) k1
  obtain ⟨ep, he⟩ := PyProof.Rows.sortedHeap_at (vs := its) (out := out) at1
  have hlen : (ms.map V.int).length ≤ sizeLine := by rw [List.length_map, a2.length_eq, sizeLine_eq]; omega
  refine ⟨.ref h1.objs.size, upd H h1.objs.size (.lst (ms.map V.int)), I1.laid (t' := s.toks) (fun b ob e => ?_) (Nat.le_refl _) ⟨hlen, out.toList, ep, vals_of_ints a1, by simpa using he⟩, rfl, q ms _ a2 a3 (I1.hok.fresh (Nat.le_refl _))⟩
  rw [PyProof.Rows.sortedHeap_old (Nat.ne_of_lt (Heap.lt_size e)) (by rw [Heap.size_push]; exact Nat.lt_succ_of_lt (Heap.lt_size e))]
  exact Heap.get?_push_of_some _ e
/-- t.index(k), ints: the first place -/
theorem flat_ints (ys : List Int) : (ys.map V.int).all flatV = true := by
  rw [List.all_map]
  exact List.all_eq_true.mpr fun _ _ => rfl
def rTupIx (K : PySem.W.Frag) : V → List V → Hp → VK → Prop := fun x xs H Q => ∃ (p : Addr) (ys : List Int) (z : Int) (j : Nat), x = .ref p ∧ xs = [.int z] ∧ SqT K H p (ys.map V.int) ∧ ys[j]? = some z ∧ (∀ m : Nat, m < j → ys[m]? ≠ some z) ∧ Q (.int (j : Nat)) H
theorem mt_tupIx : MtR X "tuple.index" (rTupIx X.K) := by
  intro pins s σ H x xs v us Q I rx rs h
  obtain ⟨p, ys, z, j, rfl, rfl, hq, hy, hno, q⟩ := h
  cases rx
  obtain ⟨u, rfl, t, rfl⟩ := vals1 rs
  obtain ⟨its, r, ⟨⟨cls, dd, dt, sl⟩, ho, hc, n, hd⟩, hz⟩ := I.tuple hq
  cases (show cls = _ from hc)
  cases (show dt = _ from hd)
  have hl : its.length = ys.length := by rw [← r.length, List.length_map]
  have each : ∀ (m : Nat) (hm : m < its.toArray.size), ∃ y t', ys[m]? = some y ∧ its.toArray[m] = Value.int y t' := fun m hm => by
    have hm2 : m < ys.length := by rw [← hl]; simpa using hm
    obtain ⟨wv, hw, t', hw'⟩ := r.get (i := m) (x := .int ys[m]) (by simp [hm2])
    refine ⟨ys[m], t', List.getElem?_eq_getElem hm2, ?_⟩
    have e := (List.getElem?_eq_some_iff.mp hw).2
    rw [← hw', ← e]
    simp
  have hj : j < its.toArray.size := by
    rw [List.size_toArray, hl]
    exact (List.getElem?_eq_some_iff.mp hy).1
  refine call_meets PySem.F.slot_tuple_index ⟨_, ho, rfl⟩ PySem.F.entry_tuple_index (PySem.F.args_tuple_index_2 _ _) (TI.tuple_indexAt p its.toArray n dd sl (.int z t) (eqU (.int z)) j hj ?_ ?_)
    ⟨ho, fun wv hw => mem_eqAt (x := .int z) ⟨t, rfl⟩ rfl r (flat_ints ys) wv (by simpa using hw), ⟨.int (j : Nat), H, I.tok _, ⟨_, rfl⟩, q⟩⟩
  · obtain ⟨y, t', h1, h2⟩ := each j hj
    rw [hy] at h1
    cases h1
    rw [h2]
    show decide (z = z) = true
    simp
  · intro m hm hmj
    obtain ⟨y, t', h1, h2⟩ := each m hm
    rw [h2]
    have e : y ≠ z := fun e => hno m hmj (e ▸ h1)
    show decide (y = z) = false
    simp [e]
end
end RL
namespace RL
open PySem PySem.Spec PyProof.Rows L2
open AutoSeq1 (wpAny_loadPart')
/-- t * 1 is t -/
theorem tuple_mul1 (l : Addr) (items : Array Value) (n : Nat) (dd : Option Addr) (sl : Array (Option Value)) (u : Tok) :
    Meets (Builtin.«tuple.__mul__» ⟨[.ref l, .int 1 u], []⟩) (fun _ R s => s.heap.get? l = some { cls := .type "tuple", dict := dd, data := .seq items n, slots := sl } ∧ R (.ok (.ret (.ref l))) s) :=
  .of_wp fun prog w A R s h => by
    obtain ⟨hp, g, d, tk, os⟩ := s
    obtain ⟨hl, h⟩ := h
    have f1 := AutoSeq1.idx_int
    have c1 : (items.isEmpty || (1 : Int) == 1) = true := by simp
    wp_walk using wpAny_loadPart' hl
    exact ⟨_, rfl, h⟩
set_option maxHeartbeats 1000000 in
theorem meets_enum_tup {v : Value} {o : Obj} {H : Heap → Prop} (B : Begins v o H) :
    Meets (Builtin.«enumerate.__new__» ⟨[.type "enumerate", v], []⟩) (fun _ R s => H s.heap ∧
      R (.ok (.ret (.ref (s.heap.push o).objs.size))) { s with heap := (s.heap.push o).push { cls := .type "enumerate", data := .fields #[.none, .bool false, .ref s.heap.objs.size, rawInt 0, .none, .none] } }) :=
  .of_wp fun P0 w0 A R s hh => by
    obtain ⟨hp, g, d, tk, os⟩ := s
    have hsub := sub_enumerate
    have draw : ∀ {A1 : Around} {E1 : Value → Shared → Prop} {Q1 : Value → Shared → Prop}, Q1 (.ref hp.objs.size) ⟨hp.push o, g, d, tk, os⟩ → wpAny (model P0 w0) A1 (pyIter v) Q1 E1 ⟨hp, g, d, tk, os⟩ :=
      fun z => B.iter P0 w0 _ _ ⟨hp, g, d, tk, os⟩ _ hh.1 z
    have fin := hh.2
    wp_walk using draw
    refine wpAny_stack_any fun st => wpAny_pure ?_
    split
    · rename_i c _ _ _ _ _
      cases (c == Value.type "enumerate")
      all_goals
        wp_walk using draw
        exact ⟨_, rfl, fin⟩
    · wp_walk using draw
      exact ⟨_, rfl, fin⟩
theorem call_enum_tup {prog : Program} {w : World} {A : Around} {E : Value → Shared → Prop} {s : Shared} {t : Addr} {items : Array Value} {Q : Value → Shared → Prop} (ht : s.heap.IsTuple t items)
    (h : ∀ h', IsEnum h' (s.heap.objs.size + 1) s.heap.objs.size 0 .none → h'.IsTupleIter s.heap.objs.size t 0 → (∀ b o, s.heap.get? b = some o → h'.get? b = some o) → Q (.ref (s.heap.objs.size + 1)) { s with heap := h' }) :
    wpAny (model prog w) A (call (.type "enumerate") [.ref t]) Q E s := by
  refine callType_new F.called_enumerate (by decide) (F.typeCall_enumerate_1 _) (F.newCall_enumerate_1 _) (fun ob => F.args_object_init_2 ob _) F.entry_enumerate_new (meets_enum_tup (begins_tuple t items)) ⟨ht, ?_⟩
  generalize ho1 : ({ cls := .type "tuple_iterator", data := .fields #[.ref t, .int 0 0] } : Obj) = o1
  have fr1 : o1.isFreed = false := by rw [← ho1]; rfl
  generalize ho2 : ({ cls := .type "enumerate", data := .fields #[.none, .bool false, .ref s.heap.objs.size, rawInt 0, .none, .none] } : Obj) = o2
  have z1 : (s.heap.push o1).objs.size = s.heap.objs.size + 1 := Heap.size_push ..
  have g2 : ((s.heap.push o1).push o2).get? (s.heap.objs.size + 1) = some o2 := by
    rw [← z1]
    exact Heap.get?_push_size _ (by rw [← ho2]; rfl)
  have g1 : ((s.heap.push o1).push o2).get? s.heap.objs.size = some o1 := Heap.get?_push_of_some _ (Heap.get?_push_size _ fr1)
  show _ ∧ _
  rw [z1]
  refine ⟨⟨o2, g2, by rw [← ho2]⟩, h _ (by rw [← ho2] at g2 ⊢; exact g2) ⟨o1, g1, by rw [← ho1], by rw [← ho1]; rfl⟩ fun b o e => Heap.get?_push_of_some _ (Heap.get?_push_of_some _ e)⟩
/-- a tuple at a, its items in new pairs with their numbers -/
def Itu (K : PySem.W.Frag) (a : Addr) : It :=
  ⟨fun i H => ∃ (xs : List V) (x : V), SqT K H a xs ∧ xs[i]? = some x, fun i H v H' => ∃ T x, v = .ref T ∧ H T = none ∧ H' = upd H T (.tup [.int (i : Nat), x]) ∧ ∀ xs, SqT K H a xs → xs[i]? = some x, fun i H => ∃ xs : List V, SqT K H a xs ∧ xs.length = i⟩
theorem turn_enumT {P : Program} {w : World} {K : PySem.W.Frag} {elts : List Expr} {kk : Nat} {tpos : Pos} (a e it : Addr) (hne : e ≠ it) (hai : a ≠ it) (hea : e ≠ a) :
    Turn P w K (.Tuple elts kk tpos) (Itu K a) [e, it] e (fun i h => (∃ old, IsEnum h e it ((i : Nat) : Int) old) ∧ h.IsTupleIter it a i) where
  mem := by simp
  obj := fun i h st b hb => by
    obtain ⟨⟨old, he⟩, ⟨o, ho, hc, hd⟩⟩ := st
    have z : b = e ∨ b = it := by simpa using hb
    rcases z with z | z
    · rw [z]
      exact ⟨_, he, fun v q => nomatch q⟩
    · rw [z]
      exact ⟨o, ho, fun v q => by rw [hd] at q; cases q⟩
  keep := fun i h h' st k => ⟨st.1.imp fun old he => k e (by simp) _ he, st.2.at fun o q => k it (by simp) o q⟩
  item := by
    intro X hP hw hK hc i pins s σ H E I hf st hg
    subst hP hw hK
    obtain ⟨⟨old, he⟩, hit⟩ := st
    obtain ⟨xs, x, hq, hx⟩ := hg
    obtain ⟨its, rv, ht, hz⟩ := I.tuple hq
    obtain ⟨u, hu, ru⟩ := rv.get hx
    have hi : i < its.toArray.size := by
      rw [List.size_toArray]
      exact (List.getElem?_eq_some_iff.mp hu).1
    have el : e < s.heap.objs.size := Heap.lt_size he
    have il : it < s.heap.objs.size := by
      obtain ⟨_, q, _⟩ := hit
      exact Heap.lt_size q
    refine wpAny_pyNext_enum_itemD (Draws.tuple (A := X.A.in1) (show X.A.in1.handled = none from I.ok.hd hc) it a hai its.toArray) he ⟨hit, ht⟩ hi hne (by simp [hne, hea]) fun y h' tk py ho st' hT hsz hk => ?_
    have ey : y = u := by
      have q : its[i]? = some y := by simpa using py
      rw [hu] at q
      exact (Option.some.inj q).symm
    subst ey
    refine ⟨_, rfl, wpAny_letOwnedTupleGo_enum (s := { s with heap := h', toks := tk + 1 }) ho fun h'' he' sb => ?_⟩
    have hT2 : h''.get? s.heap.objs.size = some { cls := .type "tuple", data := .seq #[.int i tk, y] } := (sb.2 _ (Nat.ne_of_gt el)).trans hT
    have new : ObjOk X.prog X.w (upd H s.heap.objs.size (.tup [.int (i : Nat), x])) h'' s.heap.objs.size (.tup [.int (i : Nat), x]) :=
      ⟨by show 2 ≤ sizeLine; decide, [.int i tk, y], .cons ⟨_, rfl⟩ (.cons ru .nil), ⟨_, hT2, rfl, _, rfl⟩⟩
    have I1 : Inv X pins σ (upd H s.heap.objs.size (.tup [.int (i : Nat), x])) { s with heap := h'', toks := tk + 1 } :=
      I.turnedNew (ch := [e, it]) (fun b ob hb q => (sb.2 b (fun z => hb (by simp [z]))).trans (hk b ob (fun z => hb (by simp [z])) (fun z => hb (by simp [z])) q)) hf (Nat.le_refl _) new
    refine ⟨.ref s.heap.objs.size, _, I1, rfl, ⟨_, x, rfl, I.hok.fresh (Nat.le_refl _), rfl, fun ys hy => by rw [I.tuple_inj hy hq]; exact hx⟩, ⟨⟨y, by simpa using he'⟩, st'.1.at fun o q => (sb.2 it (Ne.symm hne)).trans q⟩, fun b hb => ?_⟩
    have lt : b < s.heap.objs.size := by
      have z : b = e ∨ b = it := by simpa using hb
      rcases z with z | z
      · rw [z]; exact el
      · rw [z]; exact il
    rw [upd_ne (Nat.ne_of_lt lt)]
    exact (hf b hb).1
  done := by
    intro X hP hw hK hc i pins s σ H E I hf st hg
    subst hP hw hK
    obtain ⟨⟨old, he⟩, hit⟩ := st
    obtain ⟨xs, hq, hx⟩ := hg
    obtain ⟨its, rv, ht, hz⟩ := I.tuple hq
    obtain ⟨f0, f1, f2, f3, f4, f5⟩ := hf it (by simp)
    have hl : its.toArray.size = i := by
      rw [List.size_toArray, ← rv.length]
      exact hx
    exact wpAny_pyNext_enum_endD (Draws.tuple (A := X.A.in1) (show X.A.in1.handled = none from I.ok.hd hc) it a hai its.toArray) he (by rw [hl]; exact ⟨hit, ht⟩) fun h' eb => ⟨rfl, I.turned (t' := s.toks) (fun b o hb q => eb b o hb q) f0 f1 f3 f4 f5⟩
  self := fun A i s Q E st h => wpAny_pyIter_enum st.1.choose_spec h
def iEnumT (K : PySem.W.Frag) (ta : TA) : TI := fun σ H R => ta σ H fun vs H1 => ∃ a xs, vs = [.ref a] ∧ SqT K H1 a xs ∧ R (Itu K a) H1
theorem pi_enumT {X : Cx} {e : Expr} {ta : TA} {p pos tpos : Pos} {elts : List Expr} {kk : Nat} (hg : Gl X "enumerate") (hm : X.mg "enumerate" = none) (ha : PA X [e] ta) (hs : starEach [e] X.env = [(false, eval e X.env)] := by rfl) :
    PI X (.Tuple elts kk tpos) (.Call (.Name "enumerate" p) [e] [] pos) (iEnumT X.K ta) := by
  refine ⟨fun pins s σ H R I h => ?_⟩
  refine Call_ (ld_blt I hg hm boot_enumerate (PyProof.Rows.callWith_type1 (thn (ha.run pos pins s σ H _ I h) fun us s1 ⟨vs, H1, I1, r1, q1⟩ => ?_) hs rfl))
  obtain ⟨a, xs, ex, hq, q⟩ := q1
  subst ex
  rw [Vals.ref1 r1]
  obtain ⟨its, rv, ht, hz⟩ := I1.tuple hq
  have al : a < s1.heap.objs.size := by
    obtain ⟨o, ho, _⟩ := ht
    exact Heap.lt_size ho
  refine call_enum_tup ht fun h' he hit hk => wpAny_pyIter_enum he ?_
  have I2 : Inv X pins σ H1 { s1 with heap := h' } := I1.kept (t' := s1.toks) hk
  refine ⟨s1.heap.objs.size + 1, [s1.heap.objs.size + 1, s1.heap.objs.size], _, _, H1, rfl, I2, turn_enumT a (s1.heap.objs.size + 1) s1.heap.objs.size (Nat.succ_ne_self _) (Nat.ne_of_lt al) (Nat.ne_of_gt (Nat.lt_succ_of_lt al)), ⟨⟨.none, he⟩, hit⟩, fun b hb => ?_, q⟩
  have hle : s1.heap.objs.size ≤ b := by
    have z : b = s1.heap.objs.size + 1 ∨ b = s1.heap.objs.size := by simpa using hb
    rcases z with z | z
    · rw [z]; exact Nat.le_succ _
    · rw [z]; exact Nat.le_refl _
  exact I1.fpOk hle (I1.hok.fresh hle)
theorem walk_enumT {K : PySem.W.Frag} {a : Addr} {xs : List V} : Walk (Itu K a) xs.length (fun H => SqT K H a xs) (YPair (fun i => some (.int (i : Nat))) (fun i => xs[i]?)) := by
  refine ⟨fun i H hi q => ⟨xs, xs[i], q, by simp [hi]⟩, fun H q => ⟨xs, q, rfl⟩, fun i H v H' hi q y => ?_⟩
  obtain ⟨T, x, e1, e2, e3, e4⟩ := y
  exact ⟨T, _, x, e1, e2, e3, rfl, e4 xs q⟩
section
variable {X : Cx}
/-- t * k, 1 ≤ k -/
def rRepT1 (K : PySem.W.Frag) : R2 := fun x y H Q => ∃ (l : Addr) (k : Int) (xs : List V), x = .ref l ∧ y = .int k ∧ SqT K H l xs ∧ xs ≠ [] ∧ 1 ≤ k ∧ k ≤ 1000 ∧ xs.length ≤ 1000 ∧ (k = 1 → Q (.ref l) H) ∧ ∀ p, H p = none → Q (.ref p) (upd H p (.tup (List.replicate k.toNat xs).flatten))
theorem op_repT1 : OpR X (binaryOp .Mult) (rRepT1 X.K) := by
  intro pins s σ H x y v u Q I rx ry h
  obtain ⟨l, k, xs, hx, hy, hT, hne, h1, h2, hz, q1, q⟩ := h
  by_cases hk : k = 1
  · subst hk hx hy
    cases rx
    obtain ⟨t, rfl⟩ := ry
    obtain ⟨its, r, ⟨⟨cls, dd, data, sl⟩, ho, hc, n, hd⟩, hs⟩ := I.tuple hT
    cases (show cls = _ from hc)
    cases (show data = _ from hd)
    refine wpAny_binaryOp_repeat_ref (T := "tuple") (U := "int") (by decide) ⟨_, ho, rfl⟩ (fun s' => typeIs_int s' 1 t) noFill_tuple_mul F.fills_int_mul F.slot_int_rmul repeat_tuple F.slot_int_index.lookup
      (call_meets F.slot_int_rmul (typeIs_int s 1 t) F.entry_int_rmul (F.args_int_rmul_2 _ _) (int_rmul_tuple 1 t l its.toArray n dd sl)
        ⟨ho, rfl, ⟨_, ho, rfl⟩, call_meets F.slot_tuple_mul ⟨_, ho, rfl⟩ F.entry_tuple_mul (F.args_tuple_mul_2 _ _) (tuple_mul1 l its.toArray n dd sl t) ⟨ho, ?_⟩⟩)
    exact ⟨.ref l, H, I, rfl, q1 rfl⟩
  · exact op_repT pins s σ H x y v u Q I rx ry ⟨l, k, xs, hx, hy, hT, hne, by omega, h2, hz, q⟩
/-- len(o), o of a class with its own __len__ -/
def rLenOwn (C : Addr) (sp : Sp) : List V → Hp → VK → Prop := fun vs H Q => ∃ (a dx : Addr) (fs : List (Str × V)), vs = [.ref a] ∧ H a = some (.ins C dx fs) ∧ sp [.ref a] H (fun v H' => ∃ n : Int, v = .int n ∧ 0 ≤ n ∧ n < 2 ^ 63 ∧ Q (.int n) H') (fun _ _ _ => False)
theorem call_lenOwn {C f : Addr} {fd : FuncData} {ps : List Str} {sp : Sp} {k : Nat} (hm : Meth X.K C "__len__" f) (F : FnOk X.prog X.w X.K X.mg X.base CX0 k f fd ps sp) (hb : Binds X.K fd ps []) (hr : Room (k + 1) X.A) : CallR X (.builtin "len") (rLenOwn C sp) := by
  intro pins s σ H vs us Q I r h
  obtain ⟨a, dx, fs, rfl, ha, q⟩ := h
  rw [Vals.ref1 r]
  obtain ⟨mA, O, _⟩ := ins_get I.hok ha
  obtain ⟨od, J, _⟩ := O.look
  refine Calls.call_function_entry kind_len plain_len entry_len (args_len1 _) ?_
  unfold Builtin.«len»
  refine wpAny_bind (m := oneArg "len" _) (wpAny_pure ?_)
  have ty : PySem.W.typeIn X.K (.ref f) = some (.type "function") := beq_iff_eq.mp hm.fn
  refine wpAny_bind (m := callSpecial? (.ref a) (Str.ofString "__len__")) (PySem.W.special_fn I.kIn J hm.at_ ty ?_)
  refine wpAny_call (codeAny_mono (F.run X.A.in1 X.stack s H ⟨[.ref a], []⟩ [.ref a] [.ref a] _ _ hr.in1 I.env0.in1 (hb s [.ref a] I.kIn (F.len _ _ _ _ q)) (.cons rfl .nil) q) fun rr s1 hq => ?_)
  cases rr with
  | error e => exact hq.elim
  | ok fl =>
    cases fl with
    | ret u =>
      obtain ⟨v, H1, I1, rv, n, e, n0, n1, qq⟩ := I.after hq
      subst e
      obtain ⟨t, rfl⟩ := rv
      refine wpAny_bind (wpAny_holding (wpAny_pure ?_))
      refine wpAny_bind (wpAny_letGo ?_)
      show wpAny _ _ (if n < 0 then _ else _) _ _ _
      rw [if_neg (by omega)]
      show wpAny _ _ (if n ≥ 2 ^ 63 then _ else _) _ _ _
      rw [if_neg (by omega)]
      exact wpAny_bind (wpAny_mkInt (wpAny_pure ⟨_, rfl, .int n, H1, I1.tok _, ⟨_, rfl⟩, qq⟩))
    | next => exact hq.elim
    | brk => exact hq.elim
    | cont => exact hq.elim
end
end RL
/-! A set comprehension with two clauses whose items are ints. -/
namespace RL
open PySem PySem.Spec PyProof.Rows L2
section
variable {prog : Program} {w : World} {A : Around} {R : Result → Shared → Prop} {s : Shared} {el ta ia tb ib : Expr} {fa fb : List Expr} {sc : Scope} {pos : Pos} {it acc : Value} {env : Env}
/-- the expression -/
abbrev sc2E (el ta ia : Expr) (fa : List Expr) (tb ib : Expr) (fb : List Expr) (sc : Scope) (pos : Pos) : Expr := .SetComp el [⟨ta, ia, fa, 0⟩, ⟨tb, ib, fb, 0⟩] sc pos
/-- the tests of a clause -/
abbrev testsOf (fs : List Expr) (env : Env) : Sem Bool := forIn fs true fun c r => if r = true then do let ok ← isTrue c env (eval c env); pure (ForInStep.yield ok) else pure (ForInStep.yield r)
theorem turn2o : compTurn (sc2E el ta ia fa tb ib fb sc pos) 0 it acc env = (do
      standAt ia.pos
      match ← pyNext it with
      | none => pure (.done .next)
      | some v =>
        letOwnedTupleGo ta it v
        assign ta env v
        let ok ← testsOf fa env
        if ok then
          let x ← eval ib env
          standAt ib.pos
          let x ← foldedSetIterable ib env x
          let _ ← runOwn (.compStart (sc2E el ta ia fa tb ib fb sc pos) 1 (← holding [x] (pyIter x)) acc env) env
        again (.compLoop (sc2E el ta ia fa tb ib fb sc pos) 0 it acc env)) := by rfl
theorem turn2i : compTurn (sc2E el ta ia fa tb ib fb sc pos) 1 it acc env = (do
      standAt ib.pos
      match ← pyNext it with
      | none => pure (.done .next)
      | some v =>
        letOwnedTupleGo tb it v
        assign tb env v
        let ok ← testsOf fb env
        if ok then
          (do let v ← eval el env; standAt el.pos; let _ ← call (.builtin "set.add") [acc, v])
        again (.compLoop (sc2E el ta ia fa tb ib fb sc pos) 1 it acc env)) := by rfl
/-- what is noted where it raises -/
abbrev Nt (prog : Program) (w : World) (A : Around) (env : Env) (R : Result → Shared → Prop) : Value → Shared → Prop := notedBy (model prog w) A env fun e s' => R (.error e) s'
theorem loop2o (hs : ∀ x, foldedSetIterable ib env x = pure x) (J : Nat → Shared → Prop)
    (turn : ∀ n s, J n s → wpAny (model prog w) A (pyNext it) (fun r s1 => match r with
      | none => R (.ok .next) s1
      | some v => wpAny (model prog w) A (letOwnedTupleGo ta it v) (fun _ s2 => wpAny (model prog w) A (assign ta env v) (fun _ s3 => wpAny (model prog w) A (testsOf fa env) (fun ok s4 =>
            if ok = true then wpAny (model prog w) A (eval ib env) (fun x s5 => wpAny (model prog w) A (pyIter x) (fun jt s6 =>
              codeAny (model prog w) A (.compStart (sc2E el ta ia fa tb ib fb sc pos) 1 jt acc env) (fun r s' => match r with
                | .ok _ => ∃ m, m < n ∧ J m s'
                | .error _ => False) s6) (Nt prog w A env R) s5) (Nt prog w A env R) s4
            else ∃ m, m < n ∧ J m s4) (Nt prog w A env R) s3) (Nt prog w A env R) s2) (Nt prog w A env R) s1) (Nt prog w A env R) s)
    (n : Nat) (h : J n s) : codeAny (model prog w) A (.compLoop (sc2E el ta ia fa tb ib fb sc pos) 0 it acc env) R s := by
  refine codeAny_loop rfl J (fun n s hJ => ?_) n h
  show wpAny _ A ((compTurn (sc2E el ta ia fa tb ib fb sc pos) 0 it acc env).onRaise (fun x => do noteFrame x env; theTreesLotGoes x)) _ _ s
  refine wpAny_noted ?_
  rw [turn2o]
  refine wpAny_bind (wpAny_standAt (wpAny_bind (wpAny_mono (turn n s hJ) (fun r s1 h1 => ?_) fun _ _ z => z)))
  cases r with
  | none => exact wpAny_pure h1
  | some v =>
    refine wpAny_bind (wpAny_mono h1 (fun _ s2 h2 => wpAny_bind (wpAny_mono h2 (fun _ s3 h3 => wpAny_bind (wpAny_mono h3 (fun ok s4 h4 => ?_) fun _ _ z => z)) fun _ _ z => z)) fun _ _ z => z)
    cases ok with
    | false => exact wpAny_pure ⟨rfl, h4⟩
    | true =>
      refine wpAny_bind (wpAny_mono h4 (fun x s5 h5 => ?_) fun _ _ z => z)
      refine wpAny_bind (wpAny_standAt (wpAny_bind (wpAny_of_eq (hs x) (wpAny_bind (wpAny_holding (wpAny_mono h5 (fun jt s6 h6 => ?_) fun _ _ z => z))))))
      refine wpAny_bind (wpAny_runOwn ?_)
      rw [Around.mark_none]
      refine codeAny_mono h6 fun r s' hr => ?_
      cases r with
      | ok f =>
        first
          | exact wpAny_pure ⟨rfl, hr⟩
          | exact wpAny_bind (wpAny_pure (wpAny_pure ⟨rfl, hr⟩))
      | error e => exact hr.elim
theorem loop2i (J : Nat → Shared → Prop)
    (turn : ∀ n s, J n s → wpAny (model prog w) A (pyNext it) (fun r s1 => match r with
      | none => R (.ok .next) s1
      | some v => wpAny (model prog w) A (letOwnedTupleGo tb it v) (fun _ s2 => wpAny (model prog w) A (assign tb env v) (fun _ s3 => wpAny (model prog w) A (testsOf fb env) (fun ok s4 =>
            if ok = true then wpAny (model prog w) A (eval el env) (fun x s5 => wpAny (model prog w) A (call (.builtin "set.add") [acc, x]) (fun _ s6 => ∃ m, m < n ∧ J m s6) (Nt prog w A env R) s5) (Nt prog w A env R) s4
            else ∃ m, m < n ∧ J m s4) (Nt prog w A env R) s3) (Nt prog w A env R) s2) (Nt prog w A env R) s1) (Nt prog w A env R) s)
    (n : Nat) (h : J n s) : codeAny (model prog w) A (.compLoop (sc2E el ta ia fa tb ib fb sc pos) 1 it acc env) R s := by
  refine codeAny_loop rfl J (fun n s hJ => ?_) n h
  show wpAny _ A ((compTurn (sc2E el ta ia fa tb ib fb sc pos) 1 it acc env).onRaise (fun x => do noteFrame x env; theTreesLotGoes x)) _ _ s
  refine wpAny_noted ?_
  rw [turn2i]
  refine wpAny_bind (wpAny_standAt (wpAny_bind (wpAny_mono (turn n s hJ) (fun r s1 h1 => ?_) fun _ _ z => z)))
  cases r with
  | none => exact wpAny_pure h1
  | some v =>
    refine wpAny_bind (wpAny_mono h1 (fun _ s2 h2 => wpAny_bind (wpAny_mono h2 (fun _ s3 h3 => wpAny_bind (wpAny_mono h3 (fun ok s4 h4 => ?_) fun _ _ z => z)) fun _ _ z => z)) fun _ _ z => z)
    cases ok with
    | false => exact wpAny_pure ⟨rfl, h4⟩
    | true => exact wpAny_bind (wpAny_bind (wpAny_mono h4 (fun x s5 h5 => wpAny_bind (wpAny_standAt (wpAny_bind (wpAny_mono h5 (fun _ s6 h6 => wpAny_pure (wpAny_pure ⟨rfl, h6⟩)) fun _ _ z => z)))) fun _ _ z => z))
theorem start2 {k : Nat} (hk : k = 0 ∨ k = 1) (h0 : codeAny (model prog w) A (.compLoop (sc2E el ta ia fa tb ib fb sc pos) k it acc env) R s)
    (h : wpAny (model prog w) A (pyIter it) (fun jt s' => codeAny (model prog w) A (.compLoop (sc2E el ta ia fa tb ib fb sc pos) k jt acc env) R s') (Nt prog w A env R) s) :
    codeAny (model prog w) A (.compStart (sc2E el ta ia fa tb ib fb sc pos) k it acc env) R s := by
  refine codeAny_of_tree ?_
  show wpAny _ _ ((compStart (sc2E el ta ia fa tb ib fb sc pos) k it acc env).onRaise (fun x => do noteFrame x env; standAt theWindowsPlace)) _ _ s
  refine wpAny_notedAt ?_
  rcases hk with e | e
  all_goals
    subst e
    unfold compStart
    show wpAny _ _ (ask >>= _) _ _ s
    refine wpAny_bind (wpAny_askSetting (wpAny_ite ?_))
    split
    · first
        | exact wpAny_bind (wpAny_pure (wpAny_pure (And.intro rfl h0)))
        | exact wpAny_pure (And.intro rfl h0)
    · refine wpAny_bind (wpAny_rule ?_)
      first
        | (show wpAny _ _ (standAt ia.pos >>= _) _ _ s; exact wpAny_bind (wpAny_standAt (wpAny_bind (wpAny_mono h (fun jt s' h' => wpAny_pure (And.intro rfl h')) fun _ _ z => z))))
        | (show wpAny _ _ (standAt ib.pos >>= _) _ _ s; exact wpAny_bind (wpAny_standAt (wpAny_bind (wpAny_mono h (fun jt s' h' => wpAny_pure (And.intro rfl h')) fun _ _ z => z))))
end
end RL
namespace RL
open PySem PySem.Spec PyProof.Rows L2
section
variable {X : Cx}
theorem newSet_at {prog : Program} {w : World} {A : Around} {E : Value → Shared → Prop} {s : Shared} {Q : Value → Shared → Prop}
    (h : Q (.ref s.heap.objs.size) { s with heap := s.heap.push { cls := .type "set", dict := none, data := .set #[] 0 (.fresh 0 0 (!w.params.followText "set-order")) } }) : wpAny (model prog w) A (newSet (.type "set")) Q E s := PpSet.newSet_ok h
theorem addI {pins : List (Addr × Obj)} {σ : L2.St} {H : Hp} {s : Shared} {E : Value → Shared → Prop} {D : Addr} {S : Int → Bool} {n : Nat} {y : Int} {v : Value} {Q : Value → Shared → Prop} (I : L2.Inv X pins σ H s) (hD : H D = some (SetO X.w D S n)) (room : n + 1 < scanBound) (r : RelV (.int y) v)
    (h : ∀ s', L2.Inv X pins σ (upd H D (SetO X.w D (fun j => S j || decide (j = y)) (if S y = true then n else n + 1))) s' → Q .none s') : wpAny (model X.prog X.w) X.A (call (.builtin "set.add") [.ref D, v]) Q E s := by
  obtain ⟨tk, rfl⟩ := r
  have R := setO_get I hD
  refine setR_add R room fun h1 sb new => ?_
  have ex : ∃ u, h1.get? D = some u := by
    have ⟨o, _, _, _, ho, _⟩ := new
    exact ⟨o, ho⟩
  exact h _ (I.write (e := D) (t' := s.toks + 1) (by rw [hD]; trivial) (.inl rfl) (fun b u hb hu => (sb.2 b hb).trans hu) ex (setO_new new))
/-- the reading: D the new set, its members told by S -/
def tSc2 (w : World) (wa : TI) (ga : TG) (fa : TT) (wb : TI) (gb : TG) (fb : TT) (te : TE) (vs vb : List Nat) : TE := fun σ H Q => wa σ H fun J H1 => ∀ D, H1 D = none → ∃ W : Nat → Nat → Hp → Prop, (∃ m, W 0 m (upd H1 D (SetO w D (fun _ => false) 0))) ∧ ∀ i m H, W i m H →
  (J.stop i H ∧ Q (.ref D) H) ∨ (J.go i H ∧ ∃ Nx : Hp → Prop, (∀ H', Nx H' → ∃ m', m' < m ∧ W (i + 1) m' H') ∧ ∀ x H', J.yld i H x H' → ga x (wipe σ vs) H' fun σ2 H2 => wipe σ2 vs = wipe σ vs ∧ fa σ2 H2 fun b H3 =>
    if b = true then wb σ2 H3 fun J1 H4 => ∃ W1 : Nat → Nat → Hp → Prop, (∃ m, W1 0 m H4) ∧ ∀ j k H, W1 j k H →
      (J1.stop j H ∧ Nx H) ∨ (J1.go j H ∧ ∃ Ny : Hp → Prop, (∀ H', Ny H' → ∃ k', k' < k ∧ W1 (j + 1) k' H') ∧ ∀ x H', J1.yld j H x H' → gb x (wipe σ2 vb) H' fun σ3 H5 => wipe σ3 vb = wipe σ2 vb ∧ fb σ3 H5 fun b H6 =>
        if b = true then te σ3 H6 fun y H7 => ∃ (c : Int) (S : Int → Bool) (n : Nat), y = .int c ∧ H7 D = some (SetO w D S n) ∧ n + 1 < scanBound ∧ Ny (upd H7 D (SetO w D (fun j => S j || decide (j = c)) (if S c = true then n else n + 1))) else Ny H6)
    else Nx H3)
theorem pe_sc2 {el ta ia tb ib : Expr} {ea eb : List Expr} {sc : Scope} {own : List (Str × Nat)} {vs1 : List Nat} {pos : Pos} {wa wb : TI} {ga gb : TG} {fa fb : TT} {te : TE} (hc : X.calm = true) (hN : X.N.Nodup) (hi : PI X ta ia wa) (ok : BlkOk X.N X.env.scope sc own) (hv : ∀ i ∈ vs1, i ∈ own.map (·.2))
    (hg : ∀ (s : Shared) (H : Hp) (C : Addr) (cl : List (Str × Addr)) (fp : List Addr), PG (X.blk s H sc (compEnvC sc cl C X.env) fp) ta ga) (ht : ∀ (s : Shared) (H : Hp) (C : Addr) (cl : List (Str × Addr)) (fp : List Addr), PTs (X.blk s H sc (compEnvC sc cl C X.env) fp) ea fa)
    (hi1 : ∀ (s : Shared) (H : Hp) (C : Addr) (cl : List (Str × Addr)) (fp : List Addr), PI (X.blk s H sc (compEnvC sc cl C X.env) fp) tb ib wb)
    (hg1 : ∀ (s : Shared) (H : Hp) (C : Addr) (cl : List (Str × Addr)) (fp : List Addr), PG (X.blk s H sc (compEnvC sc cl C X.env) fp) tb gb) (ht1 : ∀ (s : Shared) (H : Hp) (C : Addr) (cl : List (Str × Addr)) (fp : List Addr), PTs (X.blk s H sc (compEnvC sc cl C X.env) fp) eb fb)
    (he : ∀ (s : Shared) (H : Hp) (C : Addr) (cl : List (Str × Addr)) (fp : List Addr), PE (X.blk s H sc (compEnvC sc cl C X.env) fp) el te) (hs : ∀ x, foldedSetIterable ia X.env x = pure x := by intro _; rfl) (hs1 : ∀ env x, foldedSetIterable ib env x = pure x := by intro _ _; rfl) :
    PE X (sc2E el ta ia ea tb ib eb sc pos) (tSc2 X.w wa ga fa wb gb fb te (own.map (·.2)) vs1) := by
  refine ⟨fun pins s σ H Q I h => ?_⟩
  rw [PpSet.eval_SetComp]
  have cells : ∀ y ∈ sc.names, y.2 = .free → ∃ c, X.env.cells.lookup y.1 = some c := fun y hy e => (ok.free y hy e).elim (fun k => I.ok.has _ (.inl k)) fun k => I.ok.has _ (.inr k)
  refine wpAny_comprehension_free (use := none) rfl hs (closure_ok cells) ok.kind (fun y hy e => by rw [ok.uniq y hy, e]) (thn (hi.run pins s σ H _ I h) fun xv s1 hx => thn hx fun itv s2 h2 => ?_)
  obtain ⟨it, fp, tn, J, H2, e, I2, T, st2, f2, q⟩ := h2
  subst e
  refine newSet_at (newEnv_comp ?_)
  generalize hD : s2.heap.objs.size = D
  obtain ⟨W, ⟨m0, w0⟩, turn⟩ := q D (I2.hok.fresh (Nat.le_of_eq hD))
  generalize ho : ({ cls := .type "set", dict := none, data := .set #[] 0 (.fresh 0 0 (!X.w.params.followText "set-order")) } : Obj) = oS
  generalize hs3 : ({ s2 with heap := s2.heap.push oS } : Shared) = s3
  have hp3 : s3.heap = s2.heap.push oS := by rw [← hs3]
  have I3 : L2.Inv X pins σ (upd H2 D (SetO X.w D (fun _ => false) 0)) s3 := by
    rw [← hs3]
    refine I2.laid (t' := s2.toks) (fun b o e => Heap.get?_push_of_some _ e) (Nat.le_of_eq hD) ?_
    have g : (s2.heap.push oS).get? D = some oS := by
      rw [← hD]
      exact Heap.get?_push_size _ (by rw [← ho]; rfl)
    rw [← ho] at g ⊢
    exact setO_new (by simpa using setR_new_at (ns := []) g)
  have small : ∀ b ∈ fp, b < s2.heap.objs.size := fun b hb => (T.obj _ _ st2 b hb).elim fun o e => Heap.lt_size e.1
  have f3 : ∀ b ∈ fp, FpOk X pins (upd H2 D (SetO X.w D (fun _ => false) 0)) b ∧ b < s3.heap.objs.size := fun b hb => by
    refine ⟨⟨?_, (f2 b hb).2⟩, by rw [hp3, Heap.size_push]; exact Nat.lt_succ_of_lt (small b hb)⟩
    rw [upd_ne (by rw [← hD]; exact Nat.ne_of_lt (small b hb))]
    exact (f2 b hb).1
  have st3 : tn 0 s3.heap := T.keep _ _ _ st2 fun b _ o e => by rw [hp3]; exact Heap.get?_push_of_some _ e
  have I4 := block_start I3 ok hN f3
  generalize hcs : cellsFrom (s3.heap.objs.size + 1) sc.names (cloFrom X.env.cells sc.names []) = cs at I4
  have pg := hg s3 (upd H2 D (SetO X.w D (fun _ => false) 0)) s3.heap.objs.size cs fp
  have pt := ht s3 (upd H2 D (SetO X.w D (fun _ => false) 0)) s3.heap.objs.size cs fp
  have pe := he s3 (upd H2 D (SetO X.w D (fun _ => false) 0)) s3.heap.objs.size cs fp
  have qi := hi1 s3 (upd H2 D (SetO X.w D (fun _ => false) 0)) s3.heap.objs.size cs fp
  have qg := hg1 s3 (upd H2 D (SetO X.w D (fun _ => false) 0)) s3.heap.objs.size cs fp
  have qt := ht1 s3 (upd H2 D (SetO X.w D (fun _ => false) 0)) s3.heap.objs.size cs fp
  show codeAny _ _ (.compStart (sc2E el ta ia ea tb ib eb sc pos) 0 (.ref it) (.ref D) (compEnvC sc cs s3.heap.objs.size X.env)) (compPost (model X.prog X.w) X.A X.xe none (EP X pins σ Q) (.ref D) s3.heap.objs.size) { s3 with heap := pushCells (s3.heap.push { cls := .type "dict", data := .dict #[] }) sc.names }
  have nfp : ∀ b ∈ fp, (upd H2 D (SetO X.w D (fun _ => false) 0)) b = none := fun b hb => (f3 b hb).1.1
  generalize hce : compEnvC sc cs s3.heap.objs.size X.env = ce at I4 pg pt pe qi qg qt ⊢
  have cL : ce.locals = s3.heap.objs.size := by subst hce; rfl
  generalize hH3 : upd H2 D (SetO X.w D (fun _ => false) 0) = H3 at I3 I4 pg pt pe qi qg qt w0 nfp f3
  generalize hs4 : ({ s3 with heap := pushCells (s3.heap.push { cls := .type "dict", data := .dict #[] }) sc.names } : Shared) = s4 at I4 ⊢
  have st4 : tn 0 s4.heap := T.keep _ _ _ st3 fun b _ o e => by rw [← hs4]; exact pushCells_keeps _ _ _ _ (Heap.get?_push_of_some _ e)
  generalize hv0 : wipe σ (own.map (·.2)) = σ0 at I4 turn
  have len0 : σ0.length = σ.length := by rw [← hv0, wipe_length]
  have stat : ∀ {τ : L2.St} {H' : Hp} {s' : Shared}, L2.Inv (X.blk s3 H3 sc ce fp) [] τ H' s' → (∀ b ∈ fp, H' b = none) → ∀ b ∈ fp, FpOk (X.blk s3 H3 sc ce fp) [] H' b := fun {τ H' s'} I' hn b hb =>
    ⟨hn b hb, (I'.ok.exf b hb).1, I'.ok.exfs b hb, .inl hb, fun x c e => (I'.ok.exf b hb).2 x c e, fun p hp => absurd (show p ∈ ([] : List (Addr × Obj)) ++ [] from hp) (by simp)⟩
  -- between the turns of the first clause
  let Jo : Nat → Shared → Prop := fun n s' => ∃ i H', L2.Inv (X.blk s3 H3 sc ce fp) [] σ0 H' s' ∧ tn i s'.heap ∧ (∀ b ∈ fp, H' b = none) ∧ W i n H'
  have main : codeAny (model X.prog X.w) X.A (.compLoop (sc2E el ta ia ea tb ib eb sc pos) 0 (.ref it) (.ref D) ce) (compPost (model X.prog X.w) X.A X.xe none (EP X pins σ Q) (.ref D) s3.heap.objs.size) s4 := by
    refine loop2o (hs1 ce) Jo ?_ m0 ⟨0, H3, I4, st4, nfp, w0⟩
    rintro n s5 ⟨i, H5, I5, st5, n5, w5⟩
    rcases turn i n H5 w5 with ⟨stop, qq⟩ | ⟨go, Nx, hNx, step⟩
    · refine thnF (T.done (X.blk s3 H3 sc ce fp) rfl rfl rfl hc i [] s5 _ H5 (fun _ _ => False) I5 (stat I5 n5) st5 stop) fun r s6 ⟨hr, I6⟩ => ?_
      subst hr
      have I7 : L2.Inv X pins σ H5 s6 := I3.call' (ch := fp) I6.os I6.base I6.hok I6.bare fun b hb => ⟨(f3 b hb).1.2.2.2.1, (f3 b hb).1.2.1, (f3 b hb).1.2.2.2.2.1, (f3 b hb).1.2.2.2.2.2⟩
      have nC : H5 s3.heap.objs.size = none := by
        rw [← cL]
        exact I6.free
      obtain ⟨m, hn, _⟩ := I6.loc
      have hn : s6.heap.Ns ce.locals m := hn
      rw [cL] at hn
      refine ⟨m, hn, fun h'' sb => ?_⟩
      obtain ⟨g0, g1, g2, g3, g4, g5⟩ := I3.fpOk (Nat.le_refl _) nC
      exact ⟨.ref D, H5, I7.turned (t' := s6.toks) (fun b o hb e => (sb.2 b hb).trans e) g0 g1 g3 g4 g5, rfl, qq⟩
    · refine thnF (T.item (X.blk s3 H3 sc ce fp) rfl rfl rfl hc i [] s5 _ H5 (fun _ _ => False) I5 (stat I5 n5) st5 go) fun r s6 ⟨u, hr, h6⟩ => ?_
      subst hr
      refine thnF h6 fun _ s7 ⟨x, H7, I7, r7, y7, st7, n7⟩ => ?_
      have I7p := I7.pinned (stat I7 n7) (T.obj _ _ st7)
      refine thnF (pg.run _ s7 _ H7 x u _ I7p r7 (step x H7 y7)) fun _ s8 ⟨σ8, H8, I8, hw8, q8⟩ => ?_
      refine thnF (pt.run _ s8 σ8 H8 _ I8 q8) fun b s9 ⟨H9, I9, q9⟩ => ?_
      have back : ∀ {τ : L2.St} {s' : Shared} {H' : Hp}, L2.Inv (X.blk s3 H3 sc ce fp) ([] ++ pinsAt fp s7.heap) τ H' s' → σ0.length = τ.length → (∀ (j : Nat) v, σ0[j]? = some (some v) → τ[j]? = some (some v)) → Nx H' → ∃ m, m < n ∧ Jo m s' := fun {τ s' H'} I' hl hk nx => by
        obtain ⟨m1, hm, w1⟩ := hNx H' nx
        have pin : ∀ b ∈ fp, ∀ o, s7.heap.get? b = some o → s'.heap.get? b = some o ∧ H' b = none := fun b hb o e =>
          let z := I'.pin (b, o) (List.mem_append_right _ (List.mem_append_right _ (mem_pinsAt hb e)))
          ⟨z.1, z.2.1⟩
        refine ⟨m1, hm, i + 1, H', (I'.unpinned (pins := [])).weak hl hk, T.keep _ _ _ st7 fun b hb o e => (pin b hb o e).1, fun b hb => ?_, w1⟩
        obtain ⟨o, e, _⟩ := T.obj _ _ st7 b hb
        exact (pin b hb o e).2
      have l8 : σ0.length = σ8.length := by rw [← hw8, wipe_length]
      have k8 : ∀ (j : Nat) v, σ0[j]? = some (some v) → σ8[j]? = some (some v) ∧ (wipe σ8 vs1)[j]? = some (some v) := fun j v e => by
        rw [← hw8] at e
        obtain ⟨e1, e2⟩ := wipe_some e
        refine ⟨e1, ?_⟩
        rw [wipe_out fun z => e2 (hv j z)]
        exact e1
      cases b with
      | false =>
        simp only [Bool.false_eq_true, if_false] at q9 ⊢
        exact back I9 l8 (fun j v e => (k8 j v e).1) q9
      | true =>
        simp only [if_true] at q9 ⊢
        refine thnF (qi.run _ s9 σ8 H9 _ I9 q9) fun xv s10 hx => thnF hx fun itv s11 h11 => ?_
        obtain ⟨jt, fq, tq, J1, H11, e1, I11, T1, st11, f11, W1, ⟨m1, w1⟩, turn1⟩ := h11
        subst e1
        have stat1 : ∀ {H' : Hp}, (∀ b ∈ fq, H' b = none) → ∀ b ∈ fq, FpOk (X.blk s3 H3 sc ce fp) ([] ++ pinsAt fp s7.heap) H' b := fun hn b hb => ⟨hn b hb, (f11 b hb).2⟩
        let Ji : Nat → Shared → Prop := fun k s' => ∃ j H', L2.Inv (X.blk s3 H3 sc ce fp) ([] ++ pinsAt fp s7.heap) (wipe σ8 vs1) H' s' ∧ tq j s'.heap ∧ (∀ b ∈ fq, H' b = none) ∧ W1 j k H'
        have inner : codeAny (model X.prog X.w) X.A (.compLoop (sc2E el ta ia ea tb ib eb sc pos) 1 (.ref jt) (.ref D) ce) (fun r s' => match r with
              | .ok _ => ∃ m, m < n ∧ Jo m s'
              | .error _ => False) s11 := by
          refine loop2i Ji ?_ m1 ⟨0, H11, I11.weak (wipe_length _ _) (fun j v e => (wipe_some e).1), st11, fun b hb => (f11 b hb).1, w1⟩
          rintro k s12 ⟨j, H12, I12, st12, n12, w12⟩
          rcases turn1 j k H12 w12 with ⟨stop1, nx1⟩ | ⟨go1, Ny, hNy, step1⟩
          · refine thnF (T1.done (X.blk s3 H3 sc ce fp) rfl rfl rfl hc j _ s12 (wipe σ8 vs1) H12 (fun _ _ => False) I12 (stat1 n12) st12 stop1) fun r s13 ⟨hr, I13⟩ => ?_
            subst hr
            exact back I13 (l8.trans (wipe_length σ8 vs1).symm) (fun j v e => (k8 j v e).2) nx1
          · refine thnF (T1.item (X.blk s3 H3 sc ce fp) rfl rfl rfl hc j _ s12 (wipe σ8 vs1) H12 (fun _ _ => False) I12 (stat1 n12) st12 go1) fun r s13 ⟨u1, hr, h13⟩ => ?_
            subst hr
            refine thnF h13 fun _ s14 ⟨x1, H14, I14, r14, y14, st14, n14⟩ => ?_
            have I14p := I14.pinned (stat1 n14) (T1.obj _ _ st14)
            refine thnF (qg.run _ s14 (wipe σ8 vs1) H14 x1 u1 _ I14p r14 (step1 x1 H14 y14)) fun _ s15 ⟨σ15, H15, I15, hw15, q15⟩ => ?_
            refine thnF (qt.run _ s15 σ15 H15 _ I15 q15) fun b1 s16 ⟨H16, I16, q16⟩ => ?_
            have back1 : ∀ {s' : Shared} {H' : Hp}, L2.Inv (X.blk s3 H3 sc ce fp) (([] ++ pinsAt fp s7.heap) ++ pinsAt fq s14.heap) σ15 H' s' → Ny H' → ∃ m, m < k ∧ Ji m s' := fun {s' H'} I' nx => by
              obtain ⟨m2, hm, w2⟩ := hNy H' nx
              have pin : ∀ b ∈ fq, ∀ o, s14.heap.get? b = some o → s'.heap.get? b = some o ∧ H' b = none := fun b hb o e =>
                let z := I'.pin (b, o) (List.mem_append_right _ (List.mem_append_right _ (mem_pinsAt hb e)))
                ⟨z.1, z.2.1⟩
              refine ⟨m2, hm, j + 1, H', I'.unpinned.weak (by rw [← hw15, wipe_length]) (fun j v e => by rw [← hw15] at e; exact (wipe_some e).1), T1.keep _ _ _ st14 fun b hb o e => (pin b hb o e).1, fun b hb => ?_, w2⟩
              obtain ⟨o, e, _⟩ := T1.obj _ _ st14 b hb
              exact (pin b hb o e).2
            cases b1 with
            | false =>
              simp only [Bool.false_eq_true, if_false] at q16 ⊢
              exact back1 I16 q16
            | true =>
              simp only [if_true] at q16 ⊢
              refine thnF (pe.run _ s16 σ15 H16 _ I16 q16) fun z s17 ⟨yv, H17, I17, r17, c, S, nn, ey, hD17, hz17, nx⟩ => ?_
              subst ey
              exact addI (X := X.blk s3 H3 sc ce fp) I17 hD17 hz17 r17 fun s18 I18 => back1 I18 nx
        exact start2 (.inr rfl) inner (T1.self X.A 0 _ _ _ st11 inner)
  exact start2 (.inl rfl) main (T.self X.A 0 _ _ _ st4 main)
end
end RL
/-! The same rules with the written part by its name, for use within a comprehension. -/
namespace RL
open PySem PySem.Spec PyProof.Rows L2
section
variable {X : Cx} {K : PySem.W.Frag}
theorem ixL (h : X.K = K := by rfl) : IxR X (rIxL K) := h ▸ ix_list
theorem ixS (h : X.K = K := by rfl) : IxR X (rIx K) := h ▸ ix_seq
theorem ixT (h : X.K = K := by rfl) : IxR X (rIxT K) := h ▸ ix_tup
theorem inSq (h : X.K = K := by rfl) : OpR X (compareOp .In) (rIn K false) := h ▸ op_in_seq
theorem neD (hu : X.A.units + 64 < cLine) (h : X.K = K := by rfl) : OpR X (compareOp .NotEq) (rNeD K) := h ▸ op_neD hu
theorem eqD (hu : X.A.units + 64 < cLine) (h : X.K = K := by rfl) : OpR X (compareOp .Eq) (rEqD K) := h ▸ op_eqD hu
def rLenK (K : PySem.W.Frag) : List V → Hp → VK → Prop := fun xs H Q => ∃ p ys, xs = [.ref p] ∧ (SqL K H p ys ∨ SqT K H p ys) ∧ Q (.int ys.length) H
theorem lenK (h : X.K = K := by rfl) : CallR X (.builtin "len") (rLenK K) := h ▸ call_len_seq
def rListK (K : PySem.W.Frag) : List V → Hp → VK → Prop := fun xs H Q => ∃ p ys, xs = [.ref p] ∧ (SqL K H p ys ∨ SqT K H p ys) ∧ ∀ l, H l = none → Q (.ref l) (upd H l (.lst ys))
theorem listK (h : X.K = K := by rfl) : CallR X (.type "list") (rListK K) := h ▸ call_list_of
def rTupK (K : PySem.W.Frag) : List V → Hp → VK → Prop := fun xs H Q => ∃ p ys, xs = [.ref p] ∧ ((SqL K H p ys ∧ ∀ l, H l = none → Q (.ref l) (upd H l (.tup ys))) ∨ (SqT K H p ys ∧ Q (.ref p) H))
theorem tupK (h : X.K = K := by rfl) : CallR X (.type "tuple") (rTupK K) := h ▸ call_tuple_of
theorem isiK (h : X.K = K := by rfl) : CallR X (.builtin "isinstance") (rIsi K) := h ▸ call_isi
theorem anyK (hc : X.calm = true := by rfl) (h : X.K = K := by rfl) : CallR X (.builtin "any") (rAny K) := h ▸ cr_any hc
theorem allK (hc : X.calm = true := by rfl) (h : X.K = K := by rfl) : CallR X (.builtin "all") (rAll K) := h ▸ cr_all hc
theorem slL (h : X.K = K := by rfl) : SlR X (rSlL K) := h ▸ sl_list
theorem sortTK (h : X.K = K := by rfl) : CallR X (.builtin "sorted") (rSortT K) := h ▸ cr_sortTup
theorem sortLK (h : X.K = K := by rfl) : CallR X (.builtin "sorted") (rSorted K) := h ▸ cr_sorted
theorem setTK {w : World} (hc : X.calm = true := by rfl) (hw : X.w = w := by rfl) (h : X.K = K := by rfl) : CallR X (.type "set") (rSetT w K) := hw ▸ h ▸ cr_setT hc
theorem sortS {w : World} (hc : X.calm = true := by rfl) (hw : X.w = w := by rfl) : CallR X (.builtin "sorted") (rSortedSet w) := hw ▸ cr_sortedSet hc
theorem tupIxK (h : X.K = K := by rfl) : MtR X "tuple.index" (rTupIx K) := h ▸ mt_tupIx
theorem repTK (h : X.K = K := by rfl) : OpR X (binaryOp .Mult) (rRepT1 K) := h ▸ op_repT1
theorem fldK {e : Expr} {ta : TE} {f : Str} {pos : Pos} (he : PE X e ta) (hb : attributeBase e f X.env (eval e X.env) = eval e X.env) (h : X.K = K := by rfl) : PE X (.Attribute e f pos) (tFld K ta f) := h ▸ pe_fld he hb
theorem piEnum {e : Expr} {ta : TA} {p pos tpos : Pos} {elts : List Expr} {kk : Nat} (hg : Gl X "enumerate") (hm : X.mg "enumerate" = none) (ha : PA X [e] ta) (hs : starEach [e] X.env = [(false, eval e X.env)] := by rfl) (h : X.K = K := by rfl) :
    PI X (.Tuple elts kk tpos) (.Call (.Name "enumerate" p) [e] [] pos) (iEnum K ta) := h ▸ pi_enum hg hm ha hs
theorem piEnumT {e : Expr} {ta : TA} {p pos tpos : Pos} {elts : List Expr} {kk : Nat} (hg : Gl X "enumerate") (hm : X.mg "enumerate" = none) (ha : PA X [e] ta) (hs : starEach [e] X.env = [(false, eval e X.env)] := by rfl) (h : X.K = K := by rfl) :
    PI X (.Tuple elts kk tpos) (.Call (.Name "enumerate" p) [e] [] pos) (iEnumT K ta) := h ▸ pi_enumT hg hm ha hs
theorem piL {tg l : Expr} {tl : TE} (hl : PE X l tl) (h : X.K = K := by rfl) : PI X tg l (iList K tl) := h ▸ pi_list hl
theorem piT {tg l : Expr} {tl : TE} (hl : PE X l tl) (h : X.K = K := by rfl) : PI X tg l (iTup K tl) := h ▸ pi_tup hl
theorem pgT {es : List Expr} {k : Nat} {t : TGs} {n : Nat} {pos : Pos} (hc : X.calm = true) (ht : PGs X es t) (hn : (assignEach es X.env).length = n := by rfl) (hst : (assignEach es X.env).findIdx? (·.1) = none := by rfl) (h : X.K = K := by rfl) : PG X (.Tuple es k pos) (gTup K n t) := h ▸ pg_tup hc ht hn hst
theorem bmK {T id : String} {name : Str} {r : V → List V → Hp → VK → Prop} {o e : Expr} {es : List Expr} {to : TE} {t : TA} {apos cpos : Pos} (pa : PlainAttrs T) (slot : Slot T name id) (hty : typeOf (.builtin id) = pure (.type "method_descriptor")) (hm : MtR X id r) (ho : PE X o to) (ha : PA X (e :: es) t)
    (hbase : attributeBase o name X.env (eval o X.env) = eval o X.env := by rfl)
    (hfew : ((backTo cpos (starEach (e :: es) X.env)).all (fun x => !x.1) && (backToKw cpos (keywordEach [] X.env)).all (fun x => x.1.isSome) && decide ((e :: es).length + ([] : List Keyword).length + (if ([] : List Keyword).isEmpty then 0 else 1) < 30)) = true := by rfl)
    (hline : (apos.endLine == cpos.line) = true := by rfl) (hs : starEach (e :: es) X.env = (false, eval e X.env) :: starEach es X.env := by rfl) (hplain : (backTo cpos (starEach es X.env)).any (·.1) = false := by rfl) (h : X.K = K := by rfl) :
    PE X (.Call (.Attribute o name apos) (e :: es) [] cpos) (tBM K T r to t) := h ▸ pe_bm pa slot hty hm ho ha hbase hfew hline hs hplain
end
end RL
/-! Sets of tuples of ints: set(), add, in. -/
namespace RL
open PySem PySem.Spec PyProof.Rows L2
section
variable {P : Program} {w : World} {A : Around} {E : Value → Shared → Prop} {s : Shared} {a : Addr} {L : List (Addr × List Int)} {es : Array (Int × Value)} {ep : Nat} {t : SetTable}
/-- the probe's stand at its c-th step -/
abbrev stAt (P : Program) (w : World) (t : SetTable) (k : List Int) (c : Nat) : SetTable.Probe := nth t.mask (runAt t.mask (SetTable.bits (thash P w k) % (t.mask + 1)) (SetTable.bits (thash P w k))) c
theorem stAt_dummy (k : List Int) (c : Nat) : (stAt P w t k c).dummy = none := by
  have key : ∀ (n : Nat) (p : SetTable.Probe), p.dummy = none → (nth t.mask p n).dummy = none := by
    intro n
    induction n with
    | zero => exact fun _ z => z
    | succ n ih =>
      intro p z
      refine ih (adv t.mask p) ?_
      unfold adv
      split <;> exact z
  exact key c _ rfl
theorem find_from (R : SetTR P w s.heap a L es ep t) {x : Addr} {k : List Int} (hx : IsT P w s.heap k x) (hu : A.units < cLine) {M : Nat} (hMf : M < 10 * SetTable.turns t.mask)
    (hM : way t.mask (thash P w k) M ∉ t.place.toList) (hMb : ∀ c, c < M → way t.mask (thash P w k) c ∈ t.place.toList) {Q : SetFound → Shared → Prop}
    (yes : ∀ i, k ∈ L.map (·.2) → Q (.there (some i)) s) (no : k ∉ L.map (·.2) → Q (.free (way t.mask (thash P w k) M) false) s) :
    ∀ (f c : Nat) (st : Option SetTable.Probe), st.getD (t.probeStart (thash P w k)) = stAt P w t k c → c ≤ M → M - c < f →
      (∀ (i : Nat) p, L[i]? = some p → p.2 = k → ∃ d, c ≤ d ∧ d < M ∧ t.place.toList[i]? = some (way t.mask (thash P w k) d)) →
      wpAny (model P w) A (setSearchFrom a (.ref x) (thash P w k) false f st) Q E s
  | 0, c, st, _, _, hf, _ => absurd hf (Nat.not_lt_zero _)
  | f + 1, c, st, hst, hcM, hf, ahead => by
    obtain ⟨o, ho, hex, hd⟩ := R.ob
    rw [setSearchFrom_succ]
    refine wpAny_bind (wpAny_setState_of ho hd R.fits ?_)
    dsimp only
    refine wp_if_neg R.gw ?_
    try refine wpAny_bind (wpAny_pure ?_)
    have sh : ∀ q, nth t.mask (stAt P w t k c) q = stAt P w t k (c + q) := fun q => (nth_add t.mask c _ q).symm
    have jj : ∀ q, (nth t.mask (stAt P w t k c) q).j = way t.mask (thash P w k) (c + q) := fun q => congrArg SetTable.Probe.j (sh q)
    have cM : c + (M - c) = M := by omega
    have spec := go_spec t R.tab.ris R.tab.dm (fun i => (es[i]?.map (·.1)).getD 0) (thash P w k) (10 * SetTable.turns t.mask) (M - c) _ (stAt_dummy k c) (by omega)
      (fun q hq => by rw [jj]; exact hMb (c + q) (by omega)) (by rw [jj, cM]; exact hM)
    have hashAt : ∀ (i : Nat) p, L[i]? = some p → (fun i => (es[i]?.map (·.1)).getD 0) i = thash P w p.2 := fun i p hp => by
      show (es[i]?.map (·.1)).getD 0 = _
      rw [R.entry hp]
      rfl
    rcases spec with ⟨q, i, hq, hi, hh, free, pr⟩ | ⟨free, pr⟩
    · have pr1 : t.probe (fun i => (es[i]?.map (·.1)).getD 0) (thash P w k) (st.getD (t.probeStart (thash P w k))) = some (.candidate (way t.mask (thash P w k) (c + q)) i (stAt P w t k (c + (q + 1)))) := by
        rw [hst, ← jj, ← sh]
        exact pr
      rw [pr1]
      dsimp only
      rw [jj] at hi
      have il : i < L.length := by
        have l1 : i < t.place.toList.length := (List.getElem?_eq_some_iff.mp hi).1
        have l2 := R.tab.sz
        rw [List.length_map] at l2
        rw [Array.length_toList] at l1
        omega
      obtain ⟨p, hp⟩ : ∃ p, L[i]? = some p := ⟨_, List.getElem?_eq_getElem il⟩
      have mp : p ∈ L := List.mem_of_getElem? hp
      have live : t.slot (way t.mask (thash P w k) (c + q)) = .live i := slot_live R.tab.ris hi
      have rest : wpAny (model P w) A (searchRest a (.ref x) (thash P w k) false f es t (way t.mask (thash P w k) (c + q)) i (stAt P w t k (c + (q + 1)))) Q E s := by
        unfold searchRest
        rw [R.entry hp]
        dsimp only
        refine wpAny_bind (wpAny_holding (wpAny_eqBool_tuple hu (R.tup p mp) hx ?_))
        refine wpAny_bind (wpAny_setState_of ho hd R.fits ?_)
        dsimp only
        refine wp_if_neg (by simp) ?_
        try refine wpAny_bind (wpAny_pure ?_)
        rw [sameMem]
        dsimp only
        simp only [if_true, live, R.entry hp]
        refine wpAny_bind (wpAny_isSame_ref_self (wpAny_bind (wpAny_pure ?_)))
        simp only [if_true]
        by_cases e : p.2 = k
        · refine wp_if_pos (by simp [e]) ?_
          exact wpAny_pure (yes i (List.mem_map.mpr ⟨p, mp, e⟩))
        · refine wp_if_neg (by simp [e]) ?_
          refine find_from R hx hu hMf hM hMb yes no f (c + (q + 1)) _ rfl (by omega) (by omega) fun i0 p0 h0 k0 => ?_
          obtain ⟨d, d1, d2, d3⟩ := ahead i0 p0 h0 k0
          refine ⟨d, ?_, d2, d3⟩
          have ne : d ≠ c + q := fun z => by
            rw [z] at d3
            have l0 := slot_live R.tab.ris d3
            rw [live] at l0
            injection l0 with l0
            rw [← l0, hp] at h0
            exact e ((congrArg Prod.snd (Option.some.inj h0)).trans k0)
          have ge : ¬ d < c + q := fun z => by
            refine free (d - c) i0 (by omega) (by rw [jj, show c + (d - c) = d by omega]; exact d3) ?_
            exact (hashAt i0 p0 h0).trans (congrArg (thash P w) k0)
          omega
      by_cases led : t.led = true
      · refine wp_if_neg (by simp [led]) ?_
        try refine wpAny_bind (wpAny_pure ?_)
        exact rest
      · refine wp_if_pos (by simp [led]) ?_
        refine wpAny_bind (seen_tup hx (fun y hy => ?_) ?_)
        · obtain ⟨e, he, ee⟩ := List.mem_map.mp hy
          have e1 : e ∈ es ∧ e.1 = thash P w k := by simpa using he
          have e2 : e ∈ es.toList := by simpa using e1.1
          rw [R.rows] at e2
          obtain ⟨p2, hp2, e3⟩ := List.mem_map.mp e2
          exact ⟨p2.2, p2.1, by rw [← ee, ← e3], R.tup p2 hp2⟩
        · refine wp_if_neg (by decide) ?_
          try refine wpAny_bind (wpAny_pure ?_)
          exact rest
    · have pr1 : t.probe (fun i => (es[i]?.map (·.1)).getD 0) (thash P w k) (st.getD (t.probeStart (thash P w k))) = some (.empty (way t.mask (thash P w k) M) none) := by
        have e2 : way t.mask (thash P w k) M = (nth t.mask (stAt P w t k c) (M - c)).j := by rw [jj, cM]
        rw [hst, e2]
        exact pr
      rw [pr1]
      dsimp only
      refine wpAny_pure (no fun hm => ?_)
      obtain ⟨p0, h0, k0⟩ := List.mem_map.mp hm
      obtain ⟨i0, hi0, e0⟩ := List.getElem_of_mem h0
      have h00 : L[i0]? = some p0 := by rw [List.getElem?_eq_getElem hi0, e0]
      obtain ⟨d, d1, d2, d3⟩ := ahead i0 p0 h00 k0
      refine free (d - c) i0 (by omega) (by rw [jj, show c + (d - c) = d by omega]; exact d3) ?_
      exact (hashAt i0 p0 h00).trans (congrArg (thash P w) k0)
theorem find_at (R : SetTR P w s.heap a L es ep t) {x : Addr} {k : List Int} (hx : IsT P w s.heap k x) (hu : A.units < cLine) {Q : Option Nat → Shared → Prop} (h : ∀ r : Option Nat, r.isSome = decide (k ∈ L.map (·.2)) → Q r s) :
    wpAny (model P w) A (setFind a (.ref x) (thash P w k)) Q E s := by
  have room := R.room
  obtain ⟨M, hMf, hM, hMb⟩ := R.tab.first (by rw [List.length_map]; omega) (thash P w k)
  have big : M < 100000 := by
    have : 10 * SetTable.turns t.mask ≤ 1420 := by
      unfold SetTable.turns
      rcases R.tab.mok with e | e | e <;> omega
    omega
  obtain ⟨o, ho, hex, hd⟩ := R.ob
  unfold setFind setFindIn
  refine wpAny_bind (wpAny_setState_of ho hd R.fits ?_)
  dsimp only
  have bs : byScan (.ref x) es = false := by rfl
  rw [bs]
  simp only [Bool.false_eq_true, if_false]
  unfold setSearch
  refine wpAny_bind (find_from R hx hu hMf hM hMb (fun i hm => wpAny_pure (h _ (by simp [hm]))) (fun hm => wpAny_pure (h _ (by simp [hm]))) 100000 0 none rfl (Nat.zero_le _) (by omega) fun i p hp hk => ?_)
  have hi : (L.map fun p => thash P w p.2)[i]? = some (thash P w k) := by
    rw [List.getElem?_map, hp, ← hk]
    rfl
  have il : i < t.place.toList.length := by
    have h1 : i < L.length := (List.getElem?_eq_some_iff.mp hp).1
    have h2 := R.tab.sz
    rw [List.length_map] at h2
    rw [Array.length_toList]
    omega
  have hj := List.getElem?_eq_getElem il
  obtain ⟨c, hc, e⟩ := R.tab.before hM hi hj
  exact ⟨c, Nat.zero_le _, hc, by rw [hj, e]⟩
end
section
variable {X : Cx} {K : PySem.W.Frag} {P : Program} {w : World}
/-- the set's tuples stand -/
def TupsAt (K : PySem.W.Frag) (H : Hp) (L : List (Addr × List Int)) : Prop := ∀ p ∈ L, SqT K H p.1 (p.2.map V.int)
theorem setTR_of {pins : List (Addr × Obj)} {σ : L2.St} {H : Hp} {s : Shared} {a : Addr} {L : List (Addr × List Int)} (I : L2.Inv X pins σ H s) (ha : H a = some (SetTO X.prog X.w a L)) (ht : TupsAt X.K H L) : ∃ es ep t, SetTR X.prog X.w s.heap a L es ep t :=
  SetT0.full (I.hok a _ ha).1 fun p hp => I.isT (ht p hp)
/-- set() that is to hold tuples -/
def rSet0T (P : Program) (w : World) : List V → Hp → VK → Prop := fun xs H Q => xs = [] ∧ ∀ p, H p = none → Q (.ref p) (upd H p (SetTO P w p []))
theorem set0T (hP : X.prog = P := by rfl) (hw : X.w = w := by rfl) : CallR X (.type "set") (rSet0T P w) := by
  subst hP hw
  intro pins s σ H xs us Q I r h
  obtain ⟨rfl, q⟩ := h
  cases r
  refine setR_new fun _ => ?_
  exact ⟨.ref _, _, I.laid (t' := s.toks) (fun b u e => Heap.get?_push_of_some _ e) (Nat.le_refl _) (setTO_new (setTR_fresh (Heap.get?_push_size _ rfl)).t0), rfl, q _ (I.hok.fresh (Nat.le_refl _))⟩
/-- t in seen -/
def rInT (K : PySem.W.Frag) (P : Program) (w : World) : R2 := fun x y H Q => ∃ (b a : Addr) (k : List Int) (L : List (Addr × List Int)), x = .ref b ∧ y = .ref a ∧ SqT K H b (k.map V.int) ∧ H a = some (SetTO P w a L) ∧ TupsAt K H L ∧ Q (.bl (decide (k ∈ L.map (·.2)))) H
theorem inT (hu : X.A.units + 64 < cLine) (hK : X.K = K := by rfl) (hP : X.prog = P := by rfl) (hw : X.w = w := by rfl) : OpR X (compareOp .In) (rInT K P w) := by
  subst hK hP hw
  intro pins s σ H x y v u Q I rx ry h
  obtain ⟨b, a, k, L, rfl, rfl, hb, ha, ht, q⟩ := h
  cases rx
  cases ry
  obtain ⟨es, ep, t, R⟩ := setTR_of I ha ht
  have hx := I.isT hb
  obtain ⟨o, ho, hex, hd⟩ := R.ob
  have ty : s.TypeIs (.ref a) "set" := ⟨o, ho, hex.1⟩
  show wpAny _ _ (do return Value.bool (← contains (.ref a) (.ref b))) _ _ s
  refine wpAny_bind ?_
  unfold contains
  try with_reducible refine wpAny_holding ?_
  refine wpAny_bind (wpAny_specialOf ty F.slot_set_contains.lookup ?_)
  show wpAny _ _ (if (some (Value.builtin "set.__contains__") == some Value.none) = true then _ else _) _ _ s
  rw [if_neg (by rw [beq_builtin_none]; exact Bool.false_ne_true)]
  refine wpAny_bind (wpAny_callSpecialUnlessNone?_slot (name := Str.ofString "__contains__") ty F.slot_set_contains
    (wpAny_call_entry F.slot_set_contains ty entry_set_contains ?_ (F.args_set_contains_2 _ _)))
  unfold Builtin.«frozenset.__contains__» Builtin.Frozenset.oneOther
  simp only [List.isEmpty_nil, bind_assoc]
  unfold Builtin.Frozenset.addrOf Builtin.Frozenset.withSetAsKey setContains
  refine wpAny_bind (wpAny_pure ?_)
  try dsimp only
  refine wpAny_bind (wpAny_pure ?_)
  try dsimp only
  refine wpAny_bind (wpAny_tryCatch ?_)
  refine wpAny_holding ?_
  have hu2 : X.A.in1.units < cLine := by
    show X.A.units + 1 < cLine
    omega
  refine wpAny_bind (wpAny_pyHash_tuple (by simpa using hu2) hx ?_)
  refine wpAny_bind (find_at (s := { s with toks := s.toks + (k.length + 1) }) R hx (by simpa using hu2) fun r hr => ?_)
  refine wpAny_pure ?_
  show wpAny _ _ (ret (Value.bool r.isSome)) _ _ _
  rw [hr]
  exact wpAny_pure ⟨_, rfl, wpAny_truthy_bool (wpAny_pure ⟨.bl _, H, I.tok _, rfl, q⟩)⟩
/-- seen.add(t) -/
def rAddT (K : PySem.W.Frag) (P : Program) (w : World) : V → List V → Hp → VK → Prop := fun x xs H Q => ∃ (a b : Addr) (k : List Int) (L : List (Addr × List Int)), x = .ref a ∧ xs = [.ref b] ∧ SqT K H b (k.map V.int) ∧ H a = some (SetTO P w a L) ∧ TupsAt K H L ∧ L.length < 63 ∧ k ∉ L.map (·.2) ∧
  ∀ L', L'.Perm ((b, k) :: L) → Q .non (upd H a (SetTO P w a L'))
def tAddT (K : PySem.W.Frag) (P : Program) (w : World) (to : TE) (t : TA) : TE := fun σ H Q => to σ H fun x H1 => (∃ a L, x = V.ref a ∧ H1 a = some (SetTO P w a L)) ∧ t σ H1 fun xs H2 => rAddT K P w x xs H2 Q
theorem addT (hu : X.A.units + 64 < cLine) (hK : X.K = K) (hP : X.prog = P) (hw : X.w = w) : MtR X "set.add" (rAddT K P w) := by
  subst hK hP hw
  intro pins s σ H x xs v us Q I rx rxs h
  obtain ⟨a, b, k, L, rfl, rfl, hb, ha, ht, few, nin, q⟩ := h
  cases rx
  rw [Vals.ref1 rxs]
  obtain ⟨es, ep, t, R⟩ := setTR_of I ha ht
  have hx := I.isT hb
  obtain ⟨o, ho, hex, hd⟩ := R.ob
  have ty : s.TypeIs (.ref a) "set" := ⟨o, ho, hex.1⟩
  refine wpAny_call_entry F.slot_set_add ty F.entry_set_add ?_ (F.args_set_add_2 _ _)
  unfold Builtin.«set.add» Builtin.Frozenset.oneOther
  simp only [List.isEmpty_nil, bind_assoc]
  unfold Builtin.Frozenset.addrOf setAdd
  refine wpAny_bind (wpAny_pure ?_)
  try dsimp only
  refine wpAny_bind (wpAny_pure ?_)
  try dsimp only
  have hu2 : X.A.in1.units < cLine := by
    show X.A.units + 1 < cLine
    omega
  refine wpAny_bind (wpAny_holding (wpAny_bind (wpAny_pyHash_tuple hu2 hx ?_)))
  refine add_at (s := { s with toks := s.toks + (k.length + 1) }) R hx hu2 (by omega) fun fl h1 L' es' ep' t' sb R' _ c2 => ?_
  show wpAny _ _ (ret Value.none) _ _ _
  have ex : ∃ u, h1.get? a = some u := by
    obtain ⟨o', ho', _⟩ := R'.ob
    exact ⟨o', ho'⟩
  refine wpAny_pure ⟨_, rfl, ?_⟩
  exact ⟨.non, _, I.write (e := a) (t' := s.toks + (k.length + 1)) (by rw [ha]; trivial) (.inl rfl) (fun c u hc hu => (sb.2 c hc).trans hu) ex (setTO_new R'.t0), rfl, q L' (c2 nin)⟩
theorem pe_addT {o e : Expr} {es : List Expr} {to : TE} {t : TA} {apos cpos : Pos} (hu : X.A.units + 64 < cLine) (ho : PE X o to) (ha : PA X (e :: es) t)
    (hbase : attributeBase o "add" X.env (eval o X.env) = eval o X.env := by rfl)
    (hfew : ((backTo cpos (starEach (e :: es) X.env)).all (fun x => !x.1) && (backToKw cpos (keywordEach [] X.env)).all (fun x => x.1.isSome) && decide ((e :: es).length + ([] : List Keyword).length + (if ([] : List Keyword).isEmpty then 0 else 1) < 30)) = true := by rfl)
    (hline : (apos.endLine == cpos.line) = true := by rfl) (hs : starEach (e :: es) X.env = (false, eval e X.env) :: starEach es X.env := by rfl) (hplain : (backTo cpos (starEach es X.env)).any (·.1) = false := by rfl) (hK : X.K = K := by rfl) (hP : X.prog = P := by rfl) (hw : X.w = w := by rfl) :
    PE X (.Call (.Attribute o "add" apos) (e :: es) [] cpos) (tAddT K P w to t) := by
  refine ⟨fun pins s σ H Q I h => ?_⟩
  refine wpAny_Call_method_late hbase hfew hline rfl (thn (ho.run pins s σ H _ I h) fun v s1 ⟨x, H1, I1, r1, ty, q1⟩ => ?_)
  obtain ⟨a, L, rfl, hka⟩ := ty
  cases r1
  subst hP hw
  obtain ⟨es1, ep1, t1, ⟨ob, hob, hex, hd⟩, _⟩ := SetT0.ex (I1.hok a _ hka).1
  refine ⟨"set", "set.add", F.plainAttrs_set, F.slot_set_add, F.type_set_add, ⟨ob, hob, hex.1⟩, fun b z => by injection z with z; subst z; exact ⟨ob, hob, hex.2.1⟩, ?_⟩
  have hA := ha.run cpos pins s1 σ H1 _ I1 q1
  rw [hs] at hA ⊢
  refine Calls.callWith_builtin (by show (false || (backTo cpos (starEach es X.env)).any (·.1)) = false; rw [hplain]; rfl) (Calls.evalArgs_plain ?_)
  exact thn hA fun us s2 ⟨vs, H2, I2, r2, q2⟩ => addT hu hK rfl rfl pins s2 σ H2 (.ref a) vs (.ref a) us Q I2 rfl r2 q2
theorem sortSetT (hc : X.calm = true := by rfl) (hK : X.K = K := by rfl) (hP : X.prog = P := by rfl) (hw : X.w = w := by rfl) : CallR X (.builtin "sorted") (rSortedT K P w) := by
  subst hK hP hw
  exact cr_sortedT hc
end
end RL
/-! A tuple whose object is known to have no dict of its own: made by tuple(list), asked for index. -/
namespace RL
open PySem PySem.Spec PyProof.Rows L2
section
variable {X : Cx} {K : PySem.W.Frag}
def rTupFz (K : PySem.W.Frag) : List V → Hp → VK → Prop := fun xs H Q => ∃ p ys, xs = [.ref p] ∧ SqL K H p ys ∧ ∀ (l : Addr) (o : Obj), H l = none → o.dict = none → Q (.ref l) (upd H l (.frz o (.tup ys)))
theorem tupFz (h : X.K = K := by rfl) : CallR X (.type "tuple") (rTupFz K) := by
  subst h
  intro pins s σ H xs us Q I r h
  obtain ⟨p, ys, rfl, hq, q⟩ := h
  rw [Vals.ref1 r]
  obtain ⟨its, rv, pl, hz⟩ := I.list hq
  have hlen := rv.length
  refine call_tuple_list pl.isList (fun h1 kp => ?_) (by rw [List.size_toArray]; omega)
  have I1 : L2.Inv X pins σ H { s with heap := h1 } := I.kept (t' := s.toks) kp
  have fr : H h1.objs.size = none := I1.hok.fresh (Nat.le_refl _)
  refine ⟨.ref h1.objs.size, upd H h1.objs.size (.frz { cls := .type "tuple", data := .seq its.toArray } (.tup ys)), I1.laid (t' := s.toks) (fun b o e => Heap.get?_push_of_some _ e) (Nat.le_refl _) ?_, rfl, q _ _ fr rfl⟩
  exact ⟨Heap.get?_push_size _ rfl, hz, its, rv, IsTup.new _ _⟩
def tTupIx (K : PySem.W.Frag) (to : TE) (t : TA) : TE := fun σ H Q => to σ H fun x H1 => (∃ a o xs, x = V.ref a ∧ H1 a = some (.frz o (.tup xs)) ∧ o.dict = none) ∧ t σ H1 fun xs H2 => rTupIx K x xs H2 Q
theorem pe_tupIx {o e : Expr} {es : List Expr} {to : TE} {t : TA} {apos cpos : Pos} (ho : PE X o to) (ha : PA X (e :: es) t)
    (hbase : attributeBase o "index" X.env (eval o X.env) = eval o X.env := by rfl)
    (hfew : ((backTo cpos (starEach (e :: es) X.env)).all (fun x => !x.1) && (backToKw cpos (keywordEach [] X.env)).all (fun x => x.1.isSome) && decide ((e :: es).length + ([] : List Keyword).length + (if ([] : List Keyword).isEmpty then 0 else 1) < 30)) = true := by rfl)
    (hline : (apos.endLine == cpos.line) = true := by rfl) (hs : starEach (e :: es) X.env = (false, eval e X.env) :: starEach es X.env := by rfl) (hplain : (backTo cpos (starEach es X.env)).any (·.1) = false := by rfl) (hK : X.K = K := by rfl) :
    PE X (.Call (.Attribute o "index" apos) (e :: es) [] cpos) (tTupIx K to t) := by
  subst hK
  refine ⟨fun pins s σ H Q I h => ?_⟩
  refine wpAny_Call_method_late hbase hfew hline rfl (thn (ho.run pins s σ H _ I h) fun v s1 ⟨x, H1, I1, r1, ty, q1⟩ => ?_)
  obtain ⟨a, ob, ys, rfl, hka, nd⟩ := ty
  cases r1
  obtain ⟨hob, _, its, rv, ⟨o2, ho2, hc2, _⟩⟩ := (show ObjOk X.prog X.w H1 s1.heap a (.frz ob (.tup ys)) from I1.hok a _ hka)
  refine ⟨"tuple", "tuple.index", F.plainAttrs_tuple, F.slot_tuple_index, F.type_tuple_index, ⟨o2, ho2, hc2⟩, fun b z => by injection z with z; subst z; exact ⟨ob, hob, nd⟩, ?_⟩
  have hA := ha.run cpos pins s1 σ H1 _ I1 q1
  rw [hs] at hA ⊢
  refine Calls.callWith_builtin (by show (false || (backTo cpos (starEach es X.env)).any (·.1)) = false; rw [hplain]; rfl) (Calls.evalArgs_plain ?_)
  exact thn hA fun us s2 ⟨vs, H2, I2, r2, q2⟩ => mt_tupIx pins s2 σ H2 (.ref a) vs (.ref a) us Q I2 rfl r2 q2
end
end RL
/-! zip of two things, each a list or a tuple. -/
namespace RL
open PySem PySem.Spec PyProof.Rows L2
/-- what is drawn from: true a tuple, false a list -/
def hIt : Bool → Heap → Addr → Addr → Nat → Prop
  | true, h, i, l, k => h.IsTupleIter i l k
  | false, h, i, l, k => h.IsListIter i l k
def hSq : Bool → Heap → Addr → Array Value → Prop
  | true, h, l, xs => h.IsTuple l xs
  | false, h, l, xs => h.IsList l xs
theorem hIt.but {u : Bool} {h g : Heap} {c i l : Addr} {k : Nat} (x : hIt u h i l k) (e : Heap.ExtBut c h g) (n : i ≠ c) : hIt u g i l k := by
  cases u with
  | true => exact Heap.IsTupleIter.extBut x e n
  | false => exact Heap.IsListIter.extBut x e n
theorem hSq.but {u : Bool} {h g : Heap} {c l : Addr} {xs : Array Value} (x : hSq u h l xs) (e : Heap.ExtBut c h g) (n : l ≠ c) : hSq u g l xs := by
  cases u with
  | true => exact Heap.IsTuple.extBut x e n
  | false => exact Heap.IsList.extBut x e n
theorem hIt.to {u : Bool} {h g : Heap} {i l : Addr} {k : Nat} (x : hIt u h i l k) (e : ∀ o, h.get? i = some o → g.get? i = some o) : hIt u g i l k := by
  cases u with
  | true => exact Heap.IsTupleIter.at x e
  | false => exact Heap.IsListIter.at x e
theorem hIt.obj {u : Bool} {h : Heap} {i l : Addr} {k : Nat} (x : hIt u h i l k) : ∃ o, h.get? i = some o ∧ ∀ v, o.data ≠ .cell v := by
  cases u with
  | true =>
    obtain ⟨o, e, _, d⟩ := x
    exact ⟨o, e, fun v q => by rw [d] at q; cases q⟩
  | false =>
    obtain ⟨o, e, _, d⟩ := x
    exact ⟨o, e, fun v q => by rw [d] at q; cases q⟩
theorem hIt.small {u : Bool} {h : Heap} {i l : Addr} {k : Nat} (x : hIt u h i l k) : i < h.objs.size := by
  obtain ⟨o, e, _⟩ := x.obj
  exact Heap.lt_size e
section
variable {prog : Program} {w : World} {A : Around} {E : Value → Shared → Prop} {s : Shared}
theorem half_item {u : Bool} {it l : Addr} {k : Nat} {xs : Array Value} {x : Value} {Q : Value → Shared → Prop} (a1 : hIt u s.heap it l k) (a2 : hSq u s.heap l xs) (hx : xs[k]? = some x)
    (hq : ∀ g, hIt u g it l (k + 1) → Heap.SameBut it s.heap g → Q x { s with heap := g }) : wpAny (model prog w) A (Builtin.SmallTypes.nextOf (.ref it)) Q E s := by
  cases u with
  | true => exact RZ.nextOf_tuple_item a1 a2 hx hq
  | false => exact wpAny_nextOf_list_item a1 a2 hx hq
theorem half_end {u : Bool} {it l : Addr} {k : Nat} {xs : Array Value} {Q : Value → Shared → Prop} (hh : A.handled = none) (a1 : hIt u s.heap it l k) (a2 : hSq u s.heap l xs) (hx : xs[k]? = none)
    (he : ∀ g e, Heap.ExtBut it s.heap g → (∃ o, g.get? e = some o ∧ o.cls = .type "StopIteration") → E (.ref e) { s with heap := g }) : wpAny (model prog w) A (Builtin.SmallTypes.nextOf (.ref it)) Q E s := by
  cases u with
  | true => exact RZ.nextOf_tuple_end hh a1 a2 hx he
  | false => exact wpAny_nextOf_list_end hh a1 a2 hx he
theorem zh_item {q ti to m1 m2 d1 d2 : Addr} {u1 u2 : Bool} {n1 n2 : Nat} {vs1 vs2 : Array Value} {x y a b : Value} {Q : Value → Shared → Prop} (D : ZipApart q ti to m1 m2 d1 d2)
    (zz : IsZip s.heap q ti to .none) (pi : IsPair s.heap ti (.ref m1) (.ref m2)) (po : IsPair s.heap to a b)
    (w1 : hIt u1 s.heap m1 d1 n1) (w2 : hIt u2 s.heap m2 d2 n2) (s1 : hSq u1 s.heap d1 vs1) (s2 : hSq u2 s.heap d2 vs2) (hx : vs1[n1]? = some x) (hy : vs2[n2]? = some y)
    (hq : ∀ g, IsZip g q ti to (rawInt s.heap.objs.size) → IsPair g to x y → hIt u1 g m1 d1 (n1 + 1) → hIt u2 g m2 d2 (n2 + 1) → IsPair g s.heap.objs.size x y → g.objs.size = s.heap.objs.size + 1 →
      (∀ c o, c ≠ q → c ≠ to → c ≠ m1 → c ≠ m2 → s.heap.get? c = some o → g.get? c = some o) → Q (.ref s.heap.objs.size) { s with heap := g }) :
    wpAny (model prog w) A (Builtin.«zip.__next__» ⟨[.ref q], []⟩) (fun f s' => ∃ v, f = .done (.ret v) ∧ Q v s') E s := by
  show wpAny _ _ (field (.ref q) 2 >>= _) _ _ _
  refine wpAny_bind (wpAny_field zz rfl (x := .bool false) rfl ?_)
  show wpAny _ _ (field (.ref q) 3 >>= _) _ _ _
  refine wpAny_bind (wpAny_field zz rfl (x := .ref ti) rfl (wpAny_bind (wpAny_seqItems pi rfl ?_)))
  show wpAny _ _ (Builtin.SmallTypes.ownedTupleIsFree (.ref q) >>= _) _ _ _
  refine wpAny_bind ?_; unfold Builtin.SmallTypes.ownedTupleIsFree
  refine wpAny_bind (wpAny_field zz rfl (x := .none) rfl (wpAny_pure ?_))
  simp only [if_true]
  refine wpAny_bind (wpAny_rule (wpAny_bind (wpAny_field zz rfl (x := .ref to) rfl (wpAny_bind (wpAny_setField_rec zz (by simp) fun g1 zz1 b1 => ?_)))))
  replace zz1 : IsZip g1 q ti to .ellipsis := zz1
  refine wpAny_bind ?_
  simp only [List.zipIdx_nil, List.zipIdx_cons, List.forIn_nil, List.forIn_cons]
  refine wpAny_bind (wpAny_bind (wpAny_onRaise ?_))
  show wpAny _ _ (Builtin.SmallTypes.nextOf (.ref m1) >>= _) _ _ _
  refine wpAny_bind (half_item (w1.but b1.extBut D.i1z) (s1.but b1.extBut D.l1z) hx fun g2 v1 b2 => wpAny_pure ?_)
  have po2 : IsPair g2 to a b := b2.extBut _ _ D.TOi1 (b1.extBut _ _ D.TOz po)
  refine wpAny_bind (wpAny_seqItems po2 rfl (wpAny_bind (wpAny_updateSeq_pair po2 fun g3 po3 b3 => ?_)))
  replace po3 : IsPair g3 to x b := po3
  refine wpAny_bind (wpAny_letGo (wpAny_pure (wpAny_bind (wpAny_bind (wpAny_onRaise ?_)))))
  show wpAny _ _ (Builtin.SmallTypes.nextOf (.ref m2) >>= _) _ _ _
  refine wpAny_bind (half_item (((w2.but b1.extBut D.i2z).but b2.extBut D.i12.symm).but b3.extBut D.TOi2.symm) (((s2.but b1.extBut D.l2z).but b2.extBut D.l2i1).but b3.extBut D.l2TO) hy fun g4 v2 b4 => wpAny_pure ?_)
  have po4 : IsPair g4 to x b := b4.extBut _ _ D.TOi2 po3
  refine wpAny_bind (wpAny_seqItems po4 rfl (wpAny_bind (wpAny_updateSeq_pair po4 fun g5 po5 b5 => ?_)))
  replace po5 : IsPair g5 to x y := po5
  refine wpAny_bind (wpAny_letGo (wpAny_pure (wpAny_pure (wpAny_bind (wpAny_seqItems po5 rfl (wpAny_bind (wpAny_newTuple ?_)))))))
  have sz : g5.objs.size = s.heap.objs.size := by rw [b5.1, b4.1, b3.1, b2.1, b1.1]
  have zz5 : IsZip g5 q ti to .ellipsis := b5.extBut _ _ D.TOz.symm (b4.extBut _ _ D.i2z.symm (b3.extBut _ _ D.TOz.symm (b2.extBut _ _ D.i1z.symm zz1)))
  have old5 : ∀ c o, c ≠ q → c ≠ to → c ≠ m1 → c ≠ m2 → s.heap.get? c = some o → g5.get? c = some o := fun c o c1 c2 c3 c4 e => b5.extBut _ _ c2 (b4.extBut _ _ c4 (b3.extBut _ _ c2 (b2.extBut _ _ c3 (b1.extBut _ _ c1 e))))
  have v15 : hIt u1 g5 m1 d1 (n1 + 1) := ((v1.but b3.extBut D.TOi1.symm).but b4.extBut D.i12).but b5.extBut D.TOi1.symm
  have v25 : hIt u2 g5 m2 d2 (n2 + 1) := v2.but b5.extBut D.TOi2.symm
  have ql : q < g5.objs.size := Heap.lt_size zz5
  show wpAny _ _ (Builtin.SmallTypes.ownedTupleHandOut (.ref q) (.ref g5.objs.size) >>= _) _ _ _
  refine wpAny_bind ?_; unfold Builtin.SmallTypes.ownedTupleHandOut
  have zz6 : IsZip (g5.push { cls := .type "tuple", data := .seq #[x, y] }) q ti to .ellipsis := Heap.get?_push_of_some _ zz5
  refine wpAny_bind (wpAny_setField_rec zz6 (by simp) fun g7 zz7 b7 => ?_)
  replace zz7 : IsZip g7 q ti to (rawInt g5.objs.size) := zz7
  refine wpAny_setField_rec zz7 (by simp) fun g8 zz8 b8 => ?_
  replace zz8 : IsZip g8 q ti to (rawInt g5.objs.size) := zz8
  have up : ∀ c o, c ≠ q → g5.get? c = some o → g8.get? c = some o := fun c o c1 e => b8.extBut _ _ c1 (b7.extBut _ _ c1 (Heap.get?_push_of_some _ e))
  have t8 : IsPair g8 g5.objs.size x y := b8.extBut _ _ (Nat.ne_of_gt ql) (b7.extBut _ _ (Nat.ne_of_gt ql) (Heap.get?_push_size _ rfl))
  have sz8 : g8.objs.size = g5.objs.size + 1 := by rw [b8.1, b7.1, Heap.size_push]
  rw [sz] at zz8 t8 sz8
  refine wpAny_pure ⟨_, rfl, ?_⟩
  show Q (.ref g5.objs.size) _
  rw [sz]
  exact hq g8 zz8 (up _ _ D.TOz po5) (v15.to fun o e => up _ o D.i1z e) (v25.to fun o e => up _ o D.i2z e) t8 sz8 fun c o c1 c2 c3 c4 e => up c o c1 (old5 c o c1 c2 c3 c4 e)
theorem zh_end {q ti to m1 m2 d1 d2 : Addr} {u1 u2 : Bool} {n1 n2 : Nat} {vs1 vs2 : Array Value} {a b : Value} {Q : Fin → Shared → Prop} (hh : A.handled = none) (D : ZipApart q ti to m1 m2 d1 d2)
    (zz : IsZip s.heap q ti to .none) (pi : IsPair s.heap ti (.ref m1) (.ref m2)) (po : IsPair s.heap to a b)
    (w1 : hIt u1 s.heap m1 d1 n1) (w2 : hIt u2 s.heap m2 d2 n2) (s1 : hSq u1 s.heap d1 vs1) (s2 : hSq u2 s.heap d2 vs2) (he : vs1[n1]? = none ∨ vs2[n2]? = none)
    (hE : ∀ g e, (∀ c o, c ≠ q → c ≠ to → c ≠ m1 → c ≠ m2 → s.heap.get? c = some o → g.get? c = some o) → (∃ o, g.get? e = some o ∧ o.cls = .type "StopIteration") → E (.ref e) { s with heap := g }) :
    wpAny (model prog w) A (Builtin.«zip.__next__» ⟨[.ref q], []⟩) Q E s := by
  show wpAny _ _ (field (.ref q) 2 >>= _) _ _ _
  refine wpAny_bind (wpAny_field zz rfl (x := .bool false) rfl ?_)
  show wpAny _ _ (field (.ref q) 3 >>= _) _ _ _
  refine wpAny_bind (wpAny_field zz rfl (x := .ref ti) rfl (wpAny_bind (wpAny_seqItems pi rfl ?_)))
  show wpAny _ _ (Builtin.SmallTypes.ownedTupleIsFree (.ref q) >>= _) _ _ _
  refine wpAny_bind ?_; unfold Builtin.SmallTypes.ownedTupleIsFree
  refine wpAny_bind (wpAny_field zz rfl (x := .none) rfl (wpAny_pure ?_))
  simp only [if_true]
  refine wpAny_bind (wpAny_rule (wpAny_bind (wpAny_field zz rfl (x := .ref to) rfl (wpAny_bind (wpAny_setField_rec zz (by simp) fun g1 zz1 b1 => ?_)))))
  replace zz1 : IsZip g1 q ti to .ellipsis := zz1
  refine wpAny_bind ?_
  simp only [List.zipIdx_nil, List.zipIdx_cons, List.forIn_nil, List.forIn_cons]
  refine wpAny_bind (wpAny_bind (wpAny_onRaise ?_))
  show wpAny _ _ (Builtin.SmallTypes.nextOf (.ref m1) >>= _) _ _ _
  cases hx : vs1[n1]? with
  | none =>
    refine wpAny_bind (half_end hh (w1.but b1.extBut D.i1z) (s1.but b1.extBut D.l1z) hx fun g2 e b2 ⟨oe, hoe, hce⟩ => ?_)
    have zz2 : IsZip g2 q ti to .ellipsis := b2 _ _ D.i1z.symm zz1
    have ne : e ≠ q := fun x => by
      subst x
      rw [zz2] at hoe
      cases hoe
      simp at hce
    exact wpAny_setField_rec zz2 (by simp) fun g3 _ b3 => hE g3 e (fun c o c1 _ c3 _ x => b3.extBut _ _ c1 (b2 _ _ c3 (b1.extBut _ _ c1 x))) ⟨oe, b3.extBut _ _ ne hoe, hce⟩
  | some x =>
    have hy : vs2[n2]? = none := he.elim (fun z => by rw [hx] at z; cases z) id
    refine wpAny_bind (half_item (w1.but b1.extBut D.i1z) (s1.but b1.extBut D.l1z) hx fun g2 v1 b2 => wpAny_pure ?_)
    have po2 : IsPair g2 to a b := b2.extBut _ _ D.TOi1 (b1.extBut _ _ D.TOz po)
    refine wpAny_bind (wpAny_seqItems po2 rfl (wpAny_bind (wpAny_updateSeq_pair po2 fun g3 po3 b3 => ?_)))
    refine wpAny_bind (wpAny_letGo (wpAny_pure (wpAny_bind (wpAny_bind (wpAny_onRaise ?_)))))
    show wpAny _ _ (Builtin.SmallTypes.nextOf (.ref m2) >>= _) _ _ _
    refine wpAny_bind (half_end hh (((w2.but b1.extBut D.i2z).but b2.extBut D.i12.symm).but b3.extBut D.TOi2.symm) (((s2.but b1.extBut D.l2z).but b2.extBut D.l2i1).but b3.extBut D.l2TO) hy fun g4 e b4 ⟨oe, hoe, hce⟩ => ?_)
    have zz4 : IsZip g4 q ti to .ellipsis := b4 _ _ D.i2z.symm (b3.extBut _ _ D.TOz.symm (b2.extBut _ _ D.i1z.symm zz1))
    have ne : e ≠ q := fun x => by
      subst x
      rw [zz4] at hoe
      cases hoe
      simp at hce
    exact wpAny_setField_rec zz4 (by simp) fun g5 _ b5 => hE g5 e (fun c o c1 c2 c3 c4 x => b5.extBut _ _ c1 (b4 _ _ c4 (b3.extBut _ _ c2 (b2.extBut _ _ c3 (b1.extBut _ _ c1 x))))) ⟨oe, b5.extBut _ _ ne hoe, hce⟩
theorem zh_next_item {q ti to m1 m2 d1 d2 : Addr} {u1 u2 : Bool} {n1 n2 : Nat} {vs1 vs2 : Array Value} {x y a b : Value} {Q : Option Value → Shared → Prop} (D : ZipApart q ti to m1 m2 d1 d2)
    (zz : IsZip s.heap q ti to .none) (pi : IsPair s.heap ti (.ref m1) (.ref m2)) (po : IsPair s.heap to a b)
    (w1 : hIt u1 s.heap m1 d1 n1) (w2 : hIt u2 s.heap m2 d2 n2) (s1 : hSq u1 s.heap d1 vs1) (s2 : hSq u2 s.heap d2 vs2) (hx : vs1[n1]? = some x) (hy : vs2[n2]? = some y)
    (hq : ∀ g, IsZip g q ti to (rawInt s.heap.objs.size) → IsPair g to x y → hIt u1 g m1 d1 (n1 + 1) → hIt u2 g m2 d2 (n2 + 1) → IsPair g s.heap.objs.size x y → g.objs.size = s.heap.objs.size + 1 →
      (∀ c o, c ≠ q → c ≠ to → c ≠ m1 → c ≠ m2 → s.heap.get? c = some o → g.get? c = some o) → Q (some (.ref s.heap.objs.size)) { s with heap := g }) :
    wpAny (model prog w) A (pyNext (.ref q)) Q E s := by
  have ty : s.TypeIs (.ref q) "zip" := ⟨_, zz, rfl⟩
  unfold pyNext
  exact wpAny_bind (wpAny_attempt (wpAny_callSpecial?_slot (name := Str.ofString "__next__") ty F.slot_zip_next (wpAny_call_entry F.slot_zip_next ty F.entry_zip_next
    (zh_item D zz pi po w1 w2 s1 s2 hx hy fun g a1 a2 a3 a4 a5 a6 a7 => wpAny_pure (hq g a1 a2 a3 a4 a5 a6 a7)) (F.args_zip_next_1 _))))
theorem zh_next_end {q ti to m1 m2 d1 d2 : Addr} {u1 u2 : Bool} {n1 n2 : Nat} {vs1 vs2 : Array Value} {a b : Value} {Q : Option Value → Shared → Prop} (hh : A.handled = none) (D : ZipApart q ti to m1 m2 d1 d2)
    (zz : IsZip s.heap q ti to .none) (pi : IsPair s.heap ti (.ref m1) (.ref m2)) (po : IsPair s.heap to a b)
    (w1 : hIt u1 s.heap m1 d1 n1) (w2 : hIt u2 s.heap m2 d2 n2) (s1 : hSq u1 s.heap d1 vs1) (s2 : hSq u2 s.heap d2 vs2) (he : vs1[n1]? = none ∨ vs2[n2]? = none)
    (hq : ∀ g, (∀ c o, c ≠ q → c ≠ to → c ≠ m1 → c ≠ m2 → s.heap.get? c = some o → g.get? c = some o) → Q none { s with heap := g }) : wpAny (model prog w) A (pyNext (.ref q)) Q E s := by
  have ty : s.TypeIs (.ref q) "zip" := ⟨_, zz, rfl⟩
  unfold pyNext
  refine wpAny_bind (wpAny_attempt (wpAny_callSpecial?_slot (name := Str.ofString "__next__") ty F.slot_zip_next (wpAny_call_entry F.slot_zip_next ty F.entry_zip_next
    (zh_end hh D zz pi po w1 w2 s1 s2 he fun g e hk ⟨o, ho, hc⟩ => ?_) (F.args_zip_next_1 _))))
  exact wpAny_bind (wpAny_isInstance (T := "StopIteration") (b := true) ⟨o, ho, hc⟩ isSubtype_stop (wpAny_pure (hq _ hk)))
end
/-- the iterator of either -/
def itO : Bool → Addr → Obj
  | true, l => { cls := .type "tuple_iterator", data := .fields #[.ref l, .int 0 0] }
  | false, l => { cls := .type "list_iterator", data := .fields #[.ref l, .int 0 0] }
theorem itO_free (u : Bool) (l : Addr) : (itO u l).isFreed = false := by cases u <;> rfl
theorem itO_is {u : Bool} {h : Heap} {i l : Addr} (e : h.get? i = some (itO u l)) : hIt u h i l 0 := by
  cases u with
  | true => exact ⟨_, e, rfl, rfl⟩
  | false => exact ⟨_, e, rfl, rfl⟩
theorem half_iter {prog : Program} {w : World} {A : Around} {E : Value → Shared → Prop} {s : Shared} {u : Bool} {l : Addr} {xs : Array Value} {Q : Value → Shared → Prop} (h : hSq u s.heap l xs) (q : Q (.ref s.heap.objs.size) { s with heap := s.heap.push (itO u l) }) :
    wpAny (model prog w) A (pyIter (.ref l)) Q E s := by
  cases u with
  | true => exact wpAny_pyIter_tuple h q
  | false => exact wpAny_pyIter_list h q
theorem hSq.push {u : Bool} {h : Heap} {l : Addr} {xs : Array Value} (x : hSq u h l xs) (o : Obj) : hSq u (h.push o) l xs := by
  cases u with
  | true => exact Heap.IsTuple.push x o
  | false => exact Heap.IsList.push x o
abbrev zg1 (h : Heap) (u1 : Bool) (d1 : Addr) : Heap := h.push (itO u1 d1)
abbrev zg2 (h : Heap) (u1 u2 : Bool) (d1 d2 : Addr) : Heap := (zg1 h u1 d1).push (itO u2 d2)
abbrev zg3 (h : Heap) (u1 u2 : Bool) (d1 d2 : Addr) : Heap := (zg2 h u1 u2 d1 d2).push { cls := .type "tuple", data := .seq #[.ref h.objs.size, .ref (zg1 h u1 d1).objs.size] }
abbrev zg4 (h : Heap) (u1 u2 : Bool) (d1 d2 : Addr) : Heap := (zg3 h u1 u2 d1 d2).push { cls := .type "tuple", data := .seq #[.none, .none] }
abbrev zg5 (h : Heap) (u1 u2 : Bool) (d1 d2 : Addr) : Heap := (zg4 h u1 u2 d1 d2).push { cls := .type "zip", data := .fields #[.none, .bool false, .bool false, .ref (zg2 h u1 u2 d1 d2).objs.size, .ref (zg3 h u1 u2 d1 d2).objs.size] }
theorem zh_made (u1 u2 : Bool) (d1 d2 : Addr) (vs1 vs2 : Array Value) :
    Meets (Builtin.«zip.__new__» ⟨[.type "zip", .ref d1, .ref d2], []⟩) (fun _ R s => hSq u1 s.heap d1 vs1 ∧ hSq u2 s.heap d2 vs2 ∧ R (.ok (.ret (.ref (zg4 s.heap u1 u2 d1 d2).objs.size))) { s with heap := zg5 s.heap u1 u2 d1 d2 }) :=
  .of_wp fun prog w A R s h => by
    obtain ⟨hp, g, d, tk, os⟩ := s
    obtain ⟨k1, k2, h⟩ := h
    have sub := sub_zip
    have K1 : hSq u1 (Shared.heap ⟨hp, g, d, tk, os⟩) d1 vs1 := k1
    have K2 : hSq u2 (Shared.heap ⟨hp.push (itO u1 d1), g, d, tk, os⟩) d2 vs2 := k2.push _
    wp_walk using half_iter K1, half_iter K2
    exact ⟨_, rfl, h⟩
theorem zh_call {prog : Program} {w : World} {A : Around} {E : Value → Shared → Prop} {s : Shared} {u1 u2 : Bool} {d1 d2 : Addr} {vs1 vs2 : Array Value} {Q : Value → Shared → Prop} (s1 : hSq u1 s.heap d1 vs1) (s2 : hSq u2 s.heap d2 vs2)
    (h : ∀ g, IsZip g (s.heap.objs.size + 4) (s.heap.objs.size + 2) (s.heap.objs.size + 3) .none → IsPair g (s.heap.objs.size + 2) (.ref s.heap.objs.size) (.ref (s.heap.objs.size + 1)) → IsPair g (s.heap.objs.size + 3) .none .none → hIt u1 g s.heap.objs.size d1 0 → hIt u2 g (s.heap.objs.size + 1) d2 0 →
      (∀ c o, s.heap.get? c = some o → g.get? c = some o) → Q (.ref (s.heap.objs.size + 4)) { s with heap := g }) :
    wpAny (model prog w) A (call (.type "zip") [.ref d1, .ref d2]) Q E s := by
  refine callType_new F.called_zip (by decide) (F.typeCall_zip_2 _ _) (F.newCall_zip_2 _ _) (fun ob => F.args_object_init_3 ob _ _) F.entry_zip_new (zh_made u1 u2 d1 d2 vs1 vs2) ⟨s1, s2, ?_⟩
  have e1 : (zg1 s.heap u1 d1).objs.size = s.heap.objs.size + 1 := Heap.size_push ..
  have e2 : (zg2 s.heap u1 u2 d1 d2).objs.size = s.heap.objs.size + 2 := by rw [Heap.size_push, e1]
  have e3 : (zg3 s.heap u1 u2 d1 d2).objs.size = s.heap.objs.size + 3 := by rw [Heap.size_push, e2]
  have e4 : (zg4 s.heap u1 u2 d1 d2).objs.size = s.heap.objs.size + 4 := by rw [Heap.size_push, e3]
  have f5 : (zg5 s.heap u1 u2 d1 d2).get? (zg4 s.heap u1 u2 d1 d2).objs.size = some _ := Heap.get?_push_size _ rfl
  have f4 : (zg5 s.heap u1 u2 d1 d2).get? (zg3 s.heap u1 u2 d1 d2).objs.size = some _ := Heap.get?_push_of_some _ (Heap.get?_push_size _ rfl)
  have f3 : (zg5 s.heap u1 u2 d1 d2).get? (zg2 s.heap u1 u2 d1 d2).objs.size = some _ := Heap.get?_push_of_some _ (Heap.get?_push_of_some _ (Heap.get?_push_size _ rfl))
  have f2 : (zg5 s.heap u1 u2 d1 d2).get? (zg1 s.heap u1 d1).objs.size = some _ := Heap.get?_push_of_some _ (Heap.get?_push_of_some _ (Heap.get?_push_of_some _ (Heap.get?_push_size _ (itO_free u2 d2))))
  have f1 : (zg5 s.heap u1 u2 d1 d2).get? s.heap.objs.size = some _ := Heap.get?_push_of_some _ (Heap.get?_push_of_some _ (Heap.get?_push_of_some _ (Heap.get?_push_of_some _ (Heap.get?_push_size _ (itO_free u1 d1)))))
  show _ ∧ _
  rw [e2, e3, e4] at f5
  rw [e1, e2] at f3
  rw [e3] at f4
  rw [e1] at f2
  rw [e4]
  exact ⟨⟨_, f5, rfl⟩, h _ f5 f3 f4 (itO_is f1) (itO_is f2) fun c o x => Heap.get?_push_of_some _ (Heap.get?_push_of_some _ (Heap.get?_push_of_some _ (Heap.get?_push_of_some _ (Heap.get?_push_of_some _ x))))⟩
/-- a list or a tuple as it stands -/
def SqH (u : Bool) (K : PySem.W.Frag) (H : Hp) (a : Addr) (xs : List V) : Prop := match u with
  | true => SqT K H a xs
  | false => SqL K H a xs
def Itzh (u1 u2 : Bool) (K : PySem.W.Frag) (a b : Addr) : It :=
  ⟨fun i H => ∃ (xs ys : List V) (x y : V), SqH u1 K H a xs ∧ SqH u2 K H b ys ∧ xs[i]? = some x ∧ ys[i]? = some y,
    fun i H v H' => ∃ T x y, v = .ref T ∧ H T = none ∧ H' = upd H T (.tup [x, y]) ∧ (∀ xs, SqH u1 K H a xs → xs[i]? = some x) ∧ ∀ ys, SqH u2 K H b ys → ys[i]? = some y,
    fun i H => ∃ xs ys : List V, SqH u1 K H a xs ∧ SqH u2 K H b ys ∧ (xs.length ≤ i ∨ ys.length ≤ i)⟩
theorem inv_half {X : Cx} {pins : List (Addr × Obj)} {σ : L2.St} {H : Hp} {s : Shared} {u : Bool} {a : Addr} {xs : List V} (I : L2.Inv X pins σ H s) (h : SqH u X.K H a xs) : ∃ its, Vals xs its ∧ hSq u s.heap a its.toArray ∧ a < s.heap.objs.size := by
  cases u with
  | true =>
    obtain ⟨its, rv, p, _⟩ := I.tuple h
    refine ⟨its, rv, p, ?_⟩
    obtain ⟨o, ho, _⟩ := id p
    exact Heap.lt_size ho
  | false =>
    obtain ⟨its, rv, p, _⟩ := I.list h
    exact ⟨its, rv, p.isList, p.lt⟩
theorem inv_half_inj {X : Cx} {pins : List (Addr × Obj)} {σ : L2.St} {H : Hp} {s : Shared} {u : Bool} {a : Addr} {xs ys : List V} (I : L2.Inv X pins σ H s) (h : SqH u X.K H a xs) (g : SqH u X.K H a ys) : xs = ys := by
  cases u with
  | true => exact I.tuple_inj h g
  | false => exact I.list_inj h g
theorem turn_zh {P : Program} {w : World} {K : PySem.W.Frag} {elts : List Expr} {kk : Nat} {tpos : Pos} {u1 u2 : Bool} {a b q ti to m1 m2 : Addr} (D : ZipApart q ti to m1 m2 a b) :
    Turn P w K (.Tuple elts kk tpos) (Itzh u1 u2 K a b) [q, ti, to, m1, m2] q (fun i h => IsZip h q ti to .none ∧ IsPair h ti (.ref m1) (.ref m2) ∧ (∃ x y, IsPair h to x y) ∧ hIt u1 h m1 a i ∧ hIt u2 h m2 b i) where
  mem := by simp
  obj := fun i h st c hc => by
    obtain ⟨zz, pi, ⟨x, y, po⟩, w1, w2⟩ := st
    have e : c = q ∨ c = ti ∨ c = to ∨ c = m1 ∨ c = m2 := by simpa using hc
    rcases e with z | z | z | z | z
    · rw [z]; exact ⟨_, zz, fun v e => nomatch e⟩
    · rw [z]; exact ⟨_, pi, fun v e => nomatch e⟩
    · rw [z]; exact ⟨_, po, fun v e => nomatch e⟩
    · rw [z]; exact w1.obj
    · rw [z]; exact w2.obj
  keep := fun i h h' st k => by
    obtain ⟨zz, pi, ⟨x, y, po⟩, w1, w2⟩ := st
    exact ⟨k q (by simp) _ zz, k ti (by simp) _ pi, ⟨x, y, k to (by simp) _ po⟩, w1.to fun o e => k m1 (by simp) o e, w2.to fun o e => k m2 (by simp) o e⟩
  item := by
    intro X hP hw hK hc i pins s σ H E I hf st hg
    subst hP hw hK
    obtain ⟨zz, pi, ⟨x0, y0, po⟩, w1, w2⟩ := st
    obtain ⟨xs, ys, x, y, hqx, hqy, hx, hy⟩ := hg
    obtain ⟨its, rv, p, _⟩ := inv_half I hqx
    obtain ⟨its2, rv2, p2, _⟩ := inv_half I hqy
    obtain ⟨v, hv, ru⟩ := rv.get hx
    obtain ⟨v2, hv2, ru2⟩ := rv2.get hy
    have ql : q < s.heap.objs.size := Heap.lt_size zz
    refine zh_next_item D zz pi po w1 w2 p p2 (x := v) (y := v2) (by simpa using hv) (by simpa using hv2) fun g z1 po1 w11 w21 hT hsz hk => ?_
    refine ⟨_, rfl, wpAny_letOwnedTupleGo_zip (s := { s with heap := g }) z1 fun g2 z2 sb => ?_⟩
    have hT2 : g2.get? s.heap.objs.size = some { cls := .type "tuple", data := .seq #[v, v2] } := (sb.2 _ (Nat.ne_of_gt ql)).trans hT
    have new : ObjOk X.prog X.w (upd H s.heap.objs.size (.tup [x, y])) g2 s.heap.objs.size (.tup [x, y]) := ⟨by show 2 ≤ sizeLine; decide, [v, v2], .cons ru (.cons ru2 .nil), ⟨_, hT2, rfl, _, rfl⟩⟩
    have I1 : Inv X pins σ (upd H s.heap.objs.size (.tup [x, y])) { s with heap := g2 } := I.turnedNew (t' := s.toks) (ch := [q, ti, to, m1, m2])
      (fun c o hb e => (sb.2 c (fun z => hb (by simp [z]))).trans (hk c o (fun z => hb (by simp [z])) (fun z => hb (by simp [z])) (fun z => hb (by simp [z])) (fun z => hb (by simp [z])) e)) hf (Nat.le_refl _) new
    refine ⟨.ref s.heap.objs.size, _, I1, rfl, ⟨_, x, y, rfl, I.hok.fresh (Nat.le_refl _), rfl, fun l hl => by rw [inv_half_inj I hl hqx]; exact hx, fun l hl => by rw [inv_half_inj I hl hqy]; exact hy⟩, ⟨z2, ?_, ⟨v, v2, ?_⟩, ?_, ?_⟩, fun c hcm => ?_⟩
    · exact (sb.2 _ D.TIz).trans (hk _ _ D.TIz D.TITO D.TIi1 D.TIi2 pi)
    · exact (sb.2 _ D.TOz).trans po1
    · exact w11.to fun o e => (sb.2 _ D.i1z).trans e
    · exact w21.to fun o e => (sb.2 _ D.i2z).trans e
    · have lt : c < s.heap.objs.size := by
        have e : c = q ∨ c = ti ∨ c = to ∨ c = m1 ∨ c = m2 := by simpa using hcm
        rcases e with z | z | z | z | z
        · rw [z]; exact ql
        · rw [z]; exact Heap.lt_size pi
        · rw [z]; exact Heap.lt_size po
        · rw [z]; exact w1.small
        · rw [z]; exact w2.small
      rw [upd_ne (Nat.ne_of_lt lt)]
      exact (hf c hcm).1
  done := by
    intro X hP hw hK hc i pins s σ H E I hf st hg
    subst hP hw hK
    obtain ⟨zz, pi, ⟨x0, y0, po⟩, w1, w2⟩ := st
    obtain ⟨xs, ys, hqx, hqy, hend⟩ := hg
    obtain ⟨its, rv, p, _⟩ := inv_half I hqx
    obtain ⟨its2, rv2, p2, _⟩ := inv_half I hqy
    have l1 := rv.length
    have l2 := rv2.length
    have he : its.toArray[i]? = none ∨ its2.toArray[i]? = none := hend.imp (fun z => by simp; omega) fun z => by simp; omega
    exact zh_next_end (I.ok.hd hc) D zz pi po w1 w2 p p2 he fun g hk => ⟨rfl, I.turnedL (t' := s.toks) (ch := [q, ti, to, m1, m2]) (fun c o hb e =>
      hk c o (fun z => hb (by simp [z])) (fun z => hb (by simp [z])) (fun z => hb (by simp [z])) (fun z => hb (by simp [z])) e) hf⟩
  self := fun A i s Q E st h => wpAny_pyIter_zip st.1 h
section
variable {X : Cx} {K : PySem.W.Frag}
def iZh (u1 u2 : Bool) (K : PySem.W.Frag) (ta : TA) : TI := fun σ H R => ta σ H fun vs H1 => ∃ a b xs ys, vs = [.ref a, .ref b] ∧ SqH u1 K H1 a xs ∧ SqH u2 K H1 b ys ∧ R (Itzh u1 u2 K a b) H1
theorem pi_zh (u1 u2 : Bool) {e e2 : Expr} {ta : TA} {p pos tpos : Pos} {elts : List Expr} {kk : Nat} (hg : Gl X "zip") (hm : X.mg "zip" = none) (ha : PA X [e, e2] ta)
    (hs : starEach [e, e2] X.env = (false, eval e X.env) :: starEach [e2] X.env := by rfl) (hpl : (backTo pos (starEach [e2] X.env)).any (·.1) = false := by rfl) (hK : X.K = K := by rfl) :
    PI X (.Tuple elts kk tpos) (.Call (.Name "zip" p) [e, e2] [] pos) (iZh u1 u2 K ta) := by
  subst hK
  refine ⟨fun pins s σ H R I h => ?_⟩
  refine Call_ (ld_blt I hg hm PyProof.Rows.boot_zip (PyProof.Rows.callWith_type1 (thn (ha.run pos pins s σ H _ I h) fun us s1 ⟨vs, H1, I1, r1, q1⟩ => ?_) hs hpl))
  obtain ⟨a, b, xs, ys, rfl, hqx, hqy, q⟩ := q1
  cases r1 with
  | cons r rr =>
    cases rr with
    | cons r' rr =>
      cases rr
      cases r
      cases r'
      have new5 : ∀ c, c ∈ [s1.heap.objs.size + 4, s1.heap.objs.size + 2, s1.heap.objs.size + 3, s1.heap.objs.size, s1.heap.objs.size + 1] → FpOk X pins H1 c := fun c hcm => by
        have le : s1.heap.objs.size ≤ c := by
          simp only [List.mem_cons, List.not_mem_nil, or_false] at hcm
          rcases hcm with z | z | z | z | z <;> rw [z] <;> first | exact Nat.le_refl _ | exact Nat.le_add_right _ _
        exact I1.fpOk le (I1.hok.fresh le)
      obtain ⟨its, rv, p1, lt1⟩ := inv_half I1 hqx
      obtain ⟨its2, rv2, p2, lt2⟩ := inv_half I1 hqy
      refine zh_call p1 p2 fun g zz pi po w1 w2 hk => wpAny_pyIter_zip zz ?_
      have I2 : Inv X pins σ H1 { s1 with heap := g } := I1.kept (t' := s1.toks) hk
      exact ⟨s1.heap.objs.size + 4, [s1.heap.objs.size + 4, s1.heap.objs.size + 2, s1.heap.objs.size + 3, s1.heap.objs.size, s1.heap.objs.size + 1], _, _, H1, rfl, I2, turn_zh (PySem.W.ktu_apart s1.heap.objs.size a b lt1 lt2), ⟨zz, pi, ⟨_, _, po⟩, w1, w2⟩, new5, q⟩
theorem walk_zh {u1 u2 : Bool} {a b : Addr} {xs ys : List V} {n : Nat} (hn : n = min xs.length ys.length) : Walk (Itzh u1 u2 K a b) n (fun H => SqH u1 K H a xs ∧ SqH u2 K H b ys) (YPair (fun i => xs[i]?) (fun i => ys[i]?)) := by
  subst hn
  refine ⟨fun i H hi q => ⟨xs, ys, xs[i]'(by omega), ys[i]'(by omega), q.1, q.2, List.getElem?_eq_getElem _, List.getElem?_eq_getElem _⟩, fun H q => ⟨xs, ys, q.1, q.2, by omega⟩, fun i H v H' hi q y => ?_⟩
  obtain ⟨T, x, z, h1, h2, h3, h4, h5⟩ := y
  exact ⟨T, x, z, h1, h2, h3, h4 xs q.1, h5 ys q.2⟩
/-- t[::-1], t a tuple -/
def tRevT (K : PySem.W.Frag) (te : TE) : TE := fun σ H Q => te σ H fun x H1 => ∃ a xs, x = .ref a ∧ SqT K H1 a xs ∧ ∀ p, H1 p = none → Q (.ref p) (upd H1 p (.tup xs.reverse))
end
end RL
/-! set(l) of a list of ints; xs[::-1]. -/
namespace RL
open PySem PySem.Spec PyProof.Rows L2
abbrev nSet (w : World) : Obj := { cls := .type "set", dict := none, data := .set #[] 0 (.fresh 0 0 (!w.params.followText "set-order")) }
set_option maxHeartbeats 3200000 in
theorem set_of_list {P : Program} {w : World} {A : Around} {E : Value → Shared → Prop} {s : Shared} {l : Addr} {items : Array Value} (ms : List Int) {Q : Value → Shared → Prop} (hh : A.handled = none) (hl : s.heap.IsList l items) (im : IntsAre items.toList ms) (hb : ms.length + 1 < scanBound)
    (h : ∀ (g : Heap) (tk c : Nat), SetR w g s.heap.objs.size (fun j => decide (j ∈ ms)) c → c ≤ ms.length → (∀ b o, s.heap.get? b = some o → g.get? b = some o) → Q (.ref s.heap.objs.size) { s with heap := g, toks := tk }) :
    wpAny (model P w) A (call (.type "set") [.ref l]) Q E s := by
  have isz : items.size = ms.length := by
    have z := IntsAre.length im
    rwa [Array.length_toList] at z
  obtain ⟨cc, tl, mro⟩ := F.called_set.mro
  have made := F.called_set.made
  have sub := F.called_set.sub
  refine wpAny_call (codeAny_of_tree ?_)
  show wpAny _ _ (callAny (.type "set") _) _ _ _
  refine wpAny_pure ⟨Code.quiet_builtin _ (by decide +kernel), codeAny_builtin F.entry_type_call ?_⟩
  rw [Around.under_plain (weight_type_call_type "set" [.ref l] []) rfl]
  have q1 := F.called_set.notType
  have q2 := F.called_set.canCreate
  have q3 := F.typeCall_set_1 (.ref l)
  repeat (any_goals (first | assumption | wp_step))
  refine codeAny_mono (code_set_led1 (.ref l) (E := E) (Q₁ := fun ob s1 => ob = .ref s.heap.objs.size ∧ s1 = { s with heap := s.heap.push (nSet w) }) ⟨rfl, rfl⟩) fun r s1 hr => ?_
  cases r with
  | error e => exact hr
  | ok fl =>
    cases fl with
    | ret ob =>
      obtain ⟨rfl, rfl⟩ := hr
      have nS : (s.heap.push (nSet w)).get? s.heap.objs.size = some (nSet w) := Heap.get?_push_size _ rfl
      have ty : Shared.TypeIs { s with heap := s.heap.push (nSet w) } (.ref s.heap.objs.size) "set" := ⟨_, nS, rfl⟩
      have li := F.called_set.init.lookup
      have bi := F.called_set.init.bind (.ref s.heap.objs.size)
      repeat (any_goals (first | assumption | wp_step))
      refine codeAny_mono (codeAny_call_builtin (R := wants (fun r s2 => r = .none ∧ ∃ g tk c, s2 = { s with heap := g, toks := tk } ∧ SetR w g s.heap.objs.size (fun j => decide (j ∈ ms)) c ∧ c ≤ ms.length ∧ (∀ b o, s.heap.get? b = some o → g.get? b = some o)) E) F.called_set.init.plain F.entry_set_init (check_set_init_1 ty ?_)) fun r2 s2 hr2 => ?_
      · have l1 : (s.heap.push (nSet w)).IsList l items := hl.push _
        have lty : Shared.TypeIs { s with heap := s.heap.push (nSet w) } (.ref l) "list" := l1.typeIs
        obtain ⟨ol, hol, hcl, el, hdl⟩ := id hl
        obtain ⟨oc, od, odt, os⟩ := ol
        simp only at hcl hdl
        subst hcl; subst hdl
        have hol' : (s.heap.push (nSet w)).get? l = some { cls := .type "list", dict := od, data := .seq items el, slots := os } := Heap.get?_push_of_some _ hol
        have b1 := F.sub_list_set
        have b2 := F.sub_list_frozenset
        have nd : (Value.type "list" == Value.type "dict") = false := by decide
        unfold Builtin.«set.__init__» noKeywords Builtin.Frozenset.updateFrom
        generalize hPI : pyIter = PI
        wp_walk
        subst hPI
        refine wpAny_pyIter_list l1 (wpAny_bind (wpAny_runValue ?_))
        have lS : l < s.heap.objs.size := Heap.lt_size hol
        have hh3 : A.in1.in1.in1.handled = none := by simp [hh]
        have neI : l ≠ (s.heap.push (nSet w)).objs.size := by rw [Heap.size_push]; exact Nat.ne_of_lt (Nat.lt_succ_of_lt lS)
        have nf : s.heap.objs.size ∉ [(s.heap.push (nSet w)).objs.size, l] := by
          rw [Heap.size_push]
          simp only [List.mem_cons, List.mem_singleton, List.not_mem_nil, or_false, not_or]
          exact ⟨Nat.ne_of_lt (Nat.lt_succ_self _), Nat.ne_of_gt lS⟩
        have val : ∀ (i : Nat) (v : Value), items[i]? = some v → ∃ k t, ms[i]? = some k ∧ v = .int k t := fun i v hv => by
          have hi : i < ms.length := by rw [← isz]; exact (Array.getElem?_eq_some_iff.mp hv).1
          obtain ⟨t, e⟩ := PyProof.Rows.IntsAre.int_at im i v (by rw [Array.getElem?_toList]; exact hv)
          refine ⟨ms[i], t, List.getElem?_eq_getElem hi, ?_⟩
          rw [e, List.getD_eq_getElem?_getD, List.getElem?_eq_getElem hi] <;> rfl
        refine set_update_ints ((Walks.list hh3 _ l neI items).toS) s.heap.objs.size nf ms isz hb val (items.size - 0) 0 _ (by omega) (Nat.zero_le _) ⟨⟨_, Heap.get?_push_size _ rfl, rfl, rfl⟩, (l1.push _)⟩ ?hS0 ?hR
        case hS0 => exact ⟨0, Nat.le_refl 0, setR_new_at (Heap.get?_push_of_some _ nS)⟩
        case hR =>
          rintro ⟨g, g2, d2, tk2, os2⟩ c2 hm hc2 hS2
          have eg : g2 = s.gens := hm.gens
          have ed : d2 = s.drawn := hm.drawn
          have eo : os2 = s.os := hm.os
          subst eg; subst ed; subst eo
          show wpAny _ _ _ _ _ _
          refine wpAny_pure ?_
          show wpAny _ _ (ret Value.none) _ _ _
          rw [isz] at hc2
          refine wpAny_pure ⟨rfl, g, tk2, c2, rfl, hS2, hc2, fun b o e => ?_⟩
          have h0 : b < s.heap.objs.size := Heap.lt_size e
          refine hm.heap b o ?_ (Heap.get?_push_of_some _ (Heap.get?_push_of_some _ e))
          rw [Heap.size_push]
          simp only [List.mem_cons, List.mem_singleton, List.not_mem_nil, or_false, not_or]
          exact ⟨Nat.ne_of_lt h0, Nat.ne_of_lt (Nat.lt_succ_of_lt h0)⟩
      · cases r2 with
        | error e => exact hr2
        | ok f2 =>
          cases f2 with
          | ret r =>
            obtain ⟨rfl, g, tk, c2, rfl, hS2, hc2, hk2⟩ := hr2
            repeat (any_goals (first | assumption | wp_step))
            exact h _ _ _ hS2 hc2 hk2
          | _ => exact hr2.elim
    | _ => exact hr.elim
section
variable {X : Cx} {K : PySem.W.Frag}
def rSetL (w : World) (K : PySem.W.Frag) : List V → Hp → VK → Prop := fun vs H Q => ∃ (a : Addr) (ns : List Int), vs = [.ref a] ∧ SqL K H a (ns.map V.int) ∧ ns.length ≤ 4000 ∧
  ∀ (p : Addr) (c : Nat), H p = none → c ≤ ns.length → (∀ m : List Int, (∀ k ∈ ns, k ∈ m) → c ≤ m.length) → Q (.ref p) (upd H p (SetO w p (fun j => decide (j ∈ ns)) c))
theorem setLK {w : World} (hc : X.calm = true := by rfl) (hw : X.w = w := by rfl) (hK : X.K = K := by rfl) : CallR X (.type "set") (rSetL w K) := by
  subst hw hK
  intro pins s σ H vs us Q I r h
  obtain ⟨a, ns, rfl, hs, hz, q⟩ := h
  obtain ⟨its, rv, ht, _⟩ := I.list hs
  rw [Vals.ref1 r]
  have hi : IntsAre its.toArray.toList ns := by simpa using rv.ints
  refine set_of_list ns (I.ok.hd hc) ht.isList hi (Nat.lt_of_le_of_lt (Nat.succ_le_succ hz) (by decide)) fun h' tk c R hcl hk => ?_
  refine ⟨.ref _, _, I.laid hk (Nat.le_refl _) (setO_new R), rfl, q _ c (I.hok.fresh (Nat.le_refl _)) hcl fun m hm => ?_⟩
  obtain ⟨o, es, ep, t, _, _, _, _, nd, mem, _, _, sz, _⟩ := R
  have le : (es.toList.map keyOf).length ≤ m.length := nd.length_le_of_subset fun k hk => hm k (of_decide_eq_true ((mem k).2 hk))
  rw [List.length_map, Array.length_toList, sz] at le
  exact le
theorem pe_revLK {e : Expr} {te : TE} {k : Nat} {p1 p2 p3 pos : Pos} (he : PE X e te) (hK : X.K = K := by rfl) : PE X (.Subscript e (.Slice none none (some (.UnaryOp .USub (.Constant (.int 1) k p1) p2)) p3) pos) (tRevL K te) := hK ▸ pe_revL he
end
end RL
/-! t[::-1], t a tuple. -/
namespace RL
open PySem PySem.Spec PyProof.Rows L2
theorem turned_pick (xs : Array Value) : ((List.range xs.size).filterMap fun (m : Nat) => xs[(((xs.size : Nat) : Int) - 1 + (m : Int) * (-1)).toNat]?).toArray = xs.toList.reverse.toArray := by
  congr 1
  have e : ∀ m ∈ List.range xs.size, xs[(((xs.size : Nat) : Int) - 1 + (m : Int) * (-1)).toNat]? = ((fun k => xs[k]?) ∘ fun k => xs.size - 1 - k) m := fun m hm => by
    have hm := List.mem_range.mp hm
    rw [show (((xs.size : Nat) : Int) - 1 + (m : Int) * (-1)).toNat = xs.size - 1 - m by omega]
    rfl
  have fc : ∀ (l : List Nat) (f g : Nat → Option Value), (∀ m ∈ l, f m = g m) → l.filterMap f = l.filterMap g := fun l f g h => by
    induction l with
    | nil => rfl
    | cons x l ih => rw [List.filterMap_cons, List.filterMap_cons, h x (by simp), ih fun m hm => h m (List.mem_cons_of_mem _ hm)]
  rw [fc _ _ _ e, ← List.filterMap_map, PySem.W.krv_range, List.filterMap_reverse, PySem.W.krv_all]
theorem turned_adjust (n : Nat) : Builtin.Slice.sliceAdjust none none (-1) (n : Int) = ((n : Int) - 1, -1) := by
  unfold Builtin.Slice.sliceAdjust
  simp
theorem turned_places (n : Nat) : Builtin.Slice.slicePlaces ((n : Int) - 1) (-1) (-1) = n := by
  unfold Builtin.Slice.slicePlaces
  have h1 : ¬ ((-1 : Int) > 0) := by decide
  simp only [h1, if_false, Int.neg_neg, Int.ediv_one]
  split <;> omega
section
variable {prog : Program} {w : World} {A : Around} {E : Value → Shared → Prop} {s : Shared}
theorem turned_applied {sl : Addr} {vl vu vs : Value} {n : Nat} {Q : Int × Int × Nat → Shared → Prop} (hs : s.heap.IsSliceOf sl vl vu vs) (pl : IsPart vl none) (pu : IsPart vu none) (ps : IsPart vs (some (-1)))
    (h : Q ((n : Int) - 1, -1, n) s) : wpAny (model prog w) A (Builtin.Slice.sliceApplied (.ref sl) (pure (n : Int))) Q E s := by
  obtain ⟨os, ho, hc, hd⟩ := id hs
  unfold Builtin.Slice.sliceApplied Builtin.Slice.sliceFields
  refine wpAny_bind (wpAny_bind (wpAny_field ho hd (x := vl) rfl (wpAny_bind (wpAny_field ho hd (x := vu) rfl (wpAny_bind (wpAny_field ho hd (x := vs) rfl (wpAny_pure ?_)))))))
  refine wpAny_bind (HT.slicePart_ ps ?_)
  show wpAny _ _ (if ((-1 : Int) == 0) = true then _ else _) _ _ s
  rw [if_neg (by decide)]
  refine wpAny_bind (HT.slicePart_ pl (wpAny_bind (HT.slicePart_ pu (wpAny_bind (wpAny_pure ?_)))))
  show wpAny _ _ (match Builtin.Slice.sliceAdjust none none (-1) (n : Int) with | (lo, hi) => pure (lo, (-1 : Int), Builtin.Slice.slicePlaces lo hi (-1))) _ _ s
  rw [turned_adjust]
  show wpAny _ _ (pure ((n : Int) - 1, (-1 : Int), Builtin.Slice.slicePlaces ((n : Int) - 1) (-1) (-1))) _ _ s
  rw [turned_places]
  exact wpAny_pure h
theorem turned_item {t sl : Addr} {items : Array Value} {vl vu vs : Value} {Q : Value → Shared → Prop} (ht : IsTup s.heap t items) (hs : s.heap.IsSliceOf sl vl vu vs) (pl : IsPart vl none) (pu : IsPart vu none) (ps : IsPart vs (some (-1)))
    (h : Q (.ref s.heap.objs.size) { s with heap := s.heap.push { cls := .type "tuple", data := .seq items.toList.reverse.toArray } }) (hz : items.size ≤ sizeLine) : wpAny (model prog w) A (getItem (.ref t) (.ref sl)) Q E s := by
  have fits : sizeOk (.seq items.toList.reverse.toArray) := by
    show items.toList.reverse.toArray.size ≤ sizeLine
    rw [List.size_toArray, List.length_reverse, Array.length_toList]
    exact hz
  obtain ⟨os, ho, hc, hd⟩ := id hs
  have ty : s.TypeIs (.ref sl) "slice" := ⟨os, ho, hc⟩
  unfold getItem
  try with_reducible refine wpAny_holding ?_
  first | refine wpAny_bind (wpAny_pure ?_) | skip
  refine wpAny_bind (wpAny_sequenceKey ht.typeIs (by decide) (wpAny_bind (wpAny_callSpecial?_slot (name := Str.ofString "__getitem__") ht.typeIs PyProof.Rows.slot_tuple_getitem (wpAny_call_entry PyProof.Rows.slot_tuple_getitem ht.typeIs PyProof.Rows.entry_tuple_getitem ?_ (PyProof.Rows.args_tuple_getitem _ _)))))
  show wpAny _ _ (Builtin.Tuple.tupleItemsOf (.ref t) >>= _) _ _ s
  refine wpAny_bind (tupleItemsOf_ ht (wpAny_bind (wpAny_typeOf ty ?_)))
  rw [if_pos (by decide)]
  refine wpAny_bind (turned_applied hs pl pu ps ?_)
  have no : ¬ ((((items.size : Nat) : Int) - 1 == 0 && (-1 : Int) == 1 && items.size == items.size) = true) := by simp
  show wpAny _ _ (if (((items.size : Nat) : Int) - 1 == 0 && (-1 : Int) == 1 && items.size == items.size) = true then _ else _) _ _ s
  rw [if_neg no, turned_pick]
  first
    | exact wpAny_bind (m := Builtin.Tuple.tupleExact _) (wpAny_newObj_type (wpAny_pure ⟨_, rfl, wpAny_pure h⟩) fits)
    | exact wpAny_bind (m := Builtin.Tuple.tupleExact _) (wpAny_newObj_type (wpAny_bind (wpAny_pure (wpAny_pure ⟨_, rfl, wpAny_pure h⟩))) fits)
    | exact wpAny_bind (wpAny_bind (m := Builtin.Tuple.tupleExact _) (wpAny_newObj_type (wpAny_pure (wpAny_pure ⟨_, rfl, wpAny_pure h⟩)) fits))
    | exact wpAny_bind (wpAny_bind (m := Builtin.Tuple.tupleExact _) (wpAny_newObj_type (wpAny_pure ⟨_, rfl, wpAny_pure h⟩) fits))
end
section
variable {X : Cx} {K : PySem.W.Frag}
theorem pe_revT {e : Expr} {te : TE} {k : Nat} {p1 p2 p3 pos : Pos} (he : PE X e te) (hK : X.K = K := by rfl) : PE X (.Subscript e (.Slice none none (some (.UnaryOp .USub (.Constant (.int 1) k p1) p2)) p3) pos) (tRevT K te) := by
  subst hK
  refine ⟨fun pins s σ H Q I h => Subscript_ (thn (he.run pins s σ H _ I h) fun v s1 ⟨x, H1, I1, r1, q1⟩ => ?_)⟩
  obtain ⟨a, xs, rfl, hx, q⟩ := q1
  cases r1
  have stp : PO X (some (.UnaryOp .USub (.Constant (.int 1) k p1) p2)) (tPart (tUn (rU fun i => .int (-i)) (tC (.int 1)))) := po_some (pe_un un_neg pe_int)
  refine wpAny_Slice (thn (po_none.run pins s1 σ H1 (fun o H2 => o = none ∧ H2 = H1) I1 ⟨rfl, rfl⟩) fun vl s2 ⟨l, H2, I2, pl, el, e2⟩ => ?_)
  subst el e2
  refine thn (po_none.run pins s2 σ H2 (fun o H3 => o = none ∧ H3 = H2) I2 ⟨rfl, rfl⟩) fun vu s3 ⟨u, H3, I3, pu, eu, e3⟩ => ?_
  subst eu e3
  refine thn (stp.run pins s3 σ H3 (fun o H4 => o = some (-1) ∧ H4 = H3) I3 ⟨1, rfl, -1, rfl, rfl, rfl⟩) fun vs s4 ⟨o, H4, I4, ps, eo, e4⟩ => ?_
  subst eo e4
  have I5 : Inv X pins σ H4 { s4 with heap := s4.heap.push { cls := .type "slice", data := .fields #[vl, vu, vs] } } := I4.kept (t' := s4.toks) fun b ob q => Heap.get?_push_of_some _ q
  obtain ⟨its, r, ht, hz⟩ := I5.tuple hx
  have len := r.length
  show wpAny (model X.prog X.w) X.A (subscriptTail e (.Slice none none (some (.UnaryOp .USub (.Constant (.int 1) k p1) p2)) p3) (.ref a) (.ref s4.heap.objs.size)) (EP X pins σ Q) X.xe { s4 with heap := s4.heap.push { cls := .type "slice", data := .fields #[vl, vu, vs] } }
  refine tail_any (ops := [.ref a, .ref s4.heap.objs.size]) ht.typeIs (PyProof.Rows.slot_tuple_getitem.lookup) ?_ (by with_unfolding_all rfl)
  refine turned_item ht (Heap.IsSliceOf.new _ vl vu vs) pl pu ps ?_ (by rw [List.size_toArray]; omega)
  refine ⟨.ref _, _, I5.laid (t' := s4.toks) (o := .tup xs.reverse) (fun b ob q => Heap.get?_push_of_some _ q) (Nat.le_refl _) ?_, rfl, q _ (I5.hok.fresh (Nat.le_refl _))⟩
  exact ⟨by rw [List.length_reverse]; exact hz, _, r.reverse, IsTup.new _ _⟩
theorem sumK (hc : X.calm = true := by rfl) (h : X.K = K := by rfl) : CallR X (.builtin "sum") (rSum K) := h ▸ cr_sum hc
theorem catA (h : X.K = K := by rfl) : OpR X (binaryOp .Add) (rCatA K) := h ▸ op_catA
theorem slTA (h : X.K = K := by rfl) : SlR X (rSlA K) := h ▸ sl_tupA
theorem same_new {H : Hp} {p : Addr} {o : HO} (h : H p = none) : Same H (upd H p o) := fun b u e => by
  rw [upd_ne (ne_of_none e h)]
  exact e
/-- t[lo:hi] of a tuple, whichever it is -/
def rSlS : V → Option Int → Option Int → Hp → VK → Prop := fun x lo hi H Q => ∃ a xs, x = .ref a ∧ H a = some (.tup xs) ∧ ∀ q H', H' q = some (.tup (cutV xs lo hi)) → Same H H' → Q (.ref q) H'
theorem slTS : SlR X rSlS := by
  intro pins s σ H x v vl vu lo hi sl Q I rx hs pl pu h
  obtain ⟨a, xs, rfl, ha, q⟩ := h
  refine sl_tupA pins s σ H (.ref a) v vl vu lo hi sl Q I rx hs pl pu ⟨a, xs, rfl, .inl (.inl ha), fun hw => q a H ?_ fun _ _ e => e, fun _ p hp => q p _ upd_same (same_new hp)⟩
  unfold cutV
  rw [hw.1, hw.2, List.drop_zero, Nat.sub_zero, List.take_length]
  exact ha
/-- t + u of two tuples, whichever it is -/
def rCatS : R2 := fun x y H Q => ∃ a b xs ys, x = .ref a ∧ y = .ref b ∧ H a = some (.tup xs) ∧ H b = some (.tup ys) ∧ xs.length + ys.length ≤ sizeLine ∧ ∀ q H', H' q = some (.tup (xs ++ ys)) → Same H H' → Q (.ref q) H'
theorem catS : OpR X (binaryOp .Add) rCatS := by
  intro pins s σ H x y v u Q I rx ry h
  obtain ⟨a, b, xs, ys, rfl, rfl, ha, hb, hz, q⟩ := h
  refine op_catA pins s σ H (.ref a) (.ref b) v u Q I rx ry ⟨a, b, xs, ys, rfl, rfl, .inl (.inl ha), .inl (.inl hb), hz, fun e => q b H ?_ fun _ _ e => e, fun _ e => q a H ?_ fun _ _ e => e, fun _ _ p hp => q p _ upd_same (same_new hp)⟩
  · rw [e]
    exact hb
  · rw [e, List.append_nil]
    exact ha
end
end RL
/-! zip of three things, each a list or a tuple. -/
namespace RL
open PySem PySem.Spec PyProof.Rows L2
abbrev IsTrip (h : Heap) (T : Addr) (a b c : Value) : Prop := h.get? T = some { cls := .type "tuple", data := .seq #[a, b, c] }
/-- what must not be the same -/
structure ZA3 (q ti to m1 m2 m3 d1 d2 d3 : Addr) : Prop where
  tiq : ti ≠ q
  toq : to ≠ q
  m1q : m1 ≠ q
  m2q : m2 ≠ q
  m3q : m3 ≠ q
  tito : ti ≠ to
  tim1 : ti ≠ m1
  tim2 : ti ≠ m2
  tim3 : ti ≠ m3
  tom1 : to ≠ m1
  tom2 : to ≠ m2
  tom3 : to ≠ m3
  m12 : m1 ≠ m2
  m13 : m1 ≠ m3
  m23 : m2 ≠ m3
  d1q : d1 ≠ q
  d2q : d2 ≠ q
  d3q : d3 ≠ q
  d2m1 : d2 ≠ m1
  d2to : d2 ≠ to
  d3m1 : d3 ≠ m1
  d3m2 : d3 ≠ m2
  d3to : d3 ≠ to
theorem za3_new {n d1 d2 d3 : Nat} (h1 : d1 < n) (h2 : d2 < n) (h3 : d3 < n) : ZA3 (n + 5) (n + 3) (n + 4) n (n + 1) (n + 2) d1 d2 d3 := by
  constructor <;> exact (show @Ne Nat _ _ from by omega)
section
variable {prog : Program} {w : World} {A : Around} {E : Value → Shared → Prop} {s : Shared}
theorem upd_trip {T : Addr} {a b c x : Value} {k : Nat} {Q : Unit → Shared → Prop} (hT : IsTrip s.heap T a b c)
    (h : ∀ g, g.get? T = some { cls := .type "tuple", data := .seq ((#[a, b, c] : Array Value).setIfInBounds k x) } → Heap.SameBut T s.heap g → Q () { s with heap := g }) : wpAny (model prog w) A (updateSeq T (·.setIfInBounds k x)) Q E s := by
  refine wpAny_updateSeq hT rfl (h _ ?_ (Heap.SameBut.update ..))
  rw [Heap.get?_update_self _ hT rfl]
  simp [Obj.mapSeq]
theorem z3_item {q ti to m1 m2 m3 d1 d2 d3 : Addr} {u1 u2 u3 : Bool} {n1 n2 n3 : Nat} {vs1 vs2 vs3 : Array Value} {x y z a b c : Value} {Q : Value → Shared → Prop} (D : ZA3 q ti to m1 m2 m3 d1 d2 d3)
    (zz : IsZip s.heap q ti to .none) (pi : IsTrip s.heap ti (.ref m1) (.ref m2) (.ref m3)) (po : IsTrip s.heap to a b c)
    (w1 : hIt u1 s.heap m1 d1 n1) (w2 : hIt u2 s.heap m2 d2 n2) (w3 : hIt u3 s.heap m3 d3 n3) (s1 : hSq u1 s.heap d1 vs1) (s2 : hSq u2 s.heap d2 vs2) (s3 : hSq u3 s.heap d3 vs3) (hx : vs1[n1]? = some x) (hy : vs2[n2]? = some y) (hz : vs3[n3]? = some z)
    (hq : ∀ g, IsZip g q ti to (rawInt s.heap.objs.size) → IsTrip g to x y z → hIt u1 g m1 d1 (n1 + 1) → hIt u2 g m2 d2 (n2 + 1) → hIt u3 g m3 d3 (n3 + 1) → IsTrip g s.heap.objs.size x y z → g.objs.size = s.heap.objs.size + 1 →
      (∀ e o, e ≠ q → e ≠ to → e ≠ m1 → e ≠ m2 → e ≠ m3 → s.heap.get? e = some o → g.get? e = some o) → Q (.ref s.heap.objs.size) { s with heap := g }) :
    wpAny (model prog w) A (Builtin.«zip.__next__» ⟨[.ref q], []⟩) (fun f s' => ∃ v, f = .done (.ret v) ∧ Q v s') E s := by
  show wpAny _ _ (field (.ref q) 2 >>= _) _ _ _
  refine wpAny_bind (wpAny_field zz rfl (x := .bool false) rfl ?_)
  show wpAny _ _ (field (.ref q) 3 >>= _) _ _ _
  refine wpAny_bind (wpAny_field zz rfl (x := .ref ti) rfl (wpAny_bind (wpAny_seqItems pi rfl ?_)))
  show wpAny _ _ (Builtin.SmallTypes.ownedTupleIsFree (.ref q) >>= _) _ _ _
  refine wpAny_bind ?_; unfold Builtin.SmallTypes.ownedTupleIsFree
  refine wpAny_bind (wpAny_field zz rfl (x := .none) rfl (wpAny_pure ?_))
  simp only [if_true]
  refine wpAny_bind (wpAny_rule (wpAny_bind (wpAny_field zz rfl (x := .ref to) rfl (wpAny_bind (wpAny_setField_rec zz (by simp) fun g1 zz1 b1 => ?_)))))
  replace zz1 : IsZip g1 q ti to .ellipsis := zz1
  refine wpAny_bind ?_
  simp only [List.zipIdx_nil, List.zipIdx_cons, List.forIn_nil, List.forIn_cons]
  refine wpAny_bind (wpAny_bind (wpAny_onRaise ?_))
  show wpAny _ _ (Builtin.SmallTypes.nextOf (.ref m1) >>= _) _ _ _
  refine wpAny_bind (half_item (w1.but b1.extBut D.m1q) (s1.but b1.extBut D.d1q) hx fun g2 v1 b2 => wpAny_pure ?_)
  have po2 : IsTrip g2 to a b c := b2.extBut _ _ D.tom1 (b1.extBut _ _ D.toq po)
  refine wpAny_bind (wpAny_seqItems po2 rfl (wpAny_bind (upd_trip po2 fun g3 po3 b3 => ?_)))
  replace po3 : IsTrip g3 to x b c := po3
  refine wpAny_bind (wpAny_letGo (wpAny_pure (wpAny_bind (wpAny_bind (wpAny_onRaise ?_)))))
  show wpAny _ _ (Builtin.SmallTypes.nextOf (.ref m2) >>= _) _ _ _
  refine wpAny_bind (half_item (((w2.but b1.extBut D.m2q).but b2.extBut D.m12.symm).but b3.extBut D.tom2.symm) (((s2.but b1.extBut D.d2q).but b2.extBut D.d2m1).but b3.extBut D.d2to) hy fun g4 v2 b4 => wpAny_pure ?_)
  have po4 : IsTrip g4 to x b c := b4.extBut _ _ D.tom2 po3
  refine wpAny_bind (wpAny_seqItems po4 rfl (wpAny_bind (upd_trip po4 fun g5 po5 b5 => ?_)))
  replace po5 : IsTrip g5 to x y c := po5
  refine wpAny_bind (wpAny_letGo (wpAny_pure (wpAny_bind (wpAny_bind (wpAny_onRaise ?_)))))
  show wpAny _ _ (Builtin.SmallTypes.nextOf (.ref m3) >>= _) _ _ _
  refine wpAny_bind (half_item (((((w3.but b1.extBut D.m3q).but b2.extBut D.m13.symm).but b3.extBut D.tom3.symm).but b4.extBut D.m23.symm).but b5.extBut D.tom3.symm) (((((s3.but b1.extBut D.d3q).but b2.extBut D.d3m1).but b3.extBut D.d3to).but b4.extBut D.d3m2).but b5.extBut D.d3to) hz fun g6 v3 b6 => wpAny_pure ?_)
  have po6 : IsTrip g6 to x y c := b6.extBut _ _ D.tom3 po5
  refine wpAny_bind (wpAny_seqItems po6 rfl (wpAny_bind (upd_trip po6 fun g7 po7 b7 => ?_)))
  replace po7 : IsTrip g7 to x y z := po7
  refine wpAny_bind (wpAny_letGo (wpAny_pure (wpAny_pure (wpAny_bind (wpAny_seqItems po7 rfl (wpAny_bind (wpAny_newTuple ?_)))))))
  have sz : g7.objs.size = s.heap.objs.size := by rw [b7.1, b6.1, b5.1, b4.1, b3.1, b2.1, b1.1]
  have zz7 : IsZip g7 q ti to .ellipsis := b7.extBut _ _ D.toq.symm (b6.extBut _ _ D.m3q.symm (b5.extBut _ _ D.toq.symm (b4.extBut _ _ D.m2q.symm (b3.extBut _ _ D.toq.symm (b2.extBut _ _ D.m1q.symm zz1)))))
  have old7 : ∀ e o, e ≠ q → e ≠ to → e ≠ m1 → e ≠ m2 → e ≠ m3 → s.heap.get? e = some o → g7.get? e = some o := fun e o c1 c2 c3 c4 c5 f => b7.extBut _ _ c2 (b6.extBut _ _ c5 (b5.extBut _ _ c2 (b4.extBut _ _ c4 (b3.extBut _ _ c2 (b2.extBut _ _ c3 (b1.extBut _ _ c1 f))))))
  have v17 : hIt u1 g7 m1 d1 (n1 + 1) := ((((v1.but b3.extBut D.tom1.symm).but b4.extBut D.m12).but b5.extBut D.tom1.symm).but b6.extBut D.m13).but b7.extBut D.tom1.symm
  have v27 : hIt u2 g7 m2 d2 (n2 + 1) := ((v2.but b5.extBut D.tom2.symm).but b6.extBut D.m23).but b7.extBut D.tom2.symm
  have v37 : hIt u3 g7 m3 d3 (n3 + 1) := v3.but b7.extBut D.tom3.symm
  have ql : q < g7.objs.size := Heap.lt_size zz7
  show wpAny _ _ (Builtin.SmallTypes.ownedTupleHandOut (.ref q) (.ref g7.objs.size) >>= _) _ _ _
  refine wpAny_bind ?_; unfold Builtin.SmallTypes.ownedTupleHandOut
  have zz8 : IsZip (g7.push { cls := .type "tuple", data := .seq #[x, y, z] }) q ti to .ellipsis := Heap.get?_push_of_some _ zz7
  refine wpAny_bind (wpAny_setField_rec zz8 (by simp) fun g9 zz9 b9 => ?_)
  replace zz9 : IsZip g9 q ti to (rawInt g7.objs.size) := zz9
  refine wpAny_setField_rec zz9 (by simp) fun g10 zz10 b10 => ?_
  replace zz10 : IsZip g10 q ti to (rawInt g7.objs.size) := zz10
  have up : ∀ e o, e ≠ q → g7.get? e = some o → g10.get? e = some o := fun e o c1 f => b10.extBut _ _ c1 (b9.extBut _ _ c1 (Heap.get?_push_of_some _ f))
  have t10 : IsTrip g10 g7.objs.size x y z := b10.extBut _ _ (Nat.ne_of_gt ql) (b9.extBut _ _ (Nat.ne_of_gt ql) (Heap.get?_push_size _ rfl))
  have sz10 : g10.objs.size = g7.objs.size + 1 := by rw [b10.1, b9.1, Heap.size_push]
  rw [sz] at zz10 t10 sz10
  refine wpAny_pure ⟨_, rfl, ?_⟩
  show Q (.ref g7.objs.size) _
  rw [sz]
  exact hq g10 zz10 (up _ _ D.toq po7) (v17.to fun o e => up _ o D.m1q e) (v27.to fun o e => up _ o D.m2q e) (v37.to fun o e => up _ o D.m3q e) t10 sz10 fun e o c1 c2 c3 c4 c5 f => up e o c1 (old7 e o c1 c2 c3 c4 c5 f)
theorem z3_end {q ti to m1 m2 m3 d1 d2 d3 : Addr} {u1 u2 u3 : Bool} {n1 n2 n3 : Nat} {vs1 vs2 vs3 : Array Value} {a b c : Value} {Q : Fin → Shared → Prop} (hh : A.handled = none) (D : ZA3 q ti to m1 m2 m3 d1 d2 d3)
    (zz : IsZip s.heap q ti to .none) (pi : IsTrip s.heap ti (.ref m1) (.ref m2) (.ref m3)) (po : IsTrip s.heap to a b c)
    (w1 : hIt u1 s.heap m1 d1 n1) (w2 : hIt u2 s.heap m2 d2 n2) (w3 : hIt u3 s.heap m3 d3 n3) (s1 : hSq u1 s.heap d1 vs1) (s2 : hSq u2 s.heap d2 vs2) (s3 : hSq u3 s.heap d3 vs3) (he : vs1[n1]? = none ∨ vs2[n2]? = none ∨ vs3[n3]? = none)
    (hE : ∀ g e, (∀ f o, f ≠ q → f ≠ to → f ≠ m1 → f ≠ m2 → f ≠ m3 → s.heap.get? f = some o → g.get? f = some o) → (∃ o, g.get? e = some o ∧ o.cls = .type "StopIteration") → E (.ref e) { s with heap := g }) :
    wpAny (model prog w) A (Builtin.«zip.__next__» ⟨[.ref q], []⟩) Q E s := by
  show wpAny _ _ (field (.ref q) 2 >>= _) _ _ _
  refine wpAny_bind (wpAny_field zz rfl (x := .bool false) rfl ?_)
  show wpAny _ _ (field (.ref q) 3 >>= _) _ _ _
  refine wpAny_bind (wpAny_field zz rfl (x := .ref ti) rfl (wpAny_bind (wpAny_seqItems pi rfl ?_)))
  show wpAny _ _ (Builtin.SmallTypes.ownedTupleIsFree (.ref q) >>= _) _ _ _
  refine wpAny_bind ?_; unfold Builtin.SmallTypes.ownedTupleIsFree
  refine wpAny_bind (wpAny_field zz rfl (x := .none) rfl (wpAny_pure ?_))
  simp only [if_true]
  refine wpAny_bind (wpAny_rule (wpAny_bind (wpAny_field zz rfl (x := .ref to) rfl (wpAny_bind (wpAny_setField_rec zz (by simp) fun g1 zz1 b1 => ?_)))))
  replace zz1 : IsZip g1 q ti to .ellipsis := zz1
  refine wpAny_bind ?_
  simp only [List.zipIdx_nil, List.zipIdx_cons, List.forIn_nil, List.forIn_cons]
  refine wpAny_bind (wpAny_bind (wpAny_onRaise ?_))
  show wpAny _ _ (Builtin.SmallTypes.nextOf (.ref m1) >>= _) _ _ _
  cases hx : vs1[n1]? with
  | none =>
    refine wpAny_bind (half_end hh (w1.but b1.extBut D.m1q) (s1.but b1.extBut D.d1q) hx fun g2 e b2 ⟨oe, hoe, hce⟩ => ?_)
    have zz2 : IsZip g2 q ti to .ellipsis := b2 _ _ D.m1q.symm zz1
    have ne : e ≠ q := fun x => by
      subst x
      rw [zz2] at hoe
      cases hoe
      simp at hce
    exact wpAny_setField_rec zz2 (by simp) fun g3 _ b3 => hE g3 e (fun f o c1 _ c3 _ _ x => b3.extBut _ _ c1 (b2 _ _ c3 (b1.extBut _ _ c1 x))) ⟨oe, b3.extBut _ _ ne hoe, hce⟩
  | some x =>
    refine wpAny_bind (half_item (w1.but b1.extBut D.m1q) (s1.but b1.extBut D.d1q) hx fun g2 v1 b2 => wpAny_pure ?_)
    have po2 : IsTrip g2 to a b c := b2.extBut _ _ D.tom1 (b1.extBut _ _ D.toq po)
    refine wpAny_bind (wpAny_seqItems po2 rfl (wpAny_bind (upd_trip po2 fun g3 po3 b3 => ?_)))
    replace po3 : IsTrip g3 to x b c := po3
    refine wpAny_bind (wpAny_letGo (wpAny_pure (wpAny_bind (wpAny_bind (wpAny_onRaise ?_)))))
    show wpAny _ _ (Builtin.SmallTypes.nextOf (.ref m2) >>= _) _ _ _
    cases hy : vs2[n2]? with
    | none =>
      refine wpAny_bind (half_end hh (((w2.but b1.extBut D.m2q).but b2.extBut D.m12.symm).but b3.extBut D.tom2.symm) (((s2.but b1.extBut D.d2q).but b2.extBut D.d2m1).but b3.extBut D.d2to) hy fun g4 e b4 ⟨oe, hoe, hce⟩ => ?_)
      have zz4 : IsZip g4 q ti to .ellipsis := b4 _ _ D.m2q.symm (b3.extBut _ _ D.toq.symm (b2.extBut _ _ D.m1q.symm zz1))
      have ne : e ≠ q := fun x => by
        subst x
        rw [zz4] at hoe
        cases hoe
        simp at hce
      exact wpAny_setField_rec zz4 (by simp) fun g5 _ b5 => hE g5 e (fun f o c1 c2 c3 c4 _ x => b5.extBut _ _ c1 (b4 _ _ c4 (b3.extBut _ _ c2 (b2.extBut _ _ c3 (b1.extBut _ _ c1 x))))) ⟨oe, b5.extBut _ _ ne hoe, hce⟩
    | some y =>
      have hz : vs3[n3]? = none := by
        rcases he with h | h | h
        · rw [hx] at h; cases h
        · rw [hy] at h; cases h
        · exact h
      refine wpAny_bind (half_item (((w2.but b1.extBut D.m2q).but b2.extBut D.m12.symm).but b3.extBut D.tom2.symm) (((s2.but b1.extBut D.d2q).but b2.extBut D.d2m1).but b3.extBut D.d2to) hy fun g4 v2 b4 => wpAny_pure ?_)
      have po4 : IsTrip g4 to x b c := b4.extBut _ _ D.tom2 po3
      refine wpAny_bind (wpAny_seqItems po4 rfl (wpAny_bind (upd_trip po4 fun g5 po5 b5 => ?_)))
      refine wpAny_bind (wpAny_letGo (wpAny_pure (wpAny_bind (wpAny_bind (wpAny_onRaise ?_)))))
      show wpAny _ _ (Builtin.SmallTypes.nextOf (.ref m3) >>= _) _ _ _
      refine wpAny_bind (half_end hh (((((w3.but b1.extBut D.m3q).but b2.extBut D.m13.symm).but b3.extBut D.tom3.symm).but b4.extBut D.m23.symm).but b5.extBut D.tom3.symm) (((((s3.but b1.extBut D.d3q).but b2.extBut D.d3m1).but b3.extBut D.d3to).but b4.extBut D.d3m2).but b5.extBut D.d3to) hz fun g6 e b6 ⟨oe, hoe, hce⟩ => ?_)
      have zz6 : IsZip g6 q ti to .ellipsis := b6 _ _ D.m3q.symm (b5.extBut _ _ D.toq.symm (b4.extBut _ _ D.m2q.symm (b3.extBut _ _ D.toq.symm (b2.extBut _ _ D.m1q.symm zz1))))
      have ne : e ≠ q := fun x => by
        subst x
        rw [zz6] at hoe
        cases hoe
        simp at hce
      exact wpAny_setField_rec zz6 (by simp) fun g7 _ b7 => hE g7 e (fun f o c1 c2 c3 c4 c5 x => b7.extBut _ _ c1 (b6 _ _ c5 (b5.extBut _ _ c2 (b4.extBut _ _ c4 (b3.extBut _ _ c2 (b2.extBut _ _ c3 (b1.extBut _ _ c1 x))))))) ⟨oe, b7.extBut _ _ ne hoe, hce⟩
theorem z3_next_item {q ti to m1 m2 m3 d1 d2 d3 : Addr} {u1 u2 u3 : Bool} {n1 n2 n3 : Nat} {vs1 vs2 vs3 : Array Value} {x y z a b c : Value} {Q : Option Value → Shared → Prop} (D : ZA3 q ti to m1 m2 m3 d1 d2 d3)
    (zz : IsZip s.heap q ti to .none) (pi : IsTrip s.heap ti (.ref m1) (.ref m2) (.ref m3)) (po : IsTrip s.heap to a b c)
    (w1 : hIt u1 s.heap m1 d1 n1) (w2 : hIt u2 s.heap m2 d2 n2) (w3 : hIt u3 s.heap m3 d3 n3) (s1 : hSq u1 s.heap d1 vs1) (s2 : hSq u2 s.heap d2 vs2) (s3 : hSq u3 s.heap d3 vs3) (hx : vs1[n1]? = some x) (hy : vs2[n2]? = some y) (hz : vs3[n3]? = some z)
    (hq : ∀ g, IsZip g q ti to (rawInt s.heap.objs.size) → IsTrip g to x y z → hIt u1 g m1 d1 (n1 + 1) → hIt u2 g m2 d2 (n2 + 1) → hIt u3 g m3 d3 (n3 + 1) → IsTrip g s.heap.objs.size x y z → g.objs.size = s.heap.objs.size + 1 →
      (∀ e o, e ≠ q → e ≠ to → e ≠ m1 → e ≠ m2 → e ≠ m3 → s.heap.get? e = some o → g.get? e = some o) → Q (some (.ref s.heap.objs.size)) { s with heap := g }) :
    wpAny (model prog w) A (pyNext (.ref q)) Q E s := by
  have ty : s.TypeIs (.ref q) "zip" := ⟨_, zz, rfl⟩
  unfold pyNext
  exact wpAny_bind (wpAny_attempt (wpAny_callSpecial?_slot (name := Str.ofString "__next__") ty F.slot_zip_next (wpAny_call_entry F.slot_zip_next ty F.entry_zip_next
    (z3_item D zz pi po w1 w2 w3 s1 s2 s3 hx hy hz fun g a1 a2 a3 a4 a5 a6 a7 a8 => wpAny_pure (hq g a1 a2 a3 a4 a5 a6 a7 a8)) (F.args_zip_next_1 _))))
theorem z3_next_end {q ti to m1 m2 m3 d1 d2 d3 : Addr} {u1 u2 u3 : Bool} {n1 n2 n3 : Nat} {vs1 vs2 vs3 : Array Value} {a b c : Value} {Q : Option Value → Shared → Prop} (hh : A.handled = none) (D : ZA3 q ti to m1 m2 m3 d1 d2 d3)
    (zz : IsZip s.heap q ti to .none) (pi : IsTrip s.heap ti (.ref m1) (.ref m2) (.ref m3)) (po : IsTrip s.heap to a b c)
    (w1 : hIt u1 s.heap m1 d1 n1) (w2 : hIt u2 s.heap m2 d2 n2) (w3 : hIt u3 s.heap m3 d3 n3) (s1 : hSq u1 s.heap d1 vs1) (s2 : hSq u2 s.heap d2 vs2) (s3 : hSq u3 s.heap d3 vs3) (he : vs1[n1]? = none ∨ vs2[n2]? = none ∨ vs3[n3]? = none)
    (hq : ∀ g, (∀ f o, f ≠ q → f ≠ to → f ≠ m1 → f ≠ m2 → f ≠ m3 → s.heap.get? f = some o → g.get? f = some o) → Q none { s with heap := g }) : wpAny (model prog w) A (pyNext (.ref q)) Q E s := by
  have ty : s.TypeIs (.ref q) "zip" := ⟨_, zz, rfl⟩
  unfold pyNext
  refine wpAny_bind (wpAny_attempt (wpAny_callSpecial?_slot (name := Str.ofString "__next__") ty F.slot_zip_next (wpAny_call_entry F.slot_zip_next ty F.entry_zip_next
    (z3_end hh D zz pi po w1 w2 w3 s1 s2 s3 he fun g e hk ⟨o, ho, hc⟩ => ?_) (F.args_zip_next_1 _))))
  exact wpAny_bind (wpAny_isInstance (T := "StopIteration") (b := true) ⟨o, ho, hc⟩ isSubtype_stop (wpAny_pure (hq _ hk)))
end
theorem z3_type (a b c : Value) : checkTypeCall "zip" ⟨[a, b, c], []⟩ = pure () := by kernel_rfl
theorem z3_newc (a b c : Value) : checkBuiltinCall "zip.__new__" ⟨[.type "zip", a, b, c], []⟩ = pure () := by kernel_rfl
theorem z3_init (a b c d : Value) : argsOk "object.__init__" ⟨[a, b, c, d], []⟩ := by
  unfold argsOk; rw [signature?_of (id := "object.__init__") (n := ['_', '_', 't', 'i', 'n', 'i', '_', '_']) (o := ['t', 'c', 'e', 'j', 'b', 'o']) (by kernel_rfl) F.owner_object]; kernel_rfl
abbrev z31 (h : Heap) (u1 : Bool) (d1 : Addr) : Heap := h.push (itO u1 d1)
abbrev z32 (h : Heap) (u1 u2 : Bool) (d1 d2 : Addr) : Heap := (z31 h u1 d1).push (itO u2 d2)
abbrev z33 (h : Heap) (u1 u2 u3 : Bool) (d1 d2 d3 : Addr) : Heap := (z32 h u1 u2 d1 d2).push (itO u3 d3)
abbrev z34 (h : Heap) (u1 u2 u3 : Bool) (d1 d2 d3 : Addr) : Heap := (z33 h u1 u2 u3 d1 d2 d3).push { cls := .type "tuple", data := .seq #[.ref h.objs.size, .ref (z31 h u1 d1).objs.size, .ref (z32 h u1 u2 d1 d2).objs.size] }
abbrev z35 (h : Heap) (u1 u2 u3 : Bool) (d1 d2 d3 : Addr) : Heap := (z34 h u1 u2 u3 d1 d2 d3).push { cls := .type "tuple", data := .seq #[.none, .none, .none] }
abbrev z36 (h : Heap) (u1 u2 u3 : Bool) (d1 d2 d3 : Addr) : Heap := (z35 h u1 u2 u3 d1 d2 d3).push { cls := .type "zip", data := .fields #[.none, .bool false, .bool false, .ref (z33 h u1 u2 u3 d1 d2 d3).objs.size, .ref (z34 h u1 u2 u3 d1 d2 d3).objs.size] }
theorem z3_made (u1 u2 u3 : Bool) (d1 d2 d3 : Addr) (vs1 vs2 vs3 : Array Value) :
    Meets (Builtin.«zip.__new__» ⟨[.type "zip", .ref d1, .ref d2, .ref d3], []⟩) (fun _ R s => hSq u1 s.heap d1 vs1 ∧ hSq u2 s.heap d2 vs2 ∧ hSq u3 s.heap d3 vs3 ∧ R (.ok (.ret (.ref (z35 s.heap u1 u2 u3 d1 d2 d3).objs.size))) { s with heap := z36 s.heap u1 u2 u3 d1 d2 d3 }) :=
  .of_wp fun prog w A R s h => by
    obtain ⟨hp, g, d, tk, os⟩ := s
    obtain ⟨k1, k2, k3, h⟩ := h
    have sub := sub_zip
    have K1 : hSq u1 (Shared.heap ⟨hp, g, d, tk, os⟩) d1 vs1 := k1
    have K2 : hSq u2 (Shared.heap ⟨hp.push (itO u1 d1), g, d, tk, os⟩) d2 vs2 := k2.push _
    have K3 : hSq u3 (Shared.heap ⟨(hp.push (itO u1 d1)).push (itO u2 d2), g, d, tk, os⟩) d3 vs3 := (k3.push _).push _
    wp_walk using half_iter K1, half_iter K2, half_iter K3
    exact ⟨_, rfl, h⟩
theorem z3_call {prog : Program} {w : World} {A : Around} {E : Value → Shared → Prop} {s : Shared} {u1 u2 u3 : Bool} {d1 d2 d3 : Addr} {vs1 vs2 vs3 : Array Value} {Q : Value → Shared → Prop} (s1 : hSq u1 s.heap d1 vs1) (s2 : hSq u2 s.heap d2 vs2) (s3 : hSq u3 s.heap d3 vs3)
    (h : ∀ g, IsZip g (s.heap.objs.size + 5) (s.heap.objs.size + 3) (s.heap.objs.size + 4) .none → IsTrip g (s.heap.objs.size + 3) (.ref s.heap.objs.size) (.ref (s.heap.objs.size + 1)) (.ref (s.heap.objs.size + 2)) → IsTrip g (s.heap.objs.size + 4) .none .none .none → hIt u1 g s.heap.objs.size d1 0 → hIt u2 g (s.heap.objs.size + 1) d2 0 → hIt u3 g (s.heap.objs.size + 2) d3 0 →
      (∀ c o, s.heap.get? c = some o → g.get? c = some o) → Q (.ref (s.heap.objs.size + 5)) { s with heap := g }) :
    wpAny (model prog w) A (call (.type "zip") [.ref d1, .ref d2, .ref d3]) Q E s := by
  refine callType_new F.called_zip (by decide) (z3_type _ _ _) (z3_newc _ _ _) (fun ob => z3_init ob _ _ _) F.entry_zip_new (z3_made u1 u2 u3 d1 d2 d3 vs1 vs2 vs3) ⟨s1, s2, s3, ?_⟩
  have e1 : (z31 s.heap u1 d1).objs.size = s.heap.objs.size + 1 := Heap.size_push ..
  have e2 : (z32 s.heap u1 u2 d1 d2).objs.size = s.heap.objs.size + 2 := by rw [Heap.size_push, e1]
  have e3 : (z33 s.heap u1 u2 u3 d1 d2 d3).objs.size = s.heap.objs.size + 3 := by rw [Heap.size_push, e2]
  have e4 : (z34 s.heap u1 u2 u3 d1 d2 d3).objs.size = s.heap.objs.size + 4 := by rw [Heap.size_push, e3]
  have e5 : (z35 s.heap u1 u2 u3 d1 d2 d3).objs.size = s.heap.objs.size + 5 := by rw [Heap.size_push, e4]
  have f6 : (z36 s.heap u1 u2 u3 d1 d2 d3).get? (z35 s.heap u1 u2 u3 d1 d2 d3).objs.size = some _ := Heap.get?_push_size _ rfl
  have f5 : (z36 s.heap u1 u2 u3 d1 d2 d3).get? (z34 s.heap u1 u2 u3 d1 d2 d3).objs.size = some _ := Heap.get?_push_of_some _ (Heap.get?_push_size _ rfl)
  have f4 : (z36 s.heap u1 u2 u3 d1 d2 d3).get? (z33 s.heap u1 u2 u3 d1 d2 d3).objs.size = some _ := Heap.get?_push_of_some _ (Heap.get?_push_of_some _ (Heap.get?_push_size _ rfl))
  have f3 : (z36 s.heap u1 u2 u3 d1 d2 d3).get? (z32 s.heap u1 u2 d1 d2).objs.size = some _ := Heap.get?_push_of_some _ (Heap.get?_push_of_some _ (Heap.get?_push_of_some _ (Heap.get?_push_size _ (itO_free u3 d3))))
  have f2 : (z36 s.heap u1 u2 u3 d1 d2 d3).get? (z31 s.heap u1 d1).objs.size = some _ := Heap.get?_push_of_some _ (Heap.get?_push_of_some _ (Heap.get?_push_of_some _ (Heap.get?_push_of_some _ (Heap.get?_push_size _ (itO_free u2 d2)))))
  have f1 : (z36 s.heap u1 u2 u3 d1 d2 d3).get? s.heap.objs.size = some _ := Heap.get?_push_of_some _ (Heap.get?_push_of_some _ (Heap.get?_push_of_some _ (Heap.get?_push_of_some _ (Heap.get?_push_of_some _ (Heap.get?_push_size _ (itO_free u1 d1))))))
  show _ ∧ _
  rw [e3, e4, e5] at f6
  rw [e1, e2, e3] at f4
  rw [e4] at f5
  rw [e2] at f3
  rw [e1] at f2
  rw [e5]
  exact ⟨⟨_, f6, rfl⟩, h _ f6 f4 f5 (itO_is f1) (itO_is f2) (itO_is f3) fun c o x => Heap.get?_push_of_some _ (Heap.get?_push_of_some _ (Heap.get?_push_of_some _ (Heap.get?_push_of_some _ (Heap.get?_push_of_some _ (Heap.get?_push_of_some _ x)))))⟩
def Itz3 (u1 u2 u3 : Bool) (K : PySem.W.Frag) (a b c : Addr) : It :=
  ⟨fun i H => ∃ (xs ys zs : List V) (x y z : V), SqH u1 K H a xs ∧ SqH u2 K H b ys ∧ SqH u3 K H c zs ∧ xs[i]? = some x ∧ ys[i]? = some y ∧ zs[i]? = some z,
    fun i H v H' => ∃ T x y z, v = .ref T ∧ H T = none ∧ H' = upd H T (.tup [x, y, z]) ∧ (∀ xs, SqH u1 K H a xs → xs[i]? = some x) ∧ (∀ ys, SqH u2 K H b ys → ys[i]? = some y) ∧ ∀ zs, SqH u3 K H c zs → zs[i]? = some z,
    fun i H => ∃ xs ys zs : List V, SqH u1 K H a xs ∧ SqH u2 K H b ys ∧ SqH u3 K H c zs ∧ (xs.length ≤ i ∨ ys.length ≤ i ∨ zs.length ≤ i)⟩
theorem turn_z3 {P : Program} {w : World} {K : PySem.W.Frag} {elts : List Expr} {kk : Nat} {tpos : Pos} {u1 u2 u3 : Bool} {a b c q ti to m1 m2 m3 : Addr} (D : ZA3 q ti to m1 m2 m3 a b c) :
    Turn P w K (.Tuple elts kk tpos) (Itz3 u1 u2 u3 K a b c) [q, ti, to, m1, m2, m3] q (fun i h => IsZip h q ti to .none ∧ IsTrip h ti (.ref m1) (.ref m2) (.ref m3) ∧ (∃ x y z, IsTrip h to x y z) ∧ hIt u1 h m1 a i ∧ hIt u2 h m2 b i ∧ hIt u3 h m3 c i) where
  mem := by simp
  obj := fun i h st e he => by
    obtain ⟨zz, pi, ⟨x, y, z, po⟩, w1, w2, w3⟩ := st
    have e' : e = q ∨ e = ti ∨ e = to ∨ e = m1 ∨ e = m2 ∨ e = m3 := by simpa using he
    rcases e' with r | r | r | r | r | r
    · rw [r]; exact ⟨_, zz, fun v e => nomatch e⟩
    · rw [r]; exact ⟨_, pi, fun v e => nomatch e⟩
    · rw [r]; exact ⟨_, po, fun v e => nomatch e⟩
    · rw [r]; exact w1.obj
    · rw [r]; exact w2.obj
    · rw [r]; exact w3.obj
  keep := fun i h h' st k => by
    obtain ⟨zz, pi, ⟨x, y, z, po⟩, w1, w2, w3⟩ := st
    exact ⟨k q (by simp) _ zz, k ti (by simp) _ pi, ⟨x, y, z, k to (by simp) _ po⟩, w1.to fun o e => k m1 (by simp) o e, w2.to fun o e => k m2 (by simp) o e, w3.to fun o e => k m3 (by simp) o e⟩
  item := by
    intro X hP hw hK hc i pins s σ H E I hf st hg
    subst hP hw hK
    obtain ⟨zz, pi, ⟨x0, y0, z0, po⟩, w1, w2, w3⟩ := st
    obtain ⟨xs, ys, zs, x, y, z, hqx, hqy, hqz, hx, hy, hz⟩ := hg
    obtain ⟨its, rv, p, _⟩ := inv_half I hqx
    obtain ⟨its2, rv2, p2, _⟩ := inv_half I hqy
    obtain ⟨its3, rv3, p3, _⟩ := inv_half I hqz
    obtain ⟨v, hv, ru⟩ := rv.get hx
    obtain ⟨v2, hv2, ru2⟩ := rv2.get hy
    obtain ⟨v3, hv3, ru3⟩ := rv3.get hz
    have ql : q < s.heap.objs.size := Heap.lt_size zz
    refine z3_next_item D zz pi po w1 w2 w3 p p2 p3 (x := v) (y := v2) (z := v3) (by simpa using hv) (by simpa using hv2) (by simpa using hv3) fun g z1 po1 w11 w21 w31 hT hsz hk => ?_
    refine ⟨_, rfl, wpAny_letOwnedTupleGo_zip (s := { s with heap := g }) z1 fun g2 z2 sb => ?_⟩
    have hT2 : g2.get? s.heap.objs.size = some { cls := .type "tuple", data := .seq #[v, v2, v3] } := (sb.2 _ (Nat.ne_of_gt ql)).trans hT
    have new : ObjOk X.prog X.w (upd H s.heap.objs.size (.tup [x, y, z])) g2 s.heap.objs.size (.tup [x, y, z]) := ⟨by show 3 ≤ sizeLine; decide, [v, v2, v3], .cons ru (.cons ru2 (.cons ru3 .nil)), ⟨_, hT2, rfl, _, rfl⟩⟩
    have I1 : Inv X pins σ (upd H s.heap.objs.size (.tup [x, y, z])) { s with heap := g2 } := I.turnedNew (t' := s.toks) (ch := [q, ti, to, m1, m2, m3])
      (fun e o hb f => (sb.2 e (fun r => hb (by simp [r]))).trans (hk e o (fun r => hb (by simp [r])) (fun r => hb (by simp [r])) (fun r => hb (by simp [r])) (fun r => hb (by simp [r])) (fun r => hb (by simp [r])) f)) hf (Nat.le_refl _) new
    refine ⟨.ref s.heap.objs.size, _, I1, rfl, ⟨_, x, y, z, rfl, I.hok.fresh (Nat.le_refl _), rfl, fun l hl => by rw [inv_half_inj I hl hqx]; exact hx, fun l hl => by rw [inv_half_inj I hl hqy]; exact hy, fun l hl => by rw [inv_half_inj I hl hqz]; exact hz⟩, ⟨z2, ?_, ⟨v, v2, v3, ?_⟩, ?_, ?_, ?_⟩, fun e hem => ?_⟩
    · exact (sb.2 _ D.tiq).trans (hk _ _ D.tiq D.tito D.tim1 D.tim2 D.tim3 pi)
    · exact (sb.2 _ D.toq).trans po1
    · exact w11.to fun o e => (sb.2 _ D.m1q).trans e
    · exact w21.to fun o e => (sb.2 _ D.m2q).trans e
    · exact w31.to fun o e => (sb.2 _ D.m3q).trans e
    · have lt : e < s.heap.objs.size := by
        have e' : e = q ∨ e = ti ∨ e = to ∨ e = m1 ∨ e = m2 ∨ e = m3 := by simpa using hem
        rcases e' with r | r | r | r | r | r
        · rw [r]; exact ql
        · rw [r]; exact Heap.lt_size pi
        · rw [r]; exact Heap.lt_size po
        · rw [r]; exact w1.small
        · rw [r]; exact w2.small
        · rw [r]; exact w3.small
      rw [upd_ne (Nat.ne_of_lt lt)]
      exact (hf e hem).1
  done := by
    intro X hP hw hK hc i pins s σ H E I hf st hg
    subst hP hw hK
    obtain ⟨zz, pi, ⟨x0, y0, z0, po⟩, w1, w2, w3⟩ := st
    obtain ⟨xs, ys, zs, hqx, hqy, hqz, hend⟩ := hg
    obtain ⟨its, rv, p, _⟩ := inv_half I hqx
    obtain ⟨its2, rv2, p2, _⟩ := inv_half I hqy
    obtain ⟨its3, rv3, p3, _⟩ := inv_half I hqz
    have l1 := rv.length
    have l2 := rv2.length
    have l3 := rv3.length
    have he : its.toArray[i]? = none ∨ its2.toArray[i]? = none ∨ its3.toArray[i]? = none := hend.imp (fun z => by simp; omega) fun h => h.imp (fun z => by simp; omega) fun z => by simp; omega
    exact z3_next_end (I.ok.hd hc) D zz pi po w1 w2 w3 p p2 p3 he fun g hk => ⟨rfl, I.turnedL (t' := s.toks) (ch := [q, ti, to, m1, m2, m3]) (fun e o hb f =>
      hk e o (fun r => hb (by simp [r])) (fun r => hb (by simp [r])) (fun r => hb (by simp [r])) (fun r => hb (by simp [r])) (fun r => hb (by simp [r])) f) hf⟩
  self := fun A i s Q E st h => wpAny_pyIter_zip st.1 h
/-- a new triple of the i-th of each -/
def YTrip (xs ys zs : Nat → Option V) : Nat → Hp → V → Hp → Prop := fun i H v H' => ∃ T x y z, v = .ref T ∧ H T = none ∧ H' = upd H T (.tup [x, y, z]) ∧ xs i = some x ∧ ys i = some y ∧ zs i = some z
section
variable {X : Cx} {K : PySem.W.Frag}
def iZ3 (u1 u2 u3 : Bool) (K : PySem.W.Frag) (ta : TA) : TI := fun σ H R => ta σ H fun vs H1 => ∃ a b c xs ys zs, vs = [.ref a, .ref b, .ref c] ∧ SqH u1 K H1 a xs ∧ SqH u2 K H1 b ys ∧ SqH u3 K H1 c zs ∧ R (Itz3 u1 u2 u3 K a b c) H1
theorem pi_z3 (u1 u2 u3 : Bool) {e e2 e3 : Expr} {ta : TA} {p pos tpos : Pos} {elts : List Expr} {kk : Nat} (hg : Gl X "zip") (hm : X.mg "zip" = none) (ha : PA X [e, e2, e3] ta)
    (hs : starEach [e, e2, e3] X.env = (false, eval e X.env) :: starEach [e2, e3] X.env := by rfl) (hpl : (backTo pos (starEach [e2, e3] X.env)).any (·.1) = false := by rfl) (hK : X.K = K := by rfl) :
    PI X (.Tuple elts kk tpos) (.Call (.Name "zip" p) [e, e2, e3] [] pos) (iZ3 u1 u2 u3 K ta) := by
  subst hK
  refine ⟨fun pins s σ H R I h => ?_⟩
  refine Call_ (ld_blt I hg hm PyProof.Rows.boot_zip (PyProof.Rows.callWith_type1 (thn (ha.run pos pins s σ H _ I h) fun us s1 ⟨vs, H1, I1, r1, q1⟩ => ?_) hs hpl))
  obtain ⟨a, b, c, xs, ys, zs, rfl, hqx, hqy, hqz, q⟩ := q1
  cases r1 with
  | cons r rr =>
    cases rr with
    | cons r' rr =>
      cases rr with
      | cons r'' rr =>
        cases rr
        cases r
        cases r'
        cases r''
        have new6 : ∀ d, d ∈ [s1.heap.objs.size + 5, s1.heap.objs.size + 3, s1.heap.objs.size + 4, s1.heap.objs.size, s1.heap.objs.size + 1, s1.heap.objs.size + 2] → FpOk X pins H1 d := fun d hd => by
          have le : s1.heap.objs.size ≤ d := by
            simp only [List.mem_cons, List.not_mem_nil, or_false] at hd
            rcases hd with z | z | z | z | z | z <;> rw [z] <;> first | exact Nat.le_refl _ | exact Nat.le_add_right _ _
          exact I1.fpOk le (I1.hok.fresh le)
        obtain ⟨its, rv, p1, lt1⟩ := inv_half I1 hqx
        obtain ⟨its2, rv2, p2, lt2⟩ := inv_half I1 hqy
        obtain ⟨its3, rv3, p3, lt3⟩ := inv_half I1 hqz
        refine z3_call p1 p2 p3 fun g zz pi po w1 w2 w3 hk => wpAny_pyIter_zip zz ?_
        have I2 : Inv X pins σ H1 { s1 with heap := g } := I1.kept (t' := s1.toks) hk
        exact ⟨s1.heap.objs.size + 5, [s1.heap.objs.size + 5, s1.heap.objs.size + 3, s1.heap.objs.size + 4, s1.heap.objs.size, s1.heap.objs.size + 1, s1.heap.objs.size + 2], _, _, H1, rfl, I2, turn_z3 (za3_new lt1 lt2 lt3), ⟨zz, pi, ⟨_, _, _, po⟩, w1, w2, w3⟩, new6, q⟩
theorem walk_z3 {u1 u2 u3 : Bool} {a b c : Addr} {xs ys zs : List V} {n : Nat} (hn : n = min xs.length (min ys.length zs.length)) : Walk (Itz3 u1 u2 u3 K a b c) n (fun H => SqH u1 K H a xs ∧ SqH u2 K H b ys ∧ SqH u3 K H c zs) (YTrip (fun i => xs[i]?) (fun i => ys[i]?) (fun i => zs[i]?)) := by
  subst hn
  refine ⟨fun i H hi q => ⟨xs, ys, zs, xs[i]'(by omega), ys[i]'(by omega), zs[i]'(by omega), q.1, q.2.1, q.2.2, List.getElem?_eq_getElem _, List.getElem?_eq_getElem _, List.getElem?_eq_getElem _⟩, fun H q => ⟨xs, ys, zs, q.1, q.2.1, q.2.2, by omega⟩, fun i H v H' hi q y => ?_⟩
  obtain ⟨T, x, y, z, h1, h2, h3, h4, h5, h6⟩ := y
  exact ⟨T, x, y, z, h1, h2, h3, h4 xs q.1, h5 ys q.2.1, h6 zs q.2.2⟩
end
end RL
/-! repr(x) of data: lists, tuples, numbers, texts, one within another. -/
namespace RL
open PySem PySem.Spec PyProof.Rows L2
section
variable {X : Cx} {K : PySem.W.Frag}
def rRepr (K : PySem.W.Frag) : List V → Hp → VK → Prop := fun xs H Q => ∃ (a : Addr) (d : PyData), xs = [.ref a] ∧ Dp K H (.ref a) d ∧ d.showable = true ∧ d.hasDict = false ∧ d.depth ≤ 60 ∧ d.shown.length ≤ sizeLine ∧ Q (.str d.shown) H
theorem reprK (hg : X.A.guards = some []) (hu : X.A.units + 64 < cLine) (h : X.K = K := by rfl) : CallR X (.builtin "repr") (rRepr K) := by
  subst h
  intro pins s σ H xs us Q I r h
  obtain ⟨a, d, rfl, dp, sh, nd, dd, sz, q⟩ := h
  rw [Vals.ref1 r]
  obtain ⟨as, rd⟩ := Dp.reads I d (.ref a) (.ref a) dp rfl
  exact PySem.repr_of_reads' rd sh (fun e => by rw [nd] at e; cases e) hg (by omega) (fun _ _ e => e) (fun h' u tk kp => ⟨.str _, H, I.kept (t' := tk) kp, ⟨_, rfl⟩, q⟩) sz
end
end RL
/-! The end of a law whose def shows data by repr: there it must be known that nothing is being shown around it (the caller's guards). -/
namespace RLG
open PySem PySem.Spec PyProof.Rows L2
section
variable {P : Program} {w : World} {K : PySem.W.Frag} {mg mb : Str → Option Value} {fa a : Addr} {s : Shared} {vs : List Value} {ns : List Int}
/-- what is asked of the law's def: its run at the caller's own place -/
def RunsTrue (P : Program) (w : World) (K : PySem.W.Frag) (mg : Str → Option Value) (fa a : Addr) (ns : List Int) (s : Shared) : Prop :=
  ∀ (base : Heap) (H : Hp), Env0 P w K mg base callerA [] s H → SqL K H a (ns.map V.int) →
    codeAny (model P w) callerA (.call (.ref fa) ⟨[.ref a], []⟩) (CR CX0 [] P w H s (fun v _ => v = .bl true) fun _ _ _ => False) s
/-- by a heap H in which at most the script is tracked -/
theorem runs_by {H : Hp} (hM : Mod K mg (hidT s.heap H)) (hok : HOk P w H s.heap) (hg : s.gens = #[]) (hO : Only H) (hS : SqL K H a (ns.map V.int)) (F : RunsTrue P w K mg fa a ns s) :
    codeAny (model P w) callerA (.call (.ref fa) ⟨[.ref a], []⟩) (fun r s' => r = .ok (.ret (.bool true)) ∧ OldK s.heap s'.heap ∧ s'.os = s.os ∧ AllBare s'.gens) s := by
  have e0 : Env0 P w K mg (hidT s.heap H) callerA [] s H := ⟨rfl, hM, fun _ _ e => of_hidT e, Nat.le_of_eq (hidT_size _ _), trivial, fun b hb => (by cases (show b ∈ ([] : List Addr) from hb)), hok, .of_eq hg⟩
  refine codeAny_mono (F _ H e0 hS) fun r s' h => ?_
  match r, h with
  | .error _, h => exact (show False from h).elim
  | .ok .next, h => exact (show False from h).elim
  | .ok .brk, h => exact (show False from h).elim
  | .ok .cont, h => exact (show False from h).elim
  | .ok (.ret u), h =>
    obtain ⟨v, H', os, bare, un, hok', rv, q⟩ := h
    cases (show v = .bl true from q)
    cases (show u = Value.bool true from rv)
    refine ⟨rfl, OldK.of_keep fun b o e => ?_, os, bare⟩
    rcases hO b with z | ⟨ob, xs, z⟩
    · exact un.keep b o e z (fun y => by cases (show b ∈ ([] : List Addr) from y)) (by simp)
    · have e1 := (hok b _ z).1
      rw [e] at e1
      cases e1
      exact (hok' b _ (un.frzs b _ _ z)).1
theorem law_callG (KX : K.In s.heap) (hns : s.heap.Ns mainGlobals mg) (hb : s.heap.Ns builtinsNs mb) (hbb : ∀ x : Str, x ≠ "__name__" → mb x = bootBuiltins x) (hlim : s.heap.NoLimit) (hg : s.gens = #[])
    (ha : s.heap.get? a = some { cls := .type "list", data := .seq vs.toArray }) (hi : IntsAre vs ns) (hl : ns.length ≤ sizeLine) (F : RunsTrue P w K mg fa a ns s) :
    codeAny (model P w) callerA (.call (.ref fa) ⟨[.ref a], []⟩) (fun r s' => r = .ok (.ret (.bool true)) ∧ OldK s.heap s'.heap ∧ s'.os = s.os ∧ AllBare s'.gens) s := by
  have rv := vals_ints hi
  have lv := hi.length
  -- what the module keeps stays in sight
  have mod_of : ∀ H : Hp, (∀ b, H b ≠ none → b = a ∧ K.lookup a = none) → Mod K mg (hidT s.heap H) := fun H only => by
    have no : ∀ {b : Addr} {o : Obj}, s.heap.get? b = some o → (b = a → K.lookup a ≠ none ∨ ∀ vs n, o.data ≠ .seq vs n) → (hidT s.heap H).get? b = some o := fun {b o} e h => by
      refine hidT_get e ?_
      cases q : H b with
      | none => rfl
      | some u =>
        obtain ⟨e1, e2⟩ := only b (by rw [q]; simp)
        rcases h e1 with z | z
        · exact absurd e2 z
        · subst e1
          rw [ha] at e
          cases e
          exact absurd rfl (z _ _)
    have ns' : ∀ {b : Addr} {m : Str → Option Value}, s.heap.Ns b m → (hidT s.heap H).Ns b m := fun ⟨o, es, ep, e, d, r⟩ => ⟨o, es, ep, no e (fun _ => .inr fun _ _ z => by rw [d] at z; cases z), d, r⟩
    refine ⟨fun b o e => no (KX b o e) fun eb => .inl fun z => ?_, ns' hns, ⟨mb, ns' hb, hbb⟩, ?_⟩
    · rw [← eb, e] at z
      cases z
    · obtain ⟨mc, h1, h2⟩ := hlim
      exact ⟨mc, ns' h1, h2⟩
  cases hk : K.lookup a with
  | some o =>
    have e := KX a o hk
    rw [ha] at e
    cases e
    have h0 : ∀ b, (fun _ => none : Hp) b ≠ none → b = a ∧ K.lookup a = none := fun b z => absurd rfl z
    exact runs_by (H := fun _ => none) (mod_of _ h0) (fun b u z => by cases (show (none : Option HO) = some u from z)) hg (fun _ => .inl rfl) (.inr ⟨_, vs.toArray, _, hk, rfl, rfl, rfl, by rw [List.size_toArray, lv]; exact hl, by simpa using rv⟩) F
  | none =>
    let H : Hp := fun b => if b = a then some (.frz { cls := .type "list", data := .seq vs.toArray } (.lst (ns.map V.int))) else none
    have at_ : H a = some (.frz { cls := .type "list", data := .seq vs.toArray } (.lst (ns.map V.int))) := if_pos rfl
    have off : ∀ b, b ≠ a → H b = none := fun b z => if_neg z
    have h0 : ∀ b, H b ≠ none → b = a ∧ K.lookup a = none := fun b z => ⟨Classical.byContradiction fun y => z (off b y), hk⟩
    refine runs_by (H := H) (mod_of H h0) (fun b u z => ?_) hg (fun b => ?_) (.inl (.inr ⟨_, at_⟩)) F
    · by_cases e : b = a
      · subst e
        rw [at_] at z
        cases z
        exact ⟨ha, by rw [List.length_map]; exact hl, vs, _, rv, ha⟩
      · rw [off b e] at z
        cases z
    · by_cases e : b = a
      · subst e
        exact .inr ⟨_, _, at_⟩
      · exact .inl (off b e)
/-- the end of the row -/
theorem walk_ofG {l : PySem.W.OpenLaw} {n : Nat} {q : Program} {loose : List Str} {XP : (Str → Option Value) → Heap → Prop} {YP : World → Heap → Prop} {d : DefRec} (hn : l.most = some n) (hn2 : n ≤ sizeLine) (hdf : d.params.defaults = [])
    (F : ∀ (w : World) (mg : Str → Option Value) (fa : Addr) (h : Heap), YP w h → h.Ns mainGlobals mg → mg d.name = some (.ref fa) →
      ∃ K : PySem.W.Frag, K.In h ∧ ∀ (a : Addr) (ns : List Int) (s : Shared), ns.length ≤ n → RunsTrue l.prog w K mg fa a ns s) :
    PySem.W.WalkO q loose XP YP l.row.toRowW d [] (fun f vs => PySem.call f vs) := by
  refine Att.attach_call hn hdf fun w s₀ s₁ mg mb fa o pm cd doc a vs ns G Y ho hd hcd hmg hobj hints hlen hg => ?_
  obtain ⟨K, KX, hF⟩ := F w mg fa _ Y G.T.g hmg
  exact law_callG KX G.T.g G.T.b G.T.builtins G.T.nolimit hg hobj hints (Nat.le_trans hlen hn2) (hF a ns s₁ hlen)
end
end RLG
namespace RLG
open PySem PySem.Spec PyProof.Rows L2
/-- by the body of its def -/
theorem runs_of {P : Program} {w : World} {K : PySem.W.Frag} {mg : Str → Option Value} {f a : Addr} {s : Shared} {ns : List Int} {N : List Str} {k : Nat} {x qual y : Str} {params : Arguments} {body : List Stmt} {scope : Scope} {dvs : List V} {kws : List (Str × V)} {fd : FuncData}
    (F : FunD K x qual params body scope dvs kws f fd) (S : FnScope N [y] scope) (hr : Room (k + 1) callerA) (hb : ∀ (s : Shared) (u : Value), BindsTo s fd ⟨[u], []⟩ [(y, u)])
    (hbody : ∀ (cdv : Value) (base : Heap) (H : Hp), Room k (callerA.deeper (envOfC qual scope s.heap.objs.size f cdv)) → SqL K H a (ns.map V.int) →
      ∃ t, PSs (cxOf CX0 P w K mg base N qual scope f cdv callerA [] s H fun _ _ _ => False) body t ∧ t { nx := fun _ _ => V.non = .bl true, rt := fun v _ => v = .bl true } (start N [.ref a]) H) : RunsTrue P w K mg f a ns s := by
  intro base H e0 hS
  obtain ⟨oc, od, dV, kV, doc, pm, an, cdv, ct, osl, rfl, lk, hcd, _, _⟩ := F.ex
  exact LamX.run_ofS (N := N) (ps := [y]) (us := [.ref a]) (vs := [.ref a]) lk hcd S hr e0 (hb s (.ref a)) (.cons rfl .nil) rfl fun hr' => hbody cdv base H hr' hS
end RLG
/-! What stands in the heap: numbers, lots, boards, the law's box. -/
namespace RL
open PySem PySem.Spec PyProof.Rows L2 RLM
def vI (k : Nat) : V := .int (k : Nat)
def vO : Option Nat → V
  | none => .non
  | some k => .int (k : Nat)
/-- all but the list at c and dicts stay -/
def Kc (c : Addr) (H H' : Hp) : Prop := ∀ a o, a ≠ c → (∀ kvs, o ≠ .dK kvs) → H a = some o → H' a = some o
theorem Kc.refl (c : Addr) (H : Hp) : Kc c H H := fun _ _ _ _ h => h
theorem Kc.trans {c : Addr} {H H1 H2 : Hp} (a : Kc c H H1) (b : Kc c H1 H2) : Kc c H H2 := fun x o h1 h2 h => b x o h1 h2 (a x o h1 h2 h)
theorem kc_same {c : Addr} {H H' : Hp} (s : Same H H') : Kc c H H' := fun x o _ _ h => s x o h
theorem same_upd {H : Hp} {p : Addr} {o : HO} (h : H p = none) : Same H (upd H p o) := fun b u e => by
  rw [upd_ne (ne_of_none e h)]
  exact e
/-- an object that H does not know may change -/
theorem same_mut {H H' : Hp} {p : Addr} {o : HO} (s : Same H H') (h : H p = none) : Same H (upd H' p o) := fun b u e => by
  rw [upd_ne (ne_of_none e h)]
  exact s b u e
theorem Kc.upd {c : Addr} {H H' : Hp} {p : Addr} {o : HO} (s : Kc c H H') (h : H p = none) : Kc c H (L2.upd H' p o) := fun b u h1 h2 e => by
  rw [upd_ne (ne_of_none e h)]
  exact s b u h1 h2 e
theorem Kc.tup {c : Addr} {H H' : Hp} {a : Addr} {xs : List V} (k : Kc c H H') (hc : ∃ ys, H c = some (.lst ys)) (h : H a = some (.tup xs)) : H' a = some (.tup xs) := by
  refine k a _ (fun e => ?_) (fun kvs z => by cases z) h
  obtain ⟨ys, hc⟩ := hc
  rw [e, hc] at h
  cases h
/-- a list of pairs: where each stands, and what it is -/
structure PairsAt (c : Addr) (H : Hp) (l : Addr) (L : List (Addr × Nat × Nat)) : Prop where
  at_ : H l = some (.lst (L.map fun q => V.ref q.1))
  ne : l ≠ c
  tup : ∀ q ∈ L, H q.1 = some (.tup [vI q.2.1, vI q.2.2])
theorem PairsAt.keep {c : Addr} {H H' : Hp} {l : Addr} {L : List (Addr × Nat × Nat)} (k : Kc c H H') (hc : ∃ ys, H c = some (.lst ys)) (h : PairsAt c H l L) : PairsAt c H' l L :=
  ⟨k _ _ h.ne (fun _ z => by cases z) h.at_, h.ne, fun q hq => k.tup hc (h.tup q hq)⟩
theorem PairsAt.same {c : Addr} {H H' : Hp} {l : Addr} {L : List (Addr × Nat × Nat)} (k : Same H H') (h : PairsAt c H l L) : PairsAt c H' l L :=
  ⟨k _ _ h.at_, h.ne, fun q hq => k _ _ (h.tup q hq)⟩
/-- a board's attributes -/
def bf (n : Nat) (lp ll lf : Addr) : List (Str × V) := putF "fars" (.ref lf) (putF "leads" (.ref ll) (putF "pairs" (.ref lp) (putF "many" (.int (n : Nat)) [])))
structure BoardAt (K : PySem.W.Frag) (c : Addr) (H : Hp) (x : Addr) (n : Nat) (E : List (Nat × Nat)) : Prop where
  ex : ∃ (dx lp ll lf : Addr) (L : List (Addr × Nat × Nat)) (ls : List V) (F : List (Addr × List (Option Nat))), H x = some (.ins (cB K) dx (bf n lp ll lf)) ∧ PairsAt c H lp L ∧ L.map (·.2) = E ∧
    H ll = some (.lst ls) ∧ ll ≠ c ∧ ls.length = n ∧ H lf = some (.lst (F.map fun q => V.ref q.1)) ∧ lf ≠ c ∧ F.length = n ∧ ∀ (a : Nat) (q : Addr × List (Option Nat)), F[a]? = some q → H q.1 = some (.lst (q.2.map vO)) ∧ q.1 ≠ c ∧ Fars n E a q.2
  lo : 1 ≤ n
  hi : n ≤ 8
  on : On n E
  nd : E.Nodup
theorem BoardAt.keep {K : PySem.W.Frag} {c : Addr} {H H' : Hp} {x : Addr} {n : Nat} {E : List (Nat × Nat)} (k : Kc c H H') (hc : ∃ ys, H c = some (.lst ys)) (h : BoardAt K c H x n E) : BoardAt K c H' x n E := by
  obtain ⟨dx, lp, ll, lf, L, ls, F, h1, h2, h3, h4, h5, h6, h7, h8, h9, h10⟩ := h.ex
  refine ⟨⟨dx, lp, ll, lf, L, ls, F, ?_, h2.keep k hc, h3, k _ _ h5 (fun _ z => by cases z) h4, h5, h6, k _ _ h8 (fun _ z => by cases z) h7, h8, h9, fun a q e => ?_⟩, h.lo, h.hi, h.on, h.nd⟩
  · refine k _ _ (fun e => ?_) (fun _ z => by cases z) h1
    obtain ⟨ys, hc⟩ := hc
    rw [e, hc] at h1
    cases h1
  · obtain ⟨q1, q2, q3⟩ := h10 a q e
    exact ⟨k _ _ q2 (fun _ z => by cases z) q1, q2, q3⟩
theorem BoardAt.same {K : PySem.W.Frag} {c : Addr} {H H' : Hp} {x : Addr} {n : Nat} {E : List (Nat × Nat)} (k : Same H H') (h : BoardAt K c H x n E) : BoardAt K c H' x n E := by
  obtain ⟨dx, lp, ll, lf, L, ls, F, h1, h2, h3, h4, h5, h6, h7, h8, h9, h10⟩ := h.ex
  exact ⟨⟨dx, lp, ll, lf, L, ls, F, k _ _ h1, h2.same k, h3, k _ _ h4, h5, h6, k _ _ h7, h8, h9, fun a q e => ⟨k _ _ (h10 a q e).1, (h10 a q e).2⟩⟩, h.lo, h.hi, h.on, h.nd⟩
theorem BoardAt.obj {K : PySem.W.Frag} {c : Addr} {H : Hp} {x : Addr} {n : Nat} {E : List (Nat × Nat)} (h : BoardAt K c H x n E) : ∃ dx lp ll lf, H x = some (.ins (cB K) dx (bf n lp ll lf)) := by
  obtain ⟨dx, lp, ll, lf, L, ls, F, h1, _⟩ := h.ex
  exact ⟨dx, lp, ll, lf, h1⟩
theorem bf_eq (n : Nat) (lp ll lf : Addr) : bf n lp ll lf = ([("many", .int (n : Nat)), ("pairs", .ref lp), ("leads", .ref ll), ("fars", .ref lf)] : List (Str × V)) := by rfl
theorem bf_many (n : Nat) (lp ll lf : Addr) : (bf n lp ll lf).lookup ("many" : Str) = some (.int (n : Nat)) := by rfl
theorem bf_pairs (n : Nat) (lp ll lf : Addr) : (bf n lp ll lf).lookup ("pairs" : Str) = some (.ref lp) := by rfl
theorem bf_leads (n : Nat) (lp ll lf : Addr) : (bf n lp ll lf).lookup ("leads" : Str) = some (.ref ll) := by rfl
theorem bf_fars (n : Nat) (lp ll lf : Addr) : (bf n lp ll lf).lookup ("fars" : Str) = some (.ref lf) := by rfl
theorem bf_check (n : Nat) (lp ll lf : Addr) : (bf n lp ll lf).lookup ("check_place" : Str) = none := by rfl
theorem bf_within (n : Nat) (lp ll lf : Addr) : (bf n lp ll lf).lookup ("within" : Str) = none := by rfl
theorem bf_turned (n : Nat) (lp ll lf : Addr) : (bf n lp ll lf).lookup ("turned" : Str) = none := by rfl
theorem bf_renamed (n : Nat) (lp ll lf : Addr) : (bf n lp ll lf).lookup ("renamed" : Str) = none := by rfl
/-! ### the law's box -/
def boxK (c : Addr) (r s t : Int) : List (Key × V) := [(Sum.inr "cells", .ref c), (Sum.inr "rest", .int r), (Sum.inr "seed", .int s), (Sum.inr "turn", .int t)]
structure Box (b c : Addr) (H : Hp) : Prop where
  ex : ∃ (ns : List Int) (r s t : Int), H b = some (.dK (boxK c r s t)) ∧ H c = some (.lst (ns.map V.int)) ∧ 0 ≤ r ∧ 0 ≤ s ∧ s < 2147483629 ∧ ns.length ≤ 63
theorem Box.same {b c : Addr} {H H' : Hp} (k : Same H H') (h : Box b c H) : Box b c H' := by
  obtain ⟨ns, r, s, t, h1, h2, h3⟩ := h.ex
  exact ⟨ns, r, s, t, k _ _ h1, k _ _ h2, h3⟩
theorem Box.lst {b c : Addr} {H : Hp} (h : Box b c H) : ∃ ys, H c = some (.lst ys) := by
  obtain ⟨ns, r, s, t, h1, h2, h3⟩ := h.ex
  exact ⟨_, h2⟩
theorem bx_cells (c : Addr) (r s t : Int) : valV (boxK c r s t) (Sum.inr "cells" : Key) = some (.ref c) := by rfl
theorem bx_rest (c : Addr) (r s t : Int) : valV (boxK c r s t) (Sum.inr "rest" : Key) = some (.int r) := by rfl
theorem bx_seed (c : Addr) (r s t : Int) : valV (boxK c r s t) (Sum.inr "seed" : Key) = some (.int s) := by rfl
theorem bx_turn (c : Addr) (r s t : Int) : valV (boxK c r s t) (Sum.inr "turn" : Key) = some (.int t) := by rfl
theorem bx_rest_put (c : Addr) (r s t x : Int) : putK (boxK c r s t) (Sum.inr "rest" : Key) (.int x) = boxK c x s t := by rfl
theorem bx_seed_put (c : Addr) (r s t x : Int) : putK (boxK c r s t) (Sum.inr "seed" : Key) (.int x) = boxK c r x t := by rfl
theorem bx_turn_put (c : Addr) (r s t x : Int) : putK (boxK c r s t) (Sum.inr "turn" : Key) (.int x) = boxK c r s x := by rfl
theorem bg_cells {H : Hp} {b c : Addr} {r s t : Int} (hb : H b = some (.dK (boxK c r s t))) : DGet H b (.str "cells") (some (.ref c)) := DGet.k (k := Sum.inr "cells") hb
theorem bg_rest {H : Hp} {b c : Addr} {r s t : Int} (hb : H b = some (.dK (boxK c r s t))) : DGet H b (.str "rest") (some (.int r)) := DGet.k (k := Sum.inr "rest") hb
theorem bg_seed {H : Hp} {b c : Addr} {r s t : Int} (hb : H b = some (.dK (boxK c r s t))) : DGet H b (.str "seed") (some (.int s)) := DGet.k (k := Sum.inr "seed") hb
theorem bg_turn {H : Hp} {b c : Addr} {r s t : Int} (hb : H b = some (.dK (boxK c r s t))) : DGet H b (.str "turn") (some (.int t)) := DGet.k (k := Sum.inr "turn") hb
theorem bp_rest {H : Hp} {b c : Addr} {r s t x : Int} (hb : H b = some (.dK (boxK c r s t))) : DPut H b (.str "rest") (.int x) (upd H b (.dK (boxK c x s t))) := DPut.k (k := Sum.inr "rest") hb (by show 4 < sizeLine; decide)
theorem bp_seed {H : Hp} {b c : Addr} {r s t x : Int} (hb : H b = some (.dK (boxK c r s t))) : DPut H b (.str "seed") (.int x) (upd H b (.dK (boxK c r x t))) := DPut.k (k := Sum.inr "seed") hb (by show 4 < sizeLine; decide)
theorem bp_turn {H : Hp} {b c : Addr} {r s t x : Int} (hb : H b = some (.dK (boxK c r s t))) : DPut H b (.str "turn") (.int x) (upd H b (.dK (boxK c r s x))) := DPut.k (k := Sum.inr "turn") hb (by show 4 < sizeLine; decide)
/-- the dict changes -/
theorem Kc.dict {c b : Addr} {H H' : Hp} {o : HO} (k : Kc c H H') (hb : ∃ kvs, H b = some (.dK kvs)) : Kc c H (L2.upd H' b o) := fun a u h1 h2 e => by
  have ne : a ≠ b := fun z => by
    obtain ⟨kvs, hb⟩ := hb
    rw [z, hb] at e
    exact h2 kvs (Option.some.inj e).symm
  rw [upd_ne ne]
  exact k a u h1 h2 e
theorem Kc.cell {c : Addr} {H H' : Hp} {o : HO} (k : Kc c H H') : Kc c H (L2.upd H' c o) := fun a u h1 h2 e => by
  rw [upd_ne h1]
  exact k a u h1 h2 e
theorem Box.dict {b c : Addr} {H : Hp} (h : Box b c H) : ∃ kvs, H b = some (.dK kvs) := by
  obtain ⟨ns, r, s, t, h1, h2, h3⟩ := h.ex
  exact ⟨_, h1⟩
theorem Box.ne {b c : Addr} {H : Hp} (h : Box b c H) : b ≠ c := by
  obtain ⟨ns, r, s, t, h1, h2, h3⟩ := h.ex
  exact ne_of h1 h2 (by intro z; cases z)
end RL
namespace RL
open PySem PySem.Spec PyProof.Rows L2 RLM
section
variable {P : Program} {w : World} {K : PySem.W.Frag} {mg : Str → Option Value} {base : Heap}
/-! ### data -/
theorem dp_ints {H : Hp} : ∀ ns : List Int, DpAll K H (ns.map V.int) (ns.map PyData.int)
  | [] => .nil
  | n :: ns => .cons (.int n) (dp_ints ns)
theorem shaped_ints (ns : List Int) : SeqAt.shaped (.list (ns.map PyData.int)) = true := PySem.W.ke_shaped_ints ns
theorem shaped_tup (ns : List Int) : SeqAt.shaped (.tuple (ns.map PyData.int)) = true := by
  have h := PySem.W.ke_shaped_ints ns
  exact h
theorem eqv_tup (ns : List Int) : PyData.eqv (.tuple (ns.map PyData.int)) (.tuple (ns.map PyData.int)) = true := SeqAt.eqv_refl _ (SeqAt.canLay_of_shaped (shaped_tup ns))
theorem six0 (n : Nat) : seqIndex? 0 (n + 1) = some 0 := by
  unfold seqIndex?
  simp
theorem cut_ints (ns : List Int) (lo hi : Option Int) : ∃ ms : List Int, cutV (ns.map V.int) lo hi = ms.map V.int ∧ ms.length ≤ ns.length := by
  unfold cutV
  rw [← List.map_drop, ← List.map_take]
  exact ⟨_, rfl, by rw [List.length_take, List.length_drop]; omega⟩
/-! ### is_number, is_between -/
def spNumber : Sp := fun vs H Q _ => ∃ i : Int, vs = [.int i] ∧ Q (.bl true) H
theorem sc_is_number : FnScope ["thing"] ["thing"] (defScope s_is_number) := ⟨rfl, rfl, rfl, by decide +kernel, rfl, by decide +kernel, by decide +kernel⟩
theorem ok_is_number (T : Tx K mg) : Has P w K mg base (He.ga K "is_number") 1 ["thing"] spNumber := by
  obtain ⟨fd, F⟩ := T.d_is_number
  refine ⟨⟨fd, F.ok sc_is_number (fun vs H Q E h => ?_) (fun cdv A outer s H vs Q E hr h => ?_), F.bindsN fun _ _ _ _ _ _ us hl => match us, hl with | [_], _ => rfl⟩, F.kp⟩
  · obtain ⟨i, rfl, _⟩ := h
    rfl
  · obtain ⟨i, rfl, h⟩ := h
    refine ⟨_, PSs.nox (pss_one (ps_ret (pe_and (pe_callB (isiK (K := K)) (by rfl) T.free_isinstance (by decide +kernel) (pa_cons (pv 0) (pa_cons (pe_bltn (v := .ty "int") (u := .type "int") (by rfl) T.free_int (by decide +kernel) rfl) pa_nil))) (pe_one (pe_not (pe_callB (isiK (K := K)) (by rfl) T.free_isinstance (by decide +kernel) (pa_cons (pv 0) (pa_cons (pe_bltn (v := .ty "bool") (u := .type "bool") (by rfl) T.free_bool (by decide +kernel) rfl) pa_nil)))))))), ?_⟩
    refine ⟨_, rfl, _, _, _, _, true, rfl, .ty _, .base (.int i), kit_ty (by decide +kernel), true, rfl, iteT ?_⟩
    exact ⟨_, rfl, _, _, _, _, false, rfl, .ty _, .base (.int i), kit_ty (by decide +kernel), false, rfl, h⟩
def spBetween : Sp := fun vs H Q _ => ∃ i a b : Int, vs = [.int i, .int a, .int b] ∧ Q (.bl (decide (a ≤ i ∧ i ≤ b))) H
theorem sc_is_between : FnScope ["thing", "least", "most"] ["thing", "least", "most"] (defScope s_is_between) := ⟨rfl, rfl, rfl, by decide +kernel, rfl, by decide +kernel, by decide +kernel⟩
theorem ok_is_between (T : Tx K mg) : Has P w K mg base (He.ga K "is_between") 2 ["thing", "least", "most"] spBetween := by
  obtain ⟨⟨fd_is_number, F_is_number, b_is_number⟩, kp_is_number⟩ := ok_is_number (P := P) (w := w) (base := base) T
  obtain ⟨fd, F⟩ := T.d_is_between
  refine ⟨⟨fd, F.ok sc_is_between (fun vs H Q E h => ?_) (fun cdv A outer s H vs Q E hr h => ?_), F.bindsN fun _ _ _ _ _ _ us hl => match us, hl with | [_, _, _], _ => rfl⟩, F.kp⟩
  · obtain ⟨i, a, b, rfl, _⟩ := h
    rfl
  · obtain ⟨i, a, b, rfl, h⟩ := h
    have hr_is_number : Room 1 _ := hr.mono (by decide)
    refine ⟨_, PSs.nox (pss_one (ps_ret (pe_and (pe_call F_is_number hr_is_number rfl T.glo_is_number kp_is_number b_is_number .nil pass0 (pa_cons (pv 0) pa_nil)) (pe_one (pe_chain op_le op_le (pv 1) (pv 0) (pv 2)))))), ?_⟩
    refine ⟨_, rfl, i, rfl, _, rfl, iteT ?_⟩
    refine ⟨_, rfl, _, rfl, _, _, rfl, rfl, _, rfl, ?_⟩
    by_cases h1 : a ≤ i
    · rw [decide_eq_true h1]
      refine iteT ⟨_, rfl, _, _, rfl, rfl, ?_⟩
      have e : decide (a ≤ i ∧ i ≤ b) = decide (i ≤ b) := by simp [h1]
      rw [e] at h
      exact h
    · rw [decide_eq_false h1]
      refine iteF ?_
      have e : decide (a ≤ i ∧ i ≤ b) = false := by simp [h1]
      rw [e] at h
      exact h
/-! ### the box -/
def spBox (K : PySem.W.Frag) : Sp := fun vs H Q _ => ∃ (a : Addr) (ns : List Int), vs = [.ref a] ∧ SqL K H a (ns.map V.int) ∧ ns.length ≤ 63 ∧ ∀ H' b c, Same H H' → Box b c H' → Q (.ref b) H'
theorem sc__law_box : FnScope ["_law_script"] ["_law_script"] (defScope s__law_box) := ⟨rfl, rfl, rfl, by decide +kernel, rfl, by decide +kernel, by decide +kernel⟩
theorem ok_box (T : Tx K mg) : Has P w K mg base (He.ga K "_law_box") 1 ["_law_script"] (spBox K) := by
  obtain ⟨fd, F⟩ := T.d__law_box
  refine ⟨⟨fd, F.ok sc__law_box (fun vs H Q E h => ?_) (fun cdv A outer s H vs Q E hr h => ?_), F.bindsN fun _ _ _ _ _ _ us hl => match us, hl with | [_], _ => rfl⟩, F.kp⟩
  · obtain ⟨a, ns, rfl, _⟩ := h
    rfl
  · obtain ⟨a, ns, rfl, hS, hl, h⟩ := h
    refine ⟨_, PSs.nox (pss_one (ps_ret (pe_disp (pps_cons pe_str (pe_callTy (listK (K := K)) (by rfl) T.free_list (by decide +kernel) (pa_cons (pe_slice (slL (K := K)) (pv 0) po_none (po_some pe_int)) pa_nil)) (pps_cons pe_str pe_int (pps_cons pe_str pe_int (pps_cons pe_str pe_int pps_nil)))) (by rfl) (by rfl) (fun z => by cases z) (by decide)))), ?_⟩
    intro b hb
    have sb : Same H (upd H b (.dK [])) := same_upd hb
    refine ⟨_, rfl, ?_⟩
    refine ⟨63, rfl, a, _, rfl, sb.seq hS, fun q hq => ?_⟩
    have sq := same_upd (o := .lst (cutV (List.map V.int ns) none (some 63))) hq
    obtain ⟨ms, em, lm⟩ := cut_ints ns none (some 63)
    refine ⟨q, _, rfl, .inl (SqL.of upd_same), fun l hl => ?_⟩
    have s2 := same_upd (o := .lst (cutV (List.map V.int ns) none (some 63))) hl
    have s3 := (sb.trans sq).trans s2
    refine ⟨?_, [(Sum.inr "cells", .ref l), (Sum.inr "rest", .int 0), (Sum.inr "seed", .int 9121001), (Sum.inr "turn", .int 0)], rfl, (by show 4 ≤ 15; decide), ?_⟩
    · exact s2 _ _ (sq _ _ upd_same)
    · have nlb : l ≠ b := fun z => by
        rw [z, sq _ _ upd_same] at hl
        cases hl
      refine h _ b l (same_mut s3 hb) ⟨ms, 0, 9121001, 0, upd_same, ?_, by decide, by decide, by decide, by omega⟩
      rw [upd_ne nlb, upd_same, em]
/-! ### pick -/
def spPick : Sp := fun vs H Q _ => ∃ (b c : Addr) (m : Int), vs = [.ref b, .int m] ∧ Box b c H ∧ 1 ≤ m ∧ m < 1073741824 ∧ ∀ H' i, Kc c H H' → Box b c H' → 0 ≤ i → i < m → Q (.int i) H'
theorem sc__law_pick : FnScope ["_law_box_here", "_law_many", "_law_cell", "_law_digit", "_law_seed"] ["_law_box_here", "_law_many"] (defScope s__law_pick) := ⟨rfl, rfl, rfl, by decide +kernel, rfl, by decide +kernel, by decide +kernel⟩
theorem ok_pick (T : Tx K mg) : Has P w K mg base (He.ga K "_law_pick") 1 ["_law_box_here", "_law_many"] spPick := by
  obtain ⟨fd, F⟩ := T.d__law_pick
  refine ⟨⟨fd, F.ok sc__law_pick (fun vs H Q E h => ?_) (fun cdv A outer s H vs Q E hr h => ?_), F.bindsN fun _ _ _ _ _ _ us hl => match us, hl with | [_, _], _ => rfl⟩, F.kp⟩
  · obtain ⟨b, c, m, rfl, _⟩ := h
    rfl
  · obtain ⟨b, c, m, rfl, B, m1, m2, h⟩ := h
    have hu := hu_of hr
    refine ⟨_, PSs.nox (C8.pss_cut (ps_if (PW.pt (pw_and (pt_cmpR op_eq (pe_dget hu (pv 0) pe_str (fun _ _ => rfl)) pe_int (nomark _)) (pw_and1 (pt_cmpR (neD (K := K) hr.units) (pe_dget hu (pv 0) pe_str (fun _ _ => rfl)) (pe_lst pa_nil) (nomark _))))) (pss_cons (ps_set (i := 2) sc__law_pick.nd rfl (Or.inl rfl) (bmK (K := K) PySem.F.plainAttrs_list PySem.F.slot_list_pop PySem.F.type_list_pop mt_popAt (pe_dget hu (pv 0) pe_str (fun _ _ => rfl)) (pa_cons pe_int pa_nil)))
      (pss_cons (ps_dput hu (pv 0) pe_str (pe_callB (call_max2 rfl) (by rfl) T.free_max (by decide +kernel) (pa_cons pe_int (pa_cons (pe_op op_sub (pv 2) (pe_op op_pow pe_int pe_int)) pa_nil))) rfl)
      (pss_one (ps_dput hu (pv 0) pe_str (pe_op op_mod (pe_op op_add (pe_op op_add (pe_op op_mul (pe_dget hu (pv 0) pe_str (fun _ _ => rfl)) pe_int) (pe_op op_mul (pe_op op_mod (pv 2) pe_int) pe_int)) pe_int) pe_int) rfl)))) pss_nil)
      (pss_cons (ps_if (pt_cmpR op_gt (pe_dget hu (pv 0) pe_str (fun _ _ => rfl)) pe_int (nomark _)) (pss_cons (ps_set (i := 3) sc__law_pick.nd rfl (Or.inl rfl) (pe_op op_modN (pe_dget hu (pv 0) pe_str (fun _ _ => rfl)) (pv 1)))
      (pss_cons (ps_dput hu (pv 0) pe_str (pe_op op_fdivN (pe_dget hu (pv 0) pe_str (fun _ _ => rfl)) (pv 1)) rfl)
      (pss_one (ps_ret (pv 3))))) pss_nil)
      (pss_cons (ps_dput hu (pv 0) pe_str (pe_op op_add (pe_dget hu (pv 0) pe_str (fun _ _ => rfl)) pe_int) rfl)
      (pss_cons (ps_set (i := 4) sc__law_pick.nd rfl (Or.inl rfl) (pe_op op_mod (pe_op op_add (pe_op op_add (pe_op op_mul (pe_dget hu (pv 0) pe_str (fun _ _ => rfl)) pe_int) (pe_op op_mul (pe_dget hu (pv 0) pe_str (fun _ _ => rfl)) pe_int)) pe_int) pe_int))
      (pss_cons (ps_dput hu (pv 0) pe_str (pe_op op_mod (pe_op op_add (pe_op op_add (pe_op op_mul (pv 4) (pv 4)) (pe_op op_mul pe_int (pv 4))) pe_int) pe_int) rfl)
      (pss_one (ps_ret (pe_op op_modN (pe_op op_add (pe_op op_fdiv (pe_dget hu (pv 0) pe_str (fun _ _ => rfl)) pe_int) (pe_op op_mul (pe_op op_mod (pe_dget hu (pv 0) pe_str (fun _ _ => rfl)) pe_int) pe_int)) (pv 1))))))))), ?_⟩
    refine ⟨fun σ H1 => (∃ v2, σ = [some (.ref b), some (.int m), v2, none, none]) ∧ Kc c H H1 ∧ Box b c H1, ?_, ?_⟩
    · obtain ⟨ns, r, z, t, hb, hc, r0, z0, z1, nl⟩ := B.ex
      have nbc := B.ne
      refine ⟨_, rfl, b, _, rfl, bg_rest hb, rfl, _, rfl, ?_⟩
      refine ite2 (fun hr0 => ?_) (fun hr0 => iteF ⟨⟨none, rfl⟩, Kc.refl c H, B⟩)
      refine ⟨_, rfl, b, _, rfl, bg_cells hb, Nat.zero_le _, fun l hl => ?_⟩
      have sl : Same H (upd H l (.lst [])) := same_upd hl
      refine ⟨.list (ns.map .int), .list [], .lst (SqL.of (sl _ _ hc)) (dp_ints ns), .lst (SqL.of upd_same) .nil, shaped_ints ns, shaped_ints [], _, rfl, ?_⟩
      cases ns with
      | nil => exact iteF ⟨⟨none, rfl⟩, kc_same sl, B.same sl⟩
      | cons n0 ns =>
        refine iteT ?_
        have hb1 := sl _ _ hb
        have hc1 := sl _ _ hc
        generalize hH1 : upd H l (.lst []) = H1 at sl hb1 hc1
        refine ⟨_, rfl, b, _, rfl, bg_cells hb1, .inl ⟨rfl, _, SqL.of hc1⟩, c, _, 0, 0, _, rfl, rfl, hc1, by decide, by decide, six0 _, rfl, ?_⟩
        have hb2 : (upd H1 c (.lst (ns.map V.int))) b = some (.dK (boxK c r z t)) := by
          rw [upd_ne nbc]
          exact hb1
        have hc2 : (upd H1 c (.lst (ns.map V.int))) c = some (.lst (ns.map V.int)) := upd_same
        have k2 : Kc c H (upd H1 c (.lst (ns.map V.int))) := (kc_same sl).cell
        have e2 : ((n0 :: ns).map V.int).eraseIdx 0 = ns.map V.int := rfl
        rw [e2]
        generalize upd H1 c (.lst (ns.map V.int)) = H2 at hb2 hc2 k2
        refine ⟨_, rfl, _, _, rfl, rfl, ⟨by decide, by decide, by decide⟩, _, _, rfl, rfl, _, _, rfl, _, rfl, b, _, rfl, bp_rest hb2, ?_⟩
        have hb3 : (upd H2 b (.dK (boxK c (if n0 - 10 ^ (18 : Int).toNat > 0 then n0 - 10 ^ (18 : Int).toNat else 0) z t))) b = _ := upd_same
        have hc3 : (upd H2 b (.dK (boxK c (if n0 - 10 ^ (18 : Int).toNat > 0 then n0 - 10 ^ (18 : Int).toNat else 0) z t))) c = some (.lst (ns.map V.int)) := by
          rw [upd_ne nbc.symm]
          exact hc2
        have k3 : Kc c H (upd H2 b (.dK (boxK c (if n0 - 10 ^ (18 : Int).toNat > 0 then n0 - 10 ^ (18 : Int).toNat else 0) z t))) := k2.dict ⟨_, hb⟩
        have r3 : 0 ≤ (if n0 - 10 ^ (18 : Int).toNat > 0 then n0 - 10 ^ (18 : Int).toNat else 0) := by split <;> omega
        generalize (if n0 - 10 ^ (18 : Int).toNat > 0 then n0 - 10 ^ (18 : Int).toNat else 0) = r1 at hb3 hc3 k3 r3
        generalize upd H2 b (.dK (boxK c r1 z t)) = H3 at hb3 hc3 k3
        refine ⟨_, rfl, b, _, rfl, bg_seed hb3, _, _, rfl, rfl, .inl ⟨by omega, by omega⟩, _, rfl, _, _, rfl, rfl, (by show (0 : Int) < 1000003; decide), _, _, rfl, rfl, .inr ⟨by decide, by decide⟩, _, _, rfl, rfl, _, _, rfl, rfl, _, _, rfl, rfl, (by show (0 : Int) < 2147483629; decide), _, rfl, b, _, rfl, bp_seed hb3, ?_⟩
        refine ⟨⟨_, rfl⟩, k3.dict ⟨_, hb⟩, ⟨ns, r1, _, t, upd_same, ?_, r3, Int.emod_nonneg _ (by decide), Int.emod_lt_of_pos _ (by decide), ?_⟩⟩
        · rw [upd_ne nbc.symm]
          exact hc3
        · rw [List.length_cons] at nl
          omega
    · rintro σ H1 ⟨⟨v2, rfl⟩, k1, B1⟩
      obtain ⟨ns, r, z, t, hb, hc, r0, z0, z1, nl⟩ := B1.ex
      have nbc := B1.ne
      refine ⟨_, rfl, b, _, rfl, bg_rest hb, _, _, rfl, rfl, _, rfl, ?_⟩
      refine ite2 (fun hr0 => ?_) (fun hr0 => ?_)
      · refine ⟨_, rfl, b, _, rfl, bg_rest hb, _, rfl, _, _, rfl, rfl, by omega, ?_⟩
        refine ⟨_, rfl, b, _, rfl, bg_rest hb, _, rfl, _, _, rfl, rfl, ⟨by omega, by omega⟩, _, rfl, b, _, rfl, bp_rest hb, ?_⟩
        refine ⟨_, rfl, ?_⟩
        have e1 : r.fmod m = r % m := Int.fmod_eq_emod_of_nonneg _ (by omega)
        have e2 : r.fdiv m = r / m := Int.fdiv_eq_ediv_of_nonneg _ (by omega)
        refine h _ _ (k1.dict B.dict) ⟨ns, _, z, t, upd_same, ?_, ?_, z0, z1, nl⟩ ?_ ?_
        · rw [upd_ne nbc.symm]
          exact hc
        · rw [e2]
          exact Int.ediv_nonneg r0 (by omega)
        · rw [e1]
          exact Int.emod_nonneg _ (by omega)
        · rw [e1]
          exact Int.emod_lt_of_pos _ (by omega)
      · refine ⟨_, rfl, b, _, rfl, bg_turn hb, _, _, rfl, rfl, _, rfl, b, _, rfl, bp_turn hb, ?_⟩
        have hb2 : (upd H1 b (.dK (boxK c r z (t + 1)))) b = _ := upd_same
        have hc2 : (upd H1 b (.dK (boxK c r z (t + 1)))) c = some (.lst (ns.map V.int)) := by
          rw [upd_ne nbc.symm]
          exact hc
        have k2 : Kc c H (upd H1 b (.dK (boxK c r z (t + 1)))) := k1.dict B.dict
        generalize upd H1 b (.dK (boxK c r z (t + 1))) = H2 at hb2 hc2 k2
        refine ⟨_, rfl, b, _, rfl, bg_seed hb2, _, _, rfl, rfl, .inl ⟨by omega, by omega⟩, _, rfl, b, _, rfl, bg_turn hb2, _, _, rfl, rfl, .inr ⟨by decide, by decide⟩, _, _, rfl, rfl, _, _, rfl, rfl, _, _, rfl, rfl, (by show (0 : Int) < 2147483629; decide), ?_⟩
        have y0 : 0 ≤ (z * 16807 + (t + 1) * 7919 + 3) % 2147483629 := Int.emod_nonneg _ (by decide)
        have y1 : (z * 16807 + (t + 1) * 7919 + 3) % 2147483629 < 2147483629 := Int.emod_lt_of_pos _ (by decide)
        refine ⟨_, rfl, _, rfl, _, _, rfl, rfl, .inl ⟨by omega, by omega⟩, _, rfl, _, _, rfl, rfl, .inl ⟨by decide, by decide⟩, _, _, rfl, rfl, _, _, rfl, rfl, _, _, rfl, rfl, (by show (0 : Int) < 2147483629; decide), _, rfl, b, _, rfl, bp_seed hb2, ?_⟩
        refine ⟨_, rfl, b, _, rfl, bg_seed upd_same, _, _, rfl, rfl, ⟨by decide, by decide⟩, _, rfl, b, _, rfl, bg_seed upd_same, _, _, rfl, rfl, (by show (0 : Int) < 127; decide), _, _, rfl, rfl, .inr ⟨by decide, by decide⟩, _, _, rfl, rfl, _, rfl, _, _, rfl, rfl, by omega, ?_⟩
        show Q (.int (Int.fmod _ m)) _
        rw [Int.fmod_eq_emod_of_nonneg _ (by omega)]
        refine h _ _ (k2.dict B.dict) ⟨ns, r, _, t + 1, upd_same, ?_, r0, Int.emod_nonneg _ (by decide), Int.emod_lt_of_pos _ (by decide), nl⟩ (Int.emod_nonneg _ (by omega)) (Int.emod_lt_of_pos _ (by omega))
        rw [upd_ne nbc.symm]
        exact hc2
end
end RL
/-! Comprehensions whose turns leave all that was there as it was. -/
namespace RL
open PySem PySem.Spec PyProof.Rows L2 RLM
/-- all tuples stay -/
def TK (H H' : Hp) : Prop := ∀ (a : Addr) (xs : List V), H a = some (.tup xs) → H' a = some (.tup xs)
theorem TK.refl (H : Hp) : TK H H := fun _ _ h => h
theorem TK.trans {H H1 H2 : Hp} (a : TK H H1) (b : TK H1 H2) : TK H H2 := fun x xs h => b x xs (a x xs h)
theorem tk_same {H H' : Hp} (s : Same H H') : TK H H' := fun a xs h => s _ _ h
theorem tk_lst {H : Hp} {D : Addr} {acc bcc : List V} (h : H D = some (.lst acc)) : TK H (upd H D (.lst bcc)) := fun a xs e => by
  rw [upd_ne (ne_of e h (by intro z; cases z))]
  exact e
theorem Kc.tk {c : Addr} {H H' : Hp} (k : Kc c H H') (hc : ∃ ys, H c = some (.lst ys)) : TK H H' := fun a xs h => k.tup hc h
section
variable {J : It} {n : Nat} {G : Hp → Prop} {Y : Nat → Hp → V → Hp → Prop} {g : TG} {tt : TT} {te : TE} {vs : List Nat} {σ : L2.St} {H : Hp} {D : Addr} {Qd : Hp → Prop}
/-- [e for x in ..]: what R says of each -/
theorem lc_rel (w : Walk J n G Y) (R : Nat → V → Hp → Prop) (hn : n ≤ 100000) (hD : H D = none) (tk : ∀ k v H1 H2, R k v H1 → TK H1 H2 → R k v H2) (hG : ∀ H1, Same H H1 → G H1)
    (hs : ∀ i x H1 H2 (Nx : V → Hp → Prop), i < n → Same H H1 → Y i H1 x H2 → (∀ y H4, R i y H4 → Same H1 H4 → Nx y H4) → g x (wipe σ vs) H2 fun σ2 H3 => wipe σ2 vs = wipe σ vs ∧ te σ2 H3 Nx)
    (hd : ∀ H1 ys, H1 D = some (.lst ys) → ys.length = n → (∀ k y, ys[k]? = some y → R k y H1) → Same H H1 → Qd H1) :
    ∃ W : Nat → Nat → Hp → Prop, (∃ m, W 0 m (upd H D (.lst []))) ∧ ∀ i m H, W i m H →
      (J.stop i H ∧ Qd H) ∨ (J.go i H ∧ ∃ Nx : Hp → Prop, (∀ H', Nx H' → ∃ m', m' < m ∧ W (i + 1) m' H') ∧ ∀ x H', J.yld i H x H' → g x (wipe σ vs) H' fun σ2 H2 => wipe σ2 vs = wipe σ vs ∧ tYes σ2 H2 fun b H3 =>
        if b = true then te σ2 H3 fun y H4 => ∃ acc, H4 D = some (.lst acc) ∧ acc.length < sizeLine ∧ Nx (upd H4 D (.lst (acc ++ [y]))) else Nx H3) := by
  refine lc_it w (fun i H1 => ∃ ys, H1 D = some (.lst ys) ∧ ys.length = i ∧ (∀ k y, ys[k]? = some y → R k y H1) ∧ Same H H1) ⟨[], upd_same, rfl, fun k y e => (by simp at e), same_upd hD⟩ (fun i H1 _ ⟨_, _, _, _, s1⟩ => hG H1 s1) ?_ (fun H1 ⟨ys, h1, h2, h3, h4⟩ => hd H1 ys h1 h2 h3 h4)
  rintro i x H1 H2 hi ⟨ys, h1, h2, h3, s1⟩ hY
  refine hs i x H1 H2 (fun y H4 => ∃ acc, H4 D = some (.lst acc) ∧ acc.length < sizeLine ∧ ∃ zs, (upd H4 D (.lst (acc ++ [y]))) D = some (.lst zs) ∧ zs.length = i + 1 ∧ (∀ k y', zs[k]? = some y' → R k y' (upd H4 D (.lst (acc ++ [y])))) ∧ Same H (upd H4 D (.lst (acc ++ [y])))) hi s1 hY fun y H4 r s4 => ?_
  have h4 := s4 _ _ h1
  refine ⟨ys, h4, ?_, ys ++ [y], upd_same, by simp [h2], fun k y' e => ?_, same_mut (s1.trans s4) hD⟩
  · rw [h2]
    exact Nat.lt_of_lt_of_le hi (Nat.le_trans hn (by decide))
  · by_cases hk : k < ys.length
    · rw [List.getElem?_append_left hk] at e
      exact tk _ _ _ _ (h3 k y' e) ((tk_same s4).trans (tk_lst h4))
    · rw [List.getElem?_append_right (by omega)] at e
      have ek : k = ys.length := by
        obtain ⟨z1, _⟩ := List.getElem?_eq_some_iff.mp e
        simp at z1
        omega
      rw [ek, Nat.sub_self] at e
      cases e
      rw [ek, h2]
      exact tk _ _ _ _ r (tk_lst h4)
/-- [f(x) for x in ..]: plain values -/
theorem lc_val (w : Walk J n G Y) (f : Nat → V) (hn : n ≤ 100000) (hD : H D = none) (hG : ∀ H1, Same H H1 → G H1)
    (hs : ∀ i x H1 H2 (Nx : V → Hp → Prop), i < n → Same H H1 → Y i H1 x H2 → (∀ H4, Same H1 H4 → Nx (f i) H4) → g x (wipe σ vs) H2 fun σ2 H3 => wipe σ2 vs = wipe σ vs ∧ te σ2 H3 Nx)
    (hd : ∀ H1, H1 D = some (.lst ((List.range n).map f)) → Same H H1 → Qd H1) :
    ∃ W : Nat → Nat → Hp → Prop, (∃ m, W 0 m (upd H D (.lst []))) ∧ ∀ i m H, W i m H →
      (J.stop i H ∧ Qd H) ∨ (J.go i H ∧ ∃ Nx : Hp → Prop, (∀ H', Nx H' → ∃ m', m' < m ∧ W (i + 1) m' H') ∧ ∀ x H', J.yld i H x H' → g x (wipe σ vs) H' fun σ2 H2 => wipe σ2 vs = wipe σ vs ∧ tYes σ2 H2 fun b H3 =>
        if b = true then te σ2 H3 fun y H4 => ∃ acc, H4 D = some (.lst acc) ∧ acc.length < sizeLine ∧ Nx (upd H4 D (.lst (acc ++ [y]))) else Nx H3) := by
  refine lc_rel w (fun k v _ => v = f k) hn hD (fun _ _ _ _ h _ => h) hG (fun i x H1 H2 Nx hi s1 hY h => hs i x H1 H2 Nx hi s1 hY fun H4 s4 => h _ _ rfl s4) fun H1 ys h1 h2 h3 s1 => hd H1 ?_ s1
  rw [h1]
  congr 2
  refine List.ext_getElem? fun k => ?_
  by_cases hk : k < n
  · have e : ys[k]? = some ys[k] := List.getElem?_eq_getElem (by omega)
    rw [e, h3 k _ e, List.getElem?_map, List.getElem?_range hk]
    rfl
  · rw [List.getElem?_eq_none (by omega), List.getElem?_eq_none (by simp; omega)]
/-- [b for b in .. if t(b)], the b numbers -/
theorem lc_filt (w : Walk J n G Y) (xs : List Nat) (t : Nat → Bool) (hx : n = xs.length) (hn : n ≤ 100000) (hD : H D = none) (hG : ∀ H1, Same H H1 → G H1)
    (hs : ∀ i b x H1 H2 (N1 : V → Hp → Prop) (N0 : Hp → Prop), xs[i]? = some b → Same H H1 → Y i H1 x H2 → (∀ H4, t b = true → Same H1 H4 → N1 (vI b) H4) → (∀ H4, t b = false → Same H1 H4 → N0 H4) →
      g x (wipe σ vs) H2 fun σ2 H3 => wipe σ2 vs = wipe σ vs ∧ tt σ2 H3 fun c H4 => if c = true then te σ2 H4 N1 else N0 H4)
    (hd : ∀ H1, H1 D = some (.lst ((xs.filter t).map vI)) → Same H H1 → Qd H1) :
    ∃ W : Nat → Nat → Hp → Prop, (∃ m, W 0 m (upd H D (.lst []))) ∧ ∀ i m H, W i m H →
      (J.stop i H ∧ Qd H) ∨ (J.go i H ∧ ∃ Nx : Hp → Prop, (∀ H', Nx H' → ∃ m', m' < m ∧ W (i + 1) m' H') ∧ ∀ x H', J.yld i H x H' → g x (wipe σ vs) H' fun σ2 H2 => wipe σ2 vs = wipe σ vs ∧ tt σ2 H2 fun b H3 =>
        if b = true then te σ2 H3 fun y H4 => ∃ acc, H4 D = some (.lst acc) ∧ acc.length < sizeLine ∧ Nx (upd H4 D (.lst (acc ++ [y]))) else Nx H3) := by
  refine lc_it w (fun i H1 => H1 D = some (.lst (((xs.take i).filter t).map vI)) ∧ Same H H1) ⟨upd_same, same_upd hD⟩ (fun i H1 _ ⟨_, s1⟩ => hG H1 s1) ?_ (fun H1 ⟨h1, h2⟩ => hd H1 (by rw [hx, List.take_length] at h1; exact h1) h2)
  rintro i x H1 H2 hi ⟨h1, s1⟩ hY
  have hb : xs[i]? = some (xs[i]'(by omega)) := List.getElem?_eq_getElem _
  generalize xs[i]'(by omega) = b at hb
  have et : xs.take (i + 1) = xs.take i ++ [b] := by
    rw [List.take_add_one, hb]
    rfl
  refine hs i b x H1 H2 _ _ hb s1 hY (fun H4 tb s4 => ⟨_, s4 _ _ h1, ?_, ?_, same_mut (s1.trans s4) hD⟩) (fun H4 tb s4 => ⟨?_, s1.trans s4⟩)
  · rw [List.length_map]
    refine Nat.lt_of_le_of_lt (List.length_filter_le _ _) (Nat.lt_of_le_of_lt (?_ : _ ≤ 100000) (by decide))
    rw [List.length_take]
    omega
  · rw [upd_same, et, List.filter_append, List.filter_cons, if_pos tb, List.map_append]
    rfl
  · rw [s4 _ _ h1, et, List.filter_append, List.filter_cons, if_neg (by rw [tb]; exact Bool.false_ne_true), List.filter_nil, List.append_nil]
end
/-- what stands in a list or a tuple of numbers -/
theorem get_vI {xs : List Nat} {i : Nat} {x : V} (h : (xs.map vI)[i]? = some x) : ∃ b, xs[i]? = some b ∧ x = vI b := by
  rw [List.getElem?_map] at h
  cases e : xs[i]? with
  | none => rw [e] at h; cases h
  | some b => rw [e] at h; exact ⟨b, rfl, (Option.some.inj h).symm⟩
theorem get_mapV {α : Type} {f : α → V} {xs : List α} {i : Nat} {x : V} (h : (xs.map f)[i]? = some x) : ∃ b, xs[i]? = some b ∧ x = f b := by
  rw [List.getElem?_map] at h
  cases e : xs[i]? with
  | none => rw [e] at h; cases h
  | some b => rw [e] at h; exact ⟨b, rfl, (Option.some.inj h).symm⟩
theorem range_vI (n : Nat) (f : Nat → Nat) : (List.range n).map (fun i => vI (f i)) = ((List.range n).map f).map vI := by rw [List.map_map]; rfl
theorem filter_lot {n : Nat} {p : Nat → Prop} {t : Nat → Bool} {xs : List Nat} (hs : xs.Pairwise (· < ·)) (hm : ∀ b, b ∈ xs ∧ t b = true ↔ b < n ∧ p b) : xs.filter t = lotP n p :=
  lotP_of (hs.filter _) fun b => by rw [List.mem_filter]; exact hm b
end RL
namespace RL
open PySem PySem.Spec PyProof.Rows L2 RLM
section
variable {P : Program} {w : World} {K : PySem.W.Frag} {mg : Str → Option Value} {base : Heap}
/-! ### from a menu -/
def spFrom : Sp := fun vs H Q _ => ∃ (b c l : Addr) (xs : List V), vs = [.ref b, .ref l] ∧ Box b c H ∧ H l = some (.lst xs) ∧ l ≠ c ∧ 1 ≤ xs.length ∧ xs.length ≤ 1000 ∧ ∀ H' x, Kc c H H' → Box b c H' → x ∈ xs → Q x H'
theorem sc__law_from : FnScope ["_law_box_here", "_law_menu"] ["_law_box_here", "_law_menu"] (defScope s__law_from) := ⟨rfl, rfl, rfl, by decide +kernel, rfl, by decide +kernel, by decide +kernel⟩
theorem ok_from (T : Tx K mg) : Has P w K mg base (He.ga K "_law_from") 2 ["_law_box_here", "_law_menu"] spFrom := by
  obtain ⟨⟨fd_law_pick, F_law_pick, b_law_pick⟩, kp_law_pick⟩ := ok_pick (P := P) (w := w) (base := base) T
  obtain ⟨fd, F⟩ := T.d__law_from
  refine ⟨⟨fd, F.ok sc__law_from (fun vs H Q E h => ?_) (fun cdv A outer s H vs Q E hr h => ?_), F.bindsN fun _ _ _ _ _ _ us hl => match us, hl with | [_, _], _ => rfl⟩, F.kp⟩
  · obtain ⟨b, c, l, xs, rfl, _⟩ := h
    rfl
  · obtain ⟨b, c, l, xs, rfl, B, hl, nc, l1, l2, h⟩ := h
    have hr_law_pick : Room 1 _ := hr.mono (by decide)
    refine ⟨_, PSs.nox (pss_one (ps_ret (pe_ix (ixS (K := K)) (pv 1) (pe_call F_law_pick hr_law_pick rfl T.glo_law_pick kp_law_pick b_law_pick .nil pass0 (pa_cons (pv 0) (pa_cons (pe_callB (lenK (K := K)) (by rfl) T.free_len (by decide +kernel) (pa_cons (pv 1) pa_nil)) pa_nil))) (fun _ _ => rfl)))), ?_⟩
    refine ⟨_, rfl, _, rfl, _, rfl, l, _, rfl, .inl (SqL.of hl), b, c, _, rfl, B, by omega, by omega, fun H1 i k1 B1 i0 i1 => ?_⟩
    have hl1 : H1 l = some (.lst xs) := k1 _ _ nc (fun _ z => by cases z) hl
    obtain ⟨j, rfl⟩ : ∃ j : Nat, i = (j : Nat) := ⟨i.toNat, by omega⟩
    have hj : j < xs.length := by omega
    refine .inl ⟨l, xs, _, xs[j], rfl, rfl, SqL.of hl1, atI_nat (by simp [hj]), h H1 _ k1 B1 (List.getElem_mem hj)⟩
/-! ### from a tuple -/
def spFromT : Sp := fun vs H Q _ => ∃ (b c l : Addr) (xs : List V), vs = [.ref b, .ref l] ∧ Box b c H ∧ H l = some (.tup xs) ∧ 1 ≤ xs.length ∧ xs.length ≤ 1000 ∧ ∀ H' x, Kc c H H' → Box b c H' → x ∈ xs → Q x H'
theorem ok_fromT (T : Tx K mg) : Has P w K mg base (He.ga K "_law_from") 2 ["_law_box_here", "_law_menu"] spFromT := by
  obtain ⟨⟨fd_law_pick, F_law_pick, b_law_pick⟩, kp_law_pick⟩ := ok_pick (P := P) (w := w) (base := base) T
  obtain ⟨fd, F⟩ := T.d__law_from
  refine ⟨⟨fd, F.ok sc__law_from (fun vs H Q E h => ?_) (fun cdv A outer s H vs Q E hr h => ?_), F.bindsN fun _ _ _ _ _ _ us hl => match us, hl with | [_, _], _ => rfl⟩, F.kp⟩
  · obtain ⟨b, c, l, xs, rfl, _⟩ := h
    rfl
  · obtain ⟨b, c, l, xs, rfl, B, hl, l1, l2, h⟩ := h
    have hr_law_pick : Room 1 _ := hr.mono (by decide)
    refine ⟨_, PSs.nox (pss_one (ps_ret (pe_ix (ixS (K := K)) (pv 1) (pe_call F_law_pick hr_law_pick rfl T.glo_law_pick kp_law_pick b_law_pick .nil pass0 (pa_cons (pv 0) (pa_cons (pe_callB (lenK (K := K)) (by rfl) T.free_len (by decide +kernel) (pa_cons (pv 1) pa_nil)) pa_nil))) (fun _ _ => rfl)))), ?_⟩
    refine ⟨_, rfl, _, rfl, _, rfl, l, _, rfl, (.inr (SqT.of hl)), b, c, _, rfl, B, by omega, by omega, fun H1 i k1 B1 i0 i1 => ?_⟩
    have hl1 : H1 l = some (.tup xs) := k1.tup B.lst hl
    obtain ⟨j, rfl⟩ : ∃ j : Nat, i = (j : Nat) := ⟨i.toNat, by omega⟩
    have hj : j < xs.length := by omega
    refine .inr (.inl ⟨l, xs, _, xs[j], rfl, rfl, SqT.of hl1, atI_nat (by simp [hj]), h H1 _ k1 B1 (List.getElem_mem hj)⟩)
/-! ### mixed -/
def spMixed : Sp := fun vs H Q _ => ∃ (b c l : Addr) (xs : List V), vs = [.ref b, .ref l] ∧ Box b c H ∧ H l = some (.lst xs) ∧ l ≠ c ∧ xs.length ≤ 1000 ∧ ∀ H' p ys, ys.Perm xs → H' p = some (.lst ys) → p ≠ c → Kc c H H' → Box b c H' → Q (.ref p) H'
theorem perm_ins {α : Type} (ys : List α) (j : Nat) (y : α) : (ys.take j ++ [y] ++ ys.drop j).Perm (ys ++ [y]) := by
  have e : ys ++ [y] = ys.take j ++ (ys.drop j ++ [y]) := by rw [← List.append_assoc, List.take_append_drop]
  rw [e, List.append_assoc]
  exact (List.perm_append_comm).append_left _
theorem sc__law_mixed : FnScope ["_law_box_here", "_law_things", "_law_found", "_law_thing"] ["_law_box_here", "_law_things"] (defScope s__law_mixed) := ⟨rfl, rfl, rfl, by decide +kernel, rfl, by decide +kernel, by decide +kernel⟩
theorem ok_mixed (T : Tx K mg) : Has P w K mg base (He.ga K "_law_mixed") 2 ["_law_box_here", "_law_things"] spMixed := by
  obtain ⟨⟨fd_law_pick, F_law_pick, b_law_pick⟩, kp_law_pick⟩ := ok_pick (P := P) (w := w) (base := base) T
  obtain ⟨fd, F⟩ := T.d__law_mixed
  refine ⟨⟨fd, F.ok sc__law_mixed (fun vs H Q E h => ?_) (fun cdv A outer s H vs Q E hr h => ?_), F.bindsN fun _ _ _ _ _ _ us hl => match us, hl with | [_, _], _ => rfl⟩, F.kp⟩
  · obtain ⟨b, c, l, xs, rfl, _⟩ := h
    rfl
  · obtain ⟨b, c, l, xs, rfl, B, hl, nc, l2, h⟩ := h
    have hr_law_pick : Room 1 _ := hr.mono (by decide)
    refine ⟨_, PSs.nox (pss_cons (ps_set (i := 2) sc__law_mixed.nd rfl (Or.inl rfl) (pe_lst pa_nil))
      (pss_cons (ps_for PassesOwn.never rfl (piL (K := K) (pv 1)) (pg_name (i := 3) sc__law_mixed.nd rfl (Or.inl rfl)) (pss_one (ps_expr (bmK (K := K) PySem.F.plainAttrs_list PySem.F.slot_list_insert PySem.F.type_list_insert mt_insert (pv 2) (pa_cons (pe_call F_law_pick hr_law_pick rfl T.glo_law_pick kp_law_pick b_law_pick .nil pass0 (pa_cons (pv 0) (pa_cons (pe_op op_add (pe_callB (lenK (K := K)) (by rfl) T.free_len (by decide +kernel) (pa_cons (pv 2) pa_nil)) pe_int) pa_nil))) (pa_cons (pv 3) pa_nil))))))
      (pss_one (ps_ret (pv 2))))), ?_⟩
    refine ⟨Nat.zero_le _, fun p hp => ?_⟩
    have s0 : Same H (upd H p (.lst [])) := same_upd hp
    have hpc : p ≠ c := fun z => by
      obtain ⟨ys, hc⟩ := B.lst
      rw [z, hc] at hp
      cases hp
    refine ⟨_, rfl, l, rfl, ⟨_, SqL.of (s0 _ _ hl)⟩, for_list (K := K) (a := l) (xs := xs) (fun i σ H1 => ∃ (ys : List V) (v : Option V), σ = [some (.ref b), some (.ref l), some (.ref p), v] ∧ ys.Perm (xs.take i) ∧ H1 p = some (.lst ys) ∧ Kc c H H1 ∧ Box b c H1)
      ⟨[], none, rfl, by simp, upd_same, kc_same s0, B.same s0⟩ (fun i σ H1 _ ⟨_, _, _, _, _, k1, _⟩ => SqL.of (k1 _ _ nc (fun _ z => by cases z) hl)) ?_ ?_⟩
    · rintro i y σ H1 hi ⟨ys, v, rfl, pm, h1, k1, B1⟩
      have li : i < xs.length := (List.getElem?_eq_some_iff.mp hi).1
      have ly : ys.length = i := by
        rw [pm.length_eq, List.length_take]
        omega
      refine ⟨_, rfl, .inl ⟨rfl, _, SqL.of h1⟩, _, rfl, _, rfl, p, _, rfl, .inl (SqL.of h1), _, _, rfl, rfl, b, c, _, rfl, B1, by omega, by omega, fun H2 j k2 B2 j0 j1 => ?_⟩
      have h2 : H2 p = some (.lst ys) := k2 _ _ hpc (fun _ z => by cases z) h1
      refine ⟨_, rfl, p, ys, j, y, rfl, rfl, h2, Nat.lt_of_le_of_lt (show ys.length ≤ 1000 by omega) (by decide), j0, by omega, ?_⟩
      refine ⟨_, _, rfl, ?_, upd_same, (k1.trans k2).upd hp, ?_⟩
      · have e : xs.take (i + 1) = xs.take i ++ [y] := by
          rw [List.take_add_one, hi]
          rfl
        rw [e]
        exact (perm_ins ys j.toNat y).trans (pm.append_right _)
      · obtain ⟨ns, r, z, t, g1, g2, g3⟩ := B2.ex
        refine ⟨ns, r, z, t, ?_, ?_, g3⟩
        · rw [upd_ne (ne_of g1 h2 (by intro z; cases z))]
          exact g1
        · rw [upd_ne hpc.symm]
          exact g2
    · rintro σ H1 ⟨ys, v, rfl, pm, h1, k1, B1⟩
      rw [List.take_length] at pm
      exact ⟨_, rfl, h H1 p ys pm h1 hpc k1 B1⟩
end
end RL
namespace RL
open PySem PySem.Spec PyProof.Rows L2 RLM
theorem Box.upd {b c p : Addr} {H : Hp} {o : HO} (h : Box b c H) (hp : p ≠ c) (hb : p ≠ b) : Box b c (L2.upd H p o) := by
  obtain ⟨ns, r, s, t, h1, h2, h3⟩ := h.ex
  exact ⟨ns, r, s, t, by rw [upd_ne hb.symm]; exact h1, by rw [upd_ne hp.symm]; exact h2, h3⟩
theorem Box.new {b c p : Addr} {H : Hp} (h : Box b c H) (hp : H p = none) : p ≠ c ∧ p ≠ b := by
  obtain ⟨ns, r, s, t, h1, h2, h3⟩ := h.ex
  exact ⟨(ne_of_none h2 hp).symm, (ne_of_none h1 hp).symm⟩
/-- the ways of a list -/
def WaysOk (n : Nat) (L : List (Addr × Nat × Nat)) : Prop := (L.map (·.2)).Nodup ∧ (∀ q ∈ L, q.2.1 < n ∧ q.2.2 < n ∧ q.2.1 ≠ q.2.2) ∧ L.length ≤ 64
theorem WaysOk.sub {n : Nat} {L M : List (Addr × Nat × Nat)} (h : WaysOk n L) (s : M.Sublist L) : WaysOk n M :=
  ⟨(s.map _).nodup h.1, fun q hq => h.2.1 q (s.subset hq), Nat.le_trans s.length_le h.2.2⟩
theorem perm_map {α β : Type} {f : α → β} : ∀ {xs : List α} {ys : List β}, ys.Perm (xs.map f) → ∃ zs : List α, ys = zs.map f ∧ zs.Perm xs
  | [], ys, h => ⟨[], by rw [List.Perm.eq_nil h]; rfl, List.Perm.refl _⟩
  | x :: xs, ys, h => by
    have hm : f x ∈ ys := h.mem_iff.mpr (by simp)
    obtain ⟨y1, y2, rfl⟩ := List.append_of_mem hm
    have h2 : (y1 ++ y2).Perm (xs.map f) := by
      have := List.perm_middle.symm.trans h
      exact this.cons_inv
    obtain ⟨zs, e, p⟩ := perm_map h2
    obtain ⟨z1, z2, rfl, e1, e2⟩ := List.map_eq_append_iff.mp e.symm
    refine ⟨z1 ++ x :: z2, ?_, List.perm_middle.trans (p.cons x)⟩
    rw [List.map_append, List.map_cons, e1, e2]
/-- [way for way in ways if ..], whatever the test says -/
theorem filt {K : PySem.W.Frag} {b c l D : Addr} {k : Nat} {H : Hp} {σ : L2.St} {vs : List Nat} {tt : TT} {L : List (Addr × Nat × Nat)} {Qd : Hp → Prop} (PL : PairsAt c H l L) (B : Box b c H) (len : L.length ≤ 64) (hD : H D = none)
    (hw : ∀ x : V, wipe ((wipe σ vs).set k (some x)) vs = wipe σ vs) (hk : ∀ x : V, ((wipe σ vs).set k (some x))[k]? = some (some x))
    (htt : ∀ q ∈ L, ∀ H1, Kc c H H1 → Box b c H1 → ∀ R : Bool → Hp → Prop, (∀ t H2, Kc c H1 H2 → Box b c H2 → R t H2) → tt ((wipe σ vs).set k (some (.ref q.1))) H1 R)
    (hd : ∀ H1 M, M.Sublist L → PairsAt c H1 D M → Kc c H H1 → Box b c H1 → Qd H1) :
    ∃ W : Nat → Nat → Hp → Prop, (∃ m, W 0 m (upd H D (.lst []))) ∧ ∀ i m H, W i m H →
      ((Itl K l).stop i H ∧ Qd H) ∨ ((Itl K l).go i H ∧ ∃ Nx : Hp → Prop, (∀ H', Nx H' → ∃ m', m' < m ∧ W (i + 1) m' H') ∧ ∀ x H', (Itl K l).yld i H x H' → gName k x (wipe σ vs) H' fun σ2 H2 => wipe σ2 vs = wipe σ vs ∧ tt σ2 H2 fun b H3 =>
        if b = true then tVar k σ2 H3 fun y H4 => ∃ acc, H4 D = some (.lst acc) ∧ acc.length < sizeLine ∧ Nx (upd H4 D (.lst (acc ++ [y]))) else Nx H3) := by
  have Dc := (B.new hD).1
  have Db := (B.new hD).2
  have s0 : Same H (upd H D (.lst [])) := same_upd hD
  refine lc_list (K := K) (a := l) (xs := L.map fun q => V.ref q.1) (fun i H1 => ∃ M : List (Addr × Nat × Nat), M.Sublist (L.take i) ∧ H1 D = some (.lst (M.map fun q => V.ref q.1)) ∧ Kc c H H1 ∧ Box b c H1)
    ⟨[], by simp, upd_same, kc_same s0, B.same s0⟩ (fun i H1 _ ⟨_, _, _, k1, _⟩ => SqL.of (k1 _ _ PL.ne (fun _ z => by cases z) PL.at_)) ?_ ?_
  · rintro i x H1 hx ⟨M, sM, hM, k1, B1⟩
    rw [List.getElem?_map] at hx
    obtain ⟨q, hq, rfl⟩ : ∃ q, L[i]? = some q ∧ V.ref q.1 = x := by
      cases e : L[i]? with
      | none => rw [e] at hx; cases hx
      | some q => rw [e] at hx; exact ⟨q, rfl, Option.some.inj hx⟩
    have et : L.take (i + 1) = L.take i ++ [q] := by
      rw [List.take_add_one, hq]
      rfl
    refine ⟨hw _, htt q (List.mem_of_getElem? hq) H1 k1 B1 _ fun t H2 k2 B2 => ?_⟩
    have hM2 : H2 D = some (.lst (M.map fun q => V.ref q.1)) := k2 _ _ Dc (fun _ z => by cases z) hM
    have lM : M.length ≤ 64 := Nat.le_trans sM.length_le (by rw [List.length_take]; omega)
    cases t with
    | false =>
      refine iteF ⟨M, ?_, hM2, k1.trans k2, B2⟩
      rw [et]
      exact sM.trans (List.sublist_append_left _ _)
    | true =>
      refine iteT ⟨_, hk _, _, hM2, ?_, M ++ [q], ?_, ?_, (k1.trans k2).upd hD, B2.upd Dc Db⟩
      · rw [List.length_map]
        exact Nat.lt_of_le_of_lt lM (by decide)
      · rw [et]
        exact sM.append (List.Sublist.refl _)
      · rw [upd_same, List.map_append]
        rfl
  · rintro H1 ⟨M, sM, hM, k1, B1⟩
    rw [List.length_map, List.take_length] at sM
    exact hd H1 M sM ⟨hM, Dc, fun q hq => k1.tup B.lst (PL.tup q (sM.subset hq))⟩ k1 B1
section
variable {P : Program} {w : World} {K : PySem.W.Frag} {mg : Str → Option Value} {base : Heap}
def spWays : Sp := fun vs H Q _ => ∃ (b c : Addr) (n : Nat), vs = [.ref b, vI n] ∧ Box b c H ∧ 1 ≤ n ∧ n ≤ 8 ∧ ∀ H' l L, PairsAt c H' l L → WaysOk n L → Kc c H H' → Box b c H' → Q (.ref l) H'
theorem sc__law_ways : FnScope ["_law_box_here", "_law_many", "_law_every", "_law_one", "_law_sort", "_law_thick", "_law_other", "_law_way"] ["_law_box_here", "_law_many"] (defScope s__law_ways) := ⟨rfl, rfl, rfl, by decide +kernel, rfl, by decide +kernel, by decide +kernel⟩
theorem ok_ways (T : Tx K mg) : Has P w K mg base (He.ga K "_law_ways") 3 ["_law_box_here", "_law_many"] spWays := by
  obtain ⟨⟨fd_law_pick, F_law_pick, b_law_pick⟩, kp_law_pick⟩ := ok_pick (P := P) (w := w) (base := base) T
  obtain ⟨⟨fd_law_mixed, F_law_mixed, b_law_mixed⟩, kp_law_mixed⟩ := ok_mixed (P := P) (w := w) (base := base) T
  obtain ⟨fd, F⟩ := T.d__law_ways
  refine ⟨⟨fd, F.ok sc__law_ways (fun vs H Q E h => ?_) (fun cdv A outer s H vs Q E hr h => ?_), F.bindsN fun _ _ _ _ _ _ us hl => match us, hl with | [_, _], _ => rfl⟩, F.kp⟩
  · obtain ⟨b, c, n, rfl, _⟩ := h
    rfl
  · obtain ⟨b, c, n, rfl, B, n1, n8, h⟩ := h
    have hr_law_pick : Room 1 _ := hr.mono (by decide)
    have hr_law_mixed : Room 2 _ := hr.mono (by decide)
    refine ⟨_, PSs.nox (pss_cons (ps_set (i := 2) sc__law_ways.nd rfl (Or.inl rfl) (pe_lst pa_nil))
      (pss_cons (ps_for PassesOwn.never rfl (pi_range1 (by rfl) T.free_range (pa_cons (pv 1) pa_nil)) (pg_name (i := 3) sc__law_ways.nd rfl (Or.inr rfl)) (pss_one (ps_set (i := 2) sc__law_ways.nd rfl (Or.inl rfl) (pe_op op_cat (pv 2) (pe_lc (own := [("_law_other", 6)]) (g := (gName 6)) rfl sc__law_ways.nd (pi_range1 (by rfl) T.free_range (pa_cons (pv 1) pa_nil)) (blkOk_by (by kernel_rfl)) (fun _ _ _ _ _ => (pg_name (i := 6) sc__law_ways.nd rfl (Or.inl rfl))) (fun _ _ _ _ _ => (pts_one (pt_cmpR op_ne (pv 6) (pv 3) (nomark _)))) (fun _ _ _ _ _ => (pe_tup (pa_cons (pv 3) (pa_cons (pv 6) pa_nil)))))))))
      (pss_cons (ps_asg (pe_tup (pa_cons (pe_call F_law_pick hr_law_pick rfl T.glo_law_pick kp_law_pick b_law_pick .nil pass0 (pa_cons (pv 0) (pa_cons pe_int pa_nil))) (pa_cons (pe_op op_add pe_int (pe_call F_law_pick hr_law_pick rfl T.glo_law_pick kp_law_pick b_law_pick .nil pass0 (pa_cons (pv 0) (pa_cons pe_int pa_nil)))) pa_nil))) (pgT (K := K) (n := 2) rfl (pgs_cons (pg_name (i := 4) sc__law_ways.nd rfl (Or.inl rfl)) (pgs_cons (pg_name (i := 5) sc__law_ways.nd rfl (Or.inr rfl)) pgs_nil))))
      (pss_cons (ps_if (pt_cmpR op_eq (pv 4) pe_int (nomark _)) (pss_one (ps_ret (pe_lc (own := [("_law_way", 7)]) (g := (gName 7)) rfl sc__law_ways.nd (piL (K := K) (pv 2)) (blkOk_by (by kernel_rfl)) (fun _ _ _ _ _ => (pg_name (i := 7) sc__law_ways.nd rfl (Or.inl rfl))) (fun _ _ _ _ _ => (pts_one (pt_cmpR op_eq (pe_ix (ixT (K := K)) (pv 7) pe_int (fun _ _ => rfl)) (pe_op op_add (pe_ix (ixT (K := K)) (pv 7) pe_int (fun _ _ => rfl)) pe_int) (nomark _)))) (fun _ _ _ _ _ => (pv 7))))) pss_nil)
      (pss_cons (ps_if (pt_cmpR op_eq (pv 4) pe_int (nomark _)) (pss_one (ps_ret (pe_lc (own := [("_law_way", 7)]) (g := (gName 7)) rfl sc__law_ways.nd (piL (K := K) (pv 2)) (blkOk_by (by kernel_rfl)) (fun _ _ _ _ _ => (pg_name (i := 7) sc__law_ways.nd rfl (Or.inl rfl))) (fun _ _ _ _ _ => (pts_one (pt_cmpR op_eq (pe_callB call_abs (by rfl) T.free_abs (by decide +kernel) (pa_cons (pe_op op_sub (pe_ix (ixT (K := K)) (pv 7) pe_int (fun _ _ => rfl)) (pe_ix (ixT (K := K)) (pv 7) pe_int (fun _ _ => rfl))) pa_nil)) pe_int (nomark _)))) (fun _ _ _ _ _ => (pv 7))))) pss_nil)
      (pss_cons (ps_if (pt_cmpR op_eq (pv 4) pe_int (nomark _)) (pss_one (ps_ret (pe_lc (own := [("_law_way", 7)]) (g := (gName 7)) rfl sc__law_ways.nd (piL (K := K) (pv 2)) (blkOk_by (by kernel_rfl)) (fun _ _ _ _ _ => (pg_name (i := 7) sc__law_ways.nd rfl (Or.inl rfl))) (fun _ _ _ _ _ => (pts_one (pt_cmpR op_eq (pe_ix (ixT (K := K)) (pv 7) pe_int (fun _ _ => rfl)) (pe_op op_modN (pe_op op_add (pe_ix (ixT (K := K)) (pv 7) pe_int (fun _ _ => rfl)) pe_int) (pv 1)) (nomark _)))) (fun _ _ _ _ _ => (pv 7))))) pss_nil)
      (pss_cons (ps_if (pt_cmpR op_eq (pv 4) pe_int (nomark _)) (pss_one (ps_ret (pe_lc (own := [("_law_way", 7)]) (g := (gName 7)) rfl sc__law_ways.nd (piL (K := K) (pv 2)) (blkOk_by (by kernel_rfl)) (fun _ _ _ _ _ => (pg_name (i := 7) sc__law_ways.nd rfl (Or.inl rfl))) (fun _ _ _ _ _ => (pts_one (pt_cmpR (inSq (K := K)) pe_int (pv 7) (by rfl)))) (fun _ _ _ _ _ => (pv 7))))) pss_nil)
      (pss_cons (ps_if (pt_cmpR op_eq (pv 4) pe_int (nomark _)) (pss_one (ps_ret (pv 2))) pss_nil)
      (pss_one (ps_ret (pe_call F_law_mixed hr_law_mixed rfl T.glo_law_mixed kp_law_mixed b_law_mixed .nil pass0 (pa_cons (pv 0) (pa_cons (pe_lc (own := [("_law_way", 7)]) (g := (gName 7)) rfl sc__law_ways.nd (piL (K := K) (pv 2)) (blkOk_by (by kernel_rfl)) (fun _ _ _ _ _ => (pg_name (i := 7) sc__law_ways.nd rfl (Or.inl rfl))) (fun _ _ _ _ _ => (pts_one (pt_cmpR op_lt (pe_call F_law_pick hr_law_pick rfl T.glo_law_pick kp_law_pick b_law_pick .nil pass0 (pa_cons (pv 0) (pa_cons pe_int pa_nil))) (pv 5) (nomark _)))) (fun _ _ _ _ _ => (pv 7))) pa_nil))))))))))))), ?_⟩
    refine ⟨Nat.zero_le _, fun l0 hl0 => ?_⟩
    have s0 : Same H (upd H l0 (.lst [])) := same_upd hl0
    refine ⟨_, rfl, (n : Int), rfl, by omega, by omega, for_range (lo := 0) (n := ((n : Nat) : Int).toNat) (fun i σ H1 => ∃ (l : Addr) (L : List (Addr × Nat × Nat)) (v : Option V), σ = [some (.ref b), some (vI n), some (.ref l), v, none, none, none, none] ∧ PairsAt c H1 l L ∧ (L.map (·.2)).Nodup ∧ (∀ q ∈ L, q.2.1 < i ∧ q.2.2 < n ∧ q.2.1 ≠ q.2.2) ∧ L.length ≤ i * n ∧ Same H H1)
      ⟨l0, [], none, rfl, ⟨upd_same, (B.new hl0).1, fun q hq => (by cases hq)⟩, by simp, fun q hq => (by cases hq), Nat.zero_le _, s0⟩ ?_ ?_⟩
    · rintro i σ H1 hi ⟨l, L, v, rfl, PL, nd, on, len, s1⟩
      have hin : i < n := by omega
      have lenL : L.length ≤ 56 := by
        have : i * n ≤ 7 * 8 := Nat.mul_le_mul (by omega) n8
        omega
      refine ⟨_, rfl, _, rfl, (n : Int), rfl, by omega, by omega, fun D hD => ?_⟩
      refine lc_range (lo := 0) (n := ((n : Nat) : Int).toNat) (fun j H2 => ∃ M : List (Addr × Nat × Nat), H2 D = some (.lst (M.map fun q => V.ref q.1)) ∧ (∀ q ∈ M, H2 q.1 = some (.tup [vI q.2.1, vI q.2.2])) ∧ (M.map (·.2)).Nodup ∧ (∀ q ∈ M, q.2.1 = i ∧ q.2.2 < j ∧ q.2.2 ≠ i) ∧ M.length ≤ j ∧ Same H1 H2)
        ⟨[], upd_same, fun q hq => (by cases hq), by simp, fun q hq => (by cases hq), Nat.zero_le _, same_upd hD⟩ ?_ ?_
      · rintro j H2 hj ⟨M, hM, tM, ndM, onM, lM, s2⟩
        refine ⟨rfl, _, rfl, _, rfl, rfl, _, rfl, ?_⟩
        have zi : (0 : Int) + (i : Int) = (i : Nat) := Int.zero_add _
        have zj : (0 : Int) + (j : Int) = (j : Nat) := Int.zero_add _
        by_cases e : j = i
        · have ed : (!decide (V.int (0 + (j : Int)) = V.int (0 + (i : Int)))) = false := by simp [e]
          rw [ed]
          exact iteF ⟨M, hM, tM, ndM, fun q hq => ⟨(onM q hq).1, by have := (onM q hq).2.1; omega, (onM q hq).2.2⟩, by omega, s2⟩
        · have ed : (!decide (V.int (0 + (j : Int)) = V.int (0 + (i : Int)))) = true := by
            have : ¬ ((j : Int) = (i : Int)) := by omega
            simp [zi, zj, this]
          rw [ed]
          refine iteT ⟨_, rfl, _, rfl, (by show 2 ≤ sizeLine; decide), fun t ht => ?_⟩
          have s3 := same_upd (o := HO.tup [V.int (0 + (i : Int)), V.int (0 + (j : Int))]) ht
          have tD : t ≠ D := fun z => by
            rw [z, hM] at ht
            cases ht
          refine ⟨_, s3 _ _ hM, ?_, M ++ [(t, i, j)], ?_, fun q hq => ?_, ?_, fun q hq => ?_, ?_, same_mut (s2.trans s3) hD⟩
          · rw [List.length_map]
            exact Nat.lt_of_le_of_lt (show M.length ≤ 8 by omega) (by decide)
          · rw [upd_same, List.map_append]
            rfl
          · rcases List.mem_append.mp hq with hq | hq
            · have g := s3 _ _ (tM q hq)
              rw [upd_ne (ne_of g (s3 _ _ hM) (by intro z; cases z))]
              exact g
            · rw [List.mem_singleton.mp hq, upd_ne tD, upd_same, zi, zj]
              rfl
          · rw [List.map_append, List.nodup_append]
            refine ⟨ndM, by simp, ?_⟩
            intro x hx y hy z
            obtain ⟨q, hq, rfl⟩ := List.mem_map.mp hx
            have ey : y = (i, j) := by simpa using hy
            have := (onM q hq).2.1
            rw [z, ey] at this
            exact absurd this (Nat.lt_irrefl _)
          · rcases List.mem_append.mp hq with hq | hq
            · exact ⟨(onM q hq).1, by have := (onM q hq).2.1; omega, (onM q hq).2.2⟩
            · rw [List.mem_singleton.mp hq]
              exact ⟨rfl, Nat.lt_succ_self _, e⟩
          · rw [List.length_append]
            simp
            omega
      · rintro H2 ⟨M, hM, tM, ndM, onM, lM, s2⟩
        have PL2 := PL.same s2
        have lM8 : M.length ≤ n := by omega
        refine ⟨l, D, _, _, rfl, rfl, PL2.at_, hM, ?_, fun p hp => ?_⟩
        · rw [List.length_map, List.length_map]
          exact Nat.le_trans (show L.length + M.length ≤ 64 by omega) (by decide)
        · have s3 := same_upd (o := HO.lst (L.map (fun q => V.ref q.1) ++ M.map fun q => V.ref q.1)) hp
          have s4 := (s1.trans s2).trans s3
          refine ⟨p, L ++ M, _, rfl, ⟨?_, ((B.same (s1.trans s2)).new hp).1, fun q hq => ?_⟩, ?_, fun q hq => ?_, ?_, s4⟩
          · rw [upd_same, List.map_append]
          · rcases List.mem_append.mp hq with hq | hq
            · exact s3 _ _ (PL2.tup q hq)
            · exact s3 _ _ (tM q hq)
          · rw [List.map_append, List.nodup_append]
            refine ⟨nd, ndM, ?_⟩
            intro x hx y hy z
            obtain ⟨q, hq, rfl⟩ := List.mem_map.mp hx
            obtain ⟨r, hr', rfl⟩ := List.mem_map.mp hy
            have a1 := (on q hq).1
            have a2 := (onM r hr').1
            rw [z, a2] at a1
            exact absurd a1 (Nat.lt_irrefl _)
          · rcases List.mem_append.mp hq with hq | hq
            · exact ⟨by have := (on q hq).1; omega, (on q hq).2⟩
            · have := onM q hq
              exact ⟨by omega, by omega, by omega⟩
          · rw [List.length_append, Nat.succ_mul]
            omega
    · rintro σ H1 ⟨l, L, v, rfl, PL, nd, on, len, s1⟩
      have W : WaysOk n L := by
        refine ⟨nd, fun q hq => ?_, ?_⟩
        · have := on q hq
          exact ⟨by omega, this.2⟩
        · have : ((n : Nat) : Int).toNat * n ≤ 8 * 8 := Nat.mul_le_mul (by omega) n8
          omega
      have B1 := B.same s1
      refine ⟨_, rfl, b, c, _, rfl, B1, by decide, by decide, fun H2 i k2 B2 i0 i1 => ?_⟩
      refine ⟨_, rfl, b, c, _, rfl, B2, by decide, by decide, fun H3 j k3 B3 j0 j1 => ?_⟩
      refine ⟨_, _, rfl, rfl, (by show 2 ≤ sizeLine; decide), fun t ht => ?_⟩
      have s4 := same_upd (o := HO.tup [V.int i, V.int (1 + j)]) ht
      have k4 : Kc c H (upd H3 t (.tup [.int i, .int (1 + j)])) := ((kc_same s1).trans (k2.trans k3)).trans (kc_same s4)
      have PL4 := (PL.keep (k2.trans k3) B1.lst).same s4
      have B4 := B3.same s4
      refine ⟨t, _, rfl, SqT.of upd_same, rfl, _, _, rfl, _, _, rfl, rfl, ?_⟩
      generalize upd H3 t (.tup [.int i, .int (1 + j)]) = H4 at k4 PL4 B4
      have fin : ∀ D H5 M, M.Sublist L → PairsAt c H5 D M → Kc c H4 H5 → Box b c H5 → Q (.ref D) H5 := fun D H5 M sM pM k5 B5 => h H5 D M pM (W.sub sM) (k4.trans k5) B5
      have it : ∀ q ∈ L, ∀ H5, Kc c H4 H5 → H5 q.1 = some (.tup [vI q.2.1, vI q.2.2]) := fun q hq H5 k5 => k5.tup B4.lst (PL4.tup q hq)
      refine ⟨_, rfl, rfl, _, rfl, ?_⟩
      refine ite2 (fun _ => ?_) (fun _ => ?_)
      · refine ⟨_, rfl, l, rfl, ⟨_, SqL.of PL4.at_⟩, fun D hD => filt PL4 B4 W.2.2 hD (fun x => rfl) (fun x => rfl) (fun q hq H5 k5 B5 R hR => ?_) (fin D)⟩
        exact ⟨_, rfl, q.1, _, 1, _, rfl, rfl, SqT.of (it q hq H5 k5), rfl, _, rfl, q.1, _, 0, _, rfl, rfl, SqT.of (it q hq H5 k5), rfl, _, _, rfl, rfl, rfl, _, rfl, hR _ _ (Kc.refl c H5) B5⟩
      refine ⟨_, rfl, rfl, _, rfl, ?_⟩
      refine ite2 (fun _ => ?_) (fun _ => ?_)
      · refine ⟨_, rfl, l, rfl, ⟨_, SqL.of PL4.at_⟩, fun D hD => filt PL4 B4 W.2.2 hD (fun x => rfl) (fun x => rfl) (fun q hq H5 k5 B5 R hR => ?_) (fin D)⟩
        exact ⟨_, rfl, q.1, _, 1, _, rfl, rfl, SqT.of (it q hq H5 k5), rfl, _, rfl, q.1, _, 0, _, rfl, rfl, SqT.of (it q hq H5 k5), rfl, _, _, rfl, rfl, _, rfl, rfl, _, rfl, hR _ _ (Kc.refl c H5) B5⟩
      refine ⟨_, rfl, rfl, _, rfl, ?_⟩
      refine ite2 (fun _ => ?_) (fun _ => ?_)
      · refine ⟨_, rfl, l, rfl, ⟨_, SqL.of PL4.at_⟩, fun D hD => filt PL4 B4 W.2.2 hD (fun x => rfl) (fun x => rfl) (fun q hq H5 k5 B5 R hR => ?_) (fin D)⟩
        exact ⟨_, rfl, q.1, _, 1, _, rfl, rfl, SqT.of (it q hq H5 k5), rfl, _, rfl, q.1, _, 0, _, rfl, rfl, SqT.of (it q hq H5 k5), rfl, _, _, rfl, rfl, _, rfl, _, _, rfl, rfl, by omega, rfl, _, rfl, hR _ _ (Kc.refl c H5) B5⟩
      refine ⟨_, rfl, rfl, _, rfl, ?_⟩
      refine ite2 (fun _ => ?_) (fun _ => ?_)
      · refine ⟨_, rfl, l, rfl, ⟨_, SqL.of PL4.at_⟩, fun D hD => filt PL4 B4 W.2.2 hD (fun x => rfl) (fun x => rfl) (fun q hq H5 k5 B5 R hR => ?_) (fin D)⟩
        exact ⟨_, rfl, q.1, _, rfl, .inr (SqT.of (it q hq H5 k5)), rfl, rfl, _, rfl, hR _ _ (Kc.refl c H5) B5⟩
      refine ⟨_, rfl, rfl, _, rfl, ?_⟩
      refine ite2 (fun _ => ?_) (fun _ => ?_)
      · exact ⟨_, rfl, fin l H4 L (List.Sublist.refl L) PL4 (Kc.refl c H4) B4⟩
      refine ⟨_, rfl, _, rfl, l, rfl, ⟨_, SqL.of PL4.at_⟩, fun D hD => filt PL4 B4 W.2.2 hD (fun x => rfl) (fun x => rfl) (fun q hq H5 k5 B5 R hR => ?_) (fun H5 M sM pM k5 B5 => ?_)⟩
      · refine ⟨_, rfl, b, c, _, rfl, B5, by decide, by decide, fun H6 x k6 B6 x0 x1 => ?_⟩
        exact ⟨_, rfl, _, _, rfl, rfl, _, rfl, hR _ _ k6 B6⟩
      · have lM : M.length ≤ 64 := (W.sub sM).2.2
        refine ⟨b, c, D, _, rfl, B5, pM.at_, pM.ne, by rw [List.length_map]; omega, fun H6 p ys pm hp pc k6 B6 => ?_⟩
        obtain ⟨M2, e2, p2⟩ : ∃ M2 : List (Addr × Nat × Nat), ys = M2.map (fun q => V.ref q.1) ∧ M2.Perm M := perm_map pm
        subst e2
        have WM := W.sub sM
        refine h H6 p M2 ⟨hp, pc, fun q hq => k6.tup B5.lst (pM.tup q (p2.mem_iff.mp hq))⟩ ⟨?_, fun q hq => WM.2.1 q (p2.mem_iff.mp hq), by rw [p2.length_eq]; exact WM.2.2⟩ ((k4.trans k5).trans k6) B6
        exact ((p2.map _).nodup_iff).mpr WM.1
/-! ### a board's data -/
def spBoard : Sp := fun vs H Q _ => ∃ (b c : Addr), vs = [.ref b, vI 8] ∧ Box b c H ∧ ∀ H' t n l L, 1 ≤ n → n ≤ 8 → H' t = some (.tup [vI n, .ref l]) → PairsAt c H' l L → WaysOk n L → Kc c H H' → Box b c H' → Q (.ref t) H'
theorem sc__law_board : FnScope ["_law_box_here", "_law_most", "_law_many"] ["_law_box_here", "_law_most"] (defScope s__law_board) := ⟨rfl, rfl, rfl, by decide +kernel, rfl, by decide +kernel, by decide +kernel⟩
theorem ok_board (T : Tx K mg) : Has P w K mg base (He.ga K "_law_board") 4 ["_law_box_here", "_law_most"] spBoard := by
  obtain ⟨⟨fd_law_pick, F_law_pick, b_law_pick⟩, kp_law_pick⟩ := ok_pick (P := P) (w := w) (base := base) T
  obtain ⟨⟨fd_law_ways, F_law_ways, b_law_ways⟩, kp_law_ways⟩ := ok_ways (P := P) (w := w) (base := base) T
  obtain ⟨fd, F⟩ := T.d__law_board
  refine ⟨⟨fd, F.ok sc__law_board (fun vs H Q E h => ?_) (fun cdv A outer s H vs Q E hr h => ?_), F.bindsN fun _ _ _ _ _ _ us hl => match us, hl with | [_, _], _ => rfl⟩, F.kp⟩
  · obtain ⟨b, c, rfl, _⟩ := h
    rfl
  · obtain ⟨b, c, rfl, B, h⟩ := h
    have hr_law_pick : Room 1 _ := hr.mono (by decide)
    have hr_law_ways : Room 3 _ := hr.mono (by decide)
    refine ⟨_, PSs.nox (pss_cons (ps_set (i := 2) sc__law_board.nd rfl (Or.inl rfl) (pe_ifExp (pt_cmpR op_eq (pe_call F_law_pick hr_law_pick rfl T.glo_law_pick kp_law_pick b_law_pick .nil pass0 (pa_cons (pv 0) (pa_cons pe_int pa_nil))) pe_int (nomark _)) (pv 1) (pe_op op_add pe_int (pe_call F_law_pick hr_law_pick rfl T.glo_law_pick kp_law_pick b_law_pick .nil pass0 (pa_cons (pv 0) (pa_cons (pv 1) pa_nil))))))
      (pss_one (ps_ret (pe_tup (pa_cons (pv 2) (pa_cons (pe_call F_law_ways hr_law_ways rfl T.glo_law_ways kp_law_ways b_law_ways .nil pass0 (pa_cons (pv 0) (pa_cons (pv 2) pa_nil))) pa_nil)))))), ?_⟩
    refine ⟨_, rfl, b, c, _, rfl, B, by decide, by decide, fun H1 i k1 B1 i0 i1 => ?_⟩
    refine ⟨rfl, _, rfl, ?_⟩
    have fin : ∀ H2 (n : Nat), 1 ≤ n → n ≤ 8 → Kc c H H2 → Box b c H2 → spWays [.ref b, vI n] H2 (fun v H3 => 2 ≤ sizeLine ∧ ∀ t, H3 t = none → Q (.ref t) (upd H3 t (.tup [vI n, v]))) (fun _ _ _ => False) := fun H2 n n1 n8 k2 B2 =>
      ⟨b, c, n, rfl, B2, n1, n8, fun H3 l L pL WL k3 B3 => ⟨by decide, fun t ht => h _ t n l L n1 n8 upd_same (pL.same (same_upd ht)) WL ((k2.trans k3).trans (kc_same (same_upd ht))) (B3.same (same_upd ht))⟩⟩
    refine ite2 (fun _ => ?_) (fun _ => ?_)
    · refine ⟨_, rfl, ?_⟩
      exact ⟨_, rfl, _, rfl, _, rfl, fin H1 8 (by decide) (by decide) k1 B1⟩
    · refine ⟨_, rfl, _, rfl, b, c, _, rfl, B1, by decide, by decide, fun H2 j k2 B2 j0 j1 => ?_⟩
      obtain ⟨m, rfl⟩ : ∃ m : Nat, j = (m : Nat) := ⟨j.toNat, by omega⟩
      have e : (1 : Int) + (m : Nat) = ((m + 1 : Nat) : Int) := by omega
      refine ⟨_, _, rfl, rfl, ?_⟩
      have := fin H2 (m + 1) (by omega) (by omega) (k1.trans k2) B2
      refine ⟨_, rfl, _, rfl, _, rfl, ?_⟩
      show spWays [.ref b, .int (1 + (m : Nat))] H2 (fun v H3 => 2 ≤ sizeLine ∧ ∀ t, H3 t = none → Q (.ref t) (upd H3 t (.tup [.int (1 + (m : Nat)), v]))) (fun _ _ _ => False)
      rw [e]
      exact this
end
end RL
namespace RL
open PySem PySem.Spec PyProof.Rows L2 RLM
theorem rep_flat {α : Type} (x : α) : ∀ k : Nat, (List.replicate k [x]).flatten = List.replicate k x
  | 0 => rfl
  | k + 1 => by
    rw [List.replicate_succ, List.flatten_cons, rep_flat x k]
    rfl
theorem menu_small {xs : List V} {x : V} (h : x ∈ xs) (hs : xs.all (fun v => match v with | .int i => decide (0 ≤ i ∧ i ≤ 7) | _ => false) = true) : ∃ p : Nat, x = vI p ∧ p ≤ 7 := by
  have := List.all_eq_true.mp hs x h
  cases x with
  | int i =>
    have z : 0 ≤ i ∧ i ≤ 7 := of_decide_eq_true this
    refine ⟨i.toNat, ?_, by omega⟩
    show V.int i = V.int (i.toNat : Nat)
    rw [Int.toNat_of_nonneg z.1]
  | _ => cases this
section
variable {P : Program} {w : World} {K : PySem.W.Frag} {mg : Str → Option Value} {base : Heap}
def spPace : Sp := fun vs H Q _ => ∃ (b c : Addr) (n : Nat), vs = [.ref b, vI n] ∧ Box b c H ∧ 1 ≤ n ∧ n ≤ 8 ∧ ∀ H' t (ps : List Nat), ps.length = n → (∀ p ∈ ps, p ≤ 7) → H' t = some (.tup (ps.map vI)) → Kc c H H' → Box b c H' → Q (.ref t) H'
theorem sc__law_pace : FnScope ["_law_box_here", "_law_many", "_law_k"] ["_law_box_here", "_law_many"] (defScope s__law_pace) := ⟨rfl, rfl, rfl, by decide +kernel, rfl, by decide +kernel, by decide +kernel⟩
theorem ok_pace (T : Tx K mg) : Has P w K mg base (He.ga K "_law_pace") 3 ["_law_box_here", "_law_many"] spPace := by
  obtain ⟨⟨fd_law_pick, F_law_pick, b_law_pick⟩, kp_law_pick⟩ := ok_pick (P := P) (w := w) (base := base) T
  obtain ⟨⟨fd_law_from, F_law_from, b_law_from⟩, kp_law_from⟩ := ok_from (P := P) (w := w) (base := base) T
  obtain ⟨fd, F⟩ := T.d__law_pace
  refine ⟨⟨fd, F.ok sc__law_pace (fun vs H Q E h => ?_) (fun cdv A outer s H vs Q E hr h => ?_), F.bindsN fun _ _ _ _ _ _ us hl => match us, hl with | [_, _], _ => rfl⟩, F.kp⟩
  · obtain ⟨b, c, n, rfl, _⟩ := h
    rfl
  · obtain ⟨b, c, n, rfl, B, n1, n8, h⟩ := h
    have hr_law_pick : Room 1 _ := hr.mono (by decide)
    have hr_law_from : Room 2 _ := hr.mono (by decide)
    refine ⟨_, PSs.nox (pss_cons (ps_if (pt_cmpR op_eq (pe_call F_law_pick hr_law_pick rfl T.glo_law_pick kp_law_pick b_law_pick .nil pass0 (pa_cons (pv 0) (pa_cons pe_int pa_nil))) pe_int (nomark _)) (pss_one (ps_ret (pe_op (repTK (K := K)) (pe_tup (pa_cons (pe_call F_law_from hr_law_from rfl T.glo_law_from kp_law_from b_law_from .nil pass0 (pa_cons (pv 0) (pa_cons (pe_lst (pa_cons pe_int (pa_cons pe_int (pa_cons pe_int (pa_cons pe_int (pa_cons pe_int (pa_cons pe_int pa_nil))))))) pa_nil))) pa_nil)) (pv 1)))) pss_nil)
      (pss_one (ps_ret (pe_callTy (tupK (K := K)) (by rfl) T.free_tuple (by decide +kernel) (pa_cons (pe_lc (own := [("_law_k", 2)]) (g := (gName 2)) (tt := tYes) rfl sc__law_pace.nd (pi_range1 (by rfl) T.free_range (pa_cons (pv 1) pa_nil)) (blkOk_by (by kernel_rfl)) (fun _ _ _ _ _ => (pg_name (i := 2) sc__law_pace.nd rfl (Or.inl rfl))) (fun _ _ _ _ _ => pts_nil) (fun _ _ _ _ _ => (pe_call F_law_from hr_law_from rfl T.glo_law_from kp_law_from b_law_from .nil pass0 (pa_cons (pv 0) (pa_cons (pe_lst (pa_cons pe_int (pa_cons pe_int (pa_cons pe_int (pa_cons pe_int (pa_cons pe_int (pa_cons pe_int (pa_cons pe_int (pa_cons pe_int (pa_cons pe_int pa_nil)))))))))) pa_nil))))) pa_nil))))), ?_⟩
    refine ⟨_, rfl, b, c, _, rfl, B, by decide, by decide, fun H1 i k1 B1 i0 i1 => ?_⟩
    refine ⟨rfl, _, rfl, ?_⟩
    refine ite2 (fun _ => ?_) (fun _ => ?_)
    · refine ⟨_, rfl, (by show 6 ≤ sizeLine; decide), fun l hl => ?_⟩
      have s2 := same_upd (o := HO.lst [V.int 0, V.int 1, V.int 1, V.int 2, V.int 3, V.int 7]) hl
      refine ⟨b, c, l, _, rfl, B1.same s2, upd_same, (B1.new hl).1, by decide, by decide, fun H3 x k3 B3 hx => ?_⟩
      obtain ⟨p, rfl, p7⟩ := menu_small hx (by decide)
      refine ⟨(by show 1 ≤ sizeLine; decide), fun t ht => ?_⟩
      have s4 := same_upd (o := HO.tup [vI p]) ht
      have k4 : Kc c H (upd H3 t (.tup [vI p])) := ((k1.trans (kc_same s2)).trans k3).trans (kc_same s4)
      refine ⟨_, rfl, t, (n : Int), _, rfl, rfl, SqT.of upd_same, by simp, by omega, by omega, (by show 1 ≤ 1000; decide), fun e => ?_, fun q hq => ?_⟩
      · have e1 : n = 1 := by omega
        subst e1
        exact h _ t [p] rfl (by simp [p7]) upd_same k4 (B3.same s4)
      · have s5 := same_upd (o := HO.tup (List.replicate (n : Int).toNat [vI p]).flatten) hq
        refine h _ q (List.replicate n p) (by simp) (fun z hz => by rw [(List.mem_replicate.mp hz).2]; exact p7) ?_ (k4.trans (kc_same s5)) ((B3.same s4).same s5)
        rw [upd_same, rep_flat, List.map_replicate, Int.toNat_natCast]
    · refine ⟨_, rfl, (n : Int), rfl, by omega, by omega, fun D hD => ?_⟩
      have s2 : Same H1 (upd H1 D (.lst [])) := same_upd hD
      have Dc := (B1.new hD).1
      have Db := (B1.new hD).2
      refine lc_range (lo := 0) (n := ((n : Nat) : Int).toNat) (fun j H2 => ∃ ps : List Nat, ps.length = j ∧ (∀ p ∈ ps, p ≤ 7) ∧ H2 D = some (.lst (ps.map vI)) ∧ Kc c H1 H2 ∧ Box b c H2)
        ⟨[], rfl, by simp, upd_same, kc_same s2, B1.same s2⟩ ?_ ?_
      · rintro j H2 hj ⟨ps, lp, p7, hp, k2, B2⟩
        refine ⟨rfl, ?_⟩
        unfold tYes
        refine iteT ?_
        refine ⟨_, rfl, (by show 9 ≤ sizeLine; decide), fun l hl => ?_⟩
        have s3 := same_upd (o := HO.lst [V.int 0, V.int 1, V.int 1, V.int 2, V.int 3, V.int 4, V.int 5, V.int 6, V.int 7]) hl
        refine ⟨b, c, l, _, rfl, B2.same s3, upd_same, (B2.new hl).1, by decide, by decide, fun H3 x k3 B3 hx => ?_⟩
        obtain ⟨p, rfl, pp⟩ := menu_small hx (by decide)
        have k4 := (k2.trans (kc_same s3)).trans k3
        have hp3 : H3 D = some (.lst (ps.map vI)) := k3 _ _ Dc (fun _ z => by cases z) (s3 _ _ hp)
        refine ⟨_, hp3, ?_, ps ++ [p], by simp [lp], fun z hz => ?_, ?_, k4.upd hD, B3.upd Dc Db⟩
        · rw [List.length_map]
          exact Nat.lt_of_le_of_lt (show ps.length ≤ 8 by omega) (by decide)
        · rcases List.mem_append.mp hz with hz | hz
          · exact p7 z hz
          · rw [List.mem_singleton.mp hz]
            exact pp
        · rw [upd_same, List.map_append]
          rfl
      · rintro H2 ⟨ps, lp, p7, hp, k2, B2⟩
        refine ⟨D, _, rfl, .inl ⟨SqL.of hp, fun t ht => ?_⟩⟩
        have s3 := same_upd (o := HO.tup (ps.map vI)) ht
        exact h _ t ps (by omega) p7 upd_same ((k1.trans k2).trans (kc_same s3)) (B2.same s3)
/-! ### lots -/
def spLot : Sp := fun vs H Q _ => ∃ (b c : Addr) (n : Nat), vs = [.ref b, vI n] ∧ Box b c H ∧ 1 ≤ n ∧ n ≤ 8 ∧ ∀ H' t p, H' t = some (.tup ((lotP n p).map vI)) → Kc c H H' → Box b c H' → Q (.ref t) H'
theorem rg_range (n : Nat) : rgV 0 (n : Int) = (List.range n).map vI := by
  unfold rgV
  rw [Int.sub_zero, Int.toNat_natCast]
  refine List.map_congr_left fun i _ => ?_
  show V.int (0 + (i : Nat)) = V.int (i : Nat)
  rw [Int.zero_add]
theorem lotP_true (n : Nat) : lotP n (fun _ => True) = List.range n := (lotP_of (range_sorted n) fun b => by simp [List.mem_range]).symm
theorem sc__law_lot : FnScope ["_law_box_here", "_law_many", "_law_thick", "_law_place"] ["_law_box_here", "_law_many"] (defScope s__law_lot) := ⟨rfl, rfl, rfl, by decide +kernel, rfl, by decide +kernel, by decide +kernel⟩
theorem ok_lot (T : Tx K mg) : Has P w K mg base (He.ga K "_law_lot") 2 ["_law_box_here", "_law_many"] spLot := by
  obtain ⟨⟨fd_law_pick, F_law_pick, b_law_pick⟩, kp_law_pick⟩ := ok_pick (P := P) (w := w) (base := base) T
  obtain ⟨fd, F⟩ := T.d__law_lot
  refine ⟨⟨fd, F.ok sc__law_lot (fun vs H Q E h => ?_) (fun cdv A outer s H vs Q E hr h => ?_), F.bindsN fun _ _ _ _ _ _ us hl => match us, hl with | [_, _], _ => rfl⟩, F.kp⟩
  · obtain ⟨b, c, n, rfl, _⟩ := h
    rfl
  · obtain ⟨b, c, n, rfl, B, n1, n8, h⟩ := h
    have hr_law_pick : Room 1 _ := hr.mono (by decide)
    refine ⟨_, PSs.nox (pss_cons (ps_if (pt_cmpR op_eq (pe_call F_law_pick hr_law_pick rfl T.glo_law_pick kp_law_pick b_law_pick .nil pass0 (pa_cons (pv 0) (pa_cons pe_int pa_nil))) pe_int (nomark _)) (pss_one (ps_ret (pe_tupRg rfl (by rfl) T.free_tuple (prg_1 (by rfl) T.free_range (pv 1))))) pss_nil)
      (pss_cons (ps_set (i := 2) sc__law_lot.nd rfl (Or.inr rfl) (pe_op op_add pe_int (pe_call F_law_pick hr_law_pick rfl T.glo_law_pick kp_law_pick b_law_pick .nil pass0 (pa_cons (pv 0) (pa_cons pe_int pa_nil)))))
      (pss_one (ps_ret (pe_callTy (tupK (K := K)) (by rfl) T.free_tuple (by decide +kernel) (pa_cons (pe_lc (own := [("_law_place", 3)]) (g := (gName 3)) rfl sc__law_lot.nd (pi_range1 (by rfl) T.free_range (pa_cons (pv 1) pa_nil)) (blkOk_by (by kernel_rfl)) (fun _ _ _ _ _ => (pg_name (i := 3) sc__law_lot.nd rfl (Or.inl rfl))) (fun _ _ _ _ _ => (pts_one (pt_cmpR op_lt (pe_call F_law_pick hr_law_pick rfl T.glo_law_pick kp_law_pick b_law_pick .nil pass0 (pa_cons (pv 0) (pa_cons pe_int pa_nil))) (pv 2) (nomark _)))) (fun _ _ _ _ _ => (pv 3))) pa_nil)))))), ?_⟩
    refine ⟨_, rfl, b, c, _, rfl, B, by decide, by decide, fun H1 i k1 B1 i0 i1 => ?_⟩
    refine ⟨rfl, _, rfl, ?_⟩
    refine ite2 (fun _ => ?_) (fun _ => ?_)
    · refine ⟨_, rfl, (n : Int), rfl, RgOk.of_le (by decide) (by omega) (by decide) (by omega), fun q hq => ?_⟩
      have s2 := same_upd (o := HO.tup (rgV 0 (n : Int))) hq
      refine h _ q (fun _ => True) ?_ (k1.trans (kc_same s2)) (B1.same s2)
      rw [upd_same, rg_range, lotP_true]
    · refine ⟨_, rfl, b, c, _, rfl, B1, by decide, by decide, fun H2 j k2 B2 j0 j1 => ?_⟩
      refine ⟨_, _, rfl, rfl, ?_⟩
      refine ⟨_, rfl, (n : Int), rfl, by omega, by omega, fun D hD => ?_⟩
      have s3 : Same H2 (upd H2 D (.lst [])) := same_upd hD
      have Dc := (B2.new hD).1
      have Db := (B2.new hD).2
      refine lc_range (lo := 0) (n := ((n : Nat) : Int).toNat) (fun j H3 => ∃ ps : List Nat, ps.Sublist (List.range j) ∧ H3 D = some (.lst (ps.map vI)) ∧ Kc c H2 H3 ∧ Box b c H3)
        ⟨[], by simp, upd_same, kc_same s3, B2.same s3⟩ ?_ ?_
      · rintro j H3 hj ⟨ps, sp, hp, k3, B3⟩
        refine ⟨rfl, _, rfl, b, c, _, rfl, B3, by decide, by decide, fun H4 x k4 B4 x0 x1 => ?_⟩
        refine ⟨_, rfl, _, _, rfl, rfl, _, rfl, ?_⟩
        have hp4 : H4 D = some (.lst (ps.map vI)) := k4 _ _ Dc (fun _ z => by cases z) hp
        have lp : ps.length ≤ 8 := Nat.le_trans sp.length_le (by rw [List.length_range]; omega)
        refine ite2 (fun _ => ?_) (fun _ => ?_)
        · refine ⟨_, rfl, _, hp4, ?_, ps ++ [j], ?_, ?_, (k3.trans k4).upd hD, B4.upd Dc Db⟩
          · rw [List.length_map]
            exact Nat.lt_of_le_of_lt lp (by decide)
          · rw [List.range_succ]
            exact sp.append (List.Sublist.refl _)
          · rw [upd_same, List.map_append, Int.zero_add]
            rfl
        · refine ⟨ps, ?_, hp4, k3.trans k4, B4⟩
          rw [List.range_succ]
          exact sp.trans (List.sublist_append_left _ _)
      · rintro H3 ⟨ps, sp, hp, k3, B3⟩
        rw [Int.toNat_natCast] at sp
        refine ⟨D, _, rfl, .inl ⟨SqL.of hp, fun t ht => ?_⟩⟩
        have s4 := same_upd (o := HO.tup (ps.map vI)) ht
        refine h _ t (fun b => b ∈ ps) ?_ (((k1.trans k2).trans k3).trans (kc_same s4)) (B3.same s4)
        rw [upd_same, ← lotP_of (n := n) (p := fun b => b ∈ ps) ((range_sorted n).sublist sp) fun b => ⟨fun hb => ⟨List.mem_range.mp (sp.subset hb), hb⟩, fun hb => hb.2⟩]
/-! ### two lots put together -/
def spJoined : Sp := fun vs H Q _ => ∃ (s t : Addr) (n : Nat) (p q : Nat → Prop), vs = [.ref s, .ref t] ∧ H s = some (.tup ((lotP n p).map vI)) ∧ H t = some (.tup ((lotP n q).map vI)) ∧ n ≤ 8 ∧ ∀ H' u, H' u = some (.tup ((lotP n fun b => p b ∨ q b).map vI)) → Same H H' → Q (.ref u) H'
def nI (k : Nat) : Int := (k : Nat)
theorem vI_map (xs : List Nat) : xs.map vI = (xs.map nI).map V.int := by
  rw [List.map_map]
  rfl
/-- a rising list of ints that has just the places of a lot is it -/
theorem rise_lot {n : Nat} {p : Nat → Prop} {ns : List Int} (h : ns.Pairwise (· < ·)) (hm : ∀ k : Int, k ∈ ns ↔ ∃ b : Nat, k = nI b ∧ b < n ∧ p b) : ns.map V.int = (lotP n p).map vI := by
  have e : ns = (ns.map Int.toNat).map nI := by
    rw [List.map_map]
    refine (List.map_id' ns).symm.trans (List.map_congr_left fun k hk => ?_)
    obtain ⟨b, rfl, _⟩ := (hm k).1 hk
    rfl
  have s2 : (ns.map Int.toNat).Pairwise (· < ·) := by
    rw [List.pairwise_map]
    refine h.imp_of_mem fun {x y} hx hy hxy => ?_
    obtain ⟨a, rfl, _⟩ := (hm x).1 hx
    obtain ⟨b, rfl, _⟩ := (hm y).1 hy
    have : (a : Int) < (b : Int) := hxy
    show a < b
    omega
  have : ns.map Int.toNat = lotP n p := by
    refine lotP_of s2 fun b => ⟨fun hb => ?_, fun hb => ?_⟩
    · obtain ⟨k, hk, rfl⟩ := List.mem_map.mp hb
      obtain ⟨b, rfl, hb2⟩ := (hm k).1 hk
      exact hb2
    · exact List.mem_map.mpr ⟨nI b, (hm _).2 ⟨b, rfl, hb⟩, rfl⟩
  rw [vI_map, ← this, ← e]
end
end RL
namespace RL
open PySem PySem.Spec PyProof.Rows L2 RLM
/-- [e for x in xs if t(x)]: what R says of each -/
theorem lc_relF {α : Type} {J : It} {n : Nat} {G : Hp → Prop} {Y : Nat → Hp → V → Hp → Prop} {g : TG} {tt : TT} {te : TE} {vs : List Nat} {σ : L2.St} {H : Hp} {D : Addr} {Qd : Hp → Prop} (w : Walk J n G Y) (xs : List α) (t : α → Bool) (R : α → V → Hp → Prop) (hx : n = xs.length) (hn : n ≤ 100000) (hD : H D = none) (tk : ∀ a v H1 H2, R a v H1 → TK H1 H2 → R a v H2) (hG : ∀ H1, Same H H1 → G H1)
    (hs : ∀ i b x H1 H2 (N1 : V → Hp → Prop) (N0 : Hp → Prop), xs[i]? = some b → Same H H1 → Y i H1 x H2 → (∀ y H4, t b = true → R b y H4 → Same H1 H4 → N1 y H4) → (∀ H4, t b = false → Same H1 H4 → N0 H4) →
      g x (wipe σ vs) H2 fun σ2 H3 => wipe σ2 vs = wipe σ vs ∧ tt σ2 H3 fun c H4 => if c = true then te σ2 H4 N1 else N0 H4)
    (hd : ∀ H1 (ys : List (V × α)), H1 D = some (.lst (ys.map (·.1))) → ys.map (·.2) = xs.filter t → (∀ q ∈ ys, R q.2 q.1 H1) → Same H H1 → Qd H1) :
    ∃ W : Nat → Nat → Hp → Prop, (∃ m, W 0 m (upd H D (.lst []))) ∧ ∀ i m H, W i m H →
      (J.stop i H ∧ Qd H) ∨ (J.go i H ∧ ∃ Nx : Hp → Prop, (∀ H', Nx H' → ∃ m', m' < m ∧ W (i + 1) m' H') ∧ ∀ x H', J.yld i H x H' → g x (wipe σ vs) H' fun σ2 H2 => wipe σ2 vs = wipe σ vs ∧ tt σ2 H2 fun b H3 =>
        if b = true then te σ2 H3 fun y H4 => ∃ acc, H4 D = some (.lst acc) ∧ acc.length < sizeLine ∧ Nx (upd H4 D (.lst (acc ++ [y]))) else Nx H3) := by
  refine lc_it w (fun i H1 => ∃ ys : List (V × α), H1 D = some (.lst (ys.map (·.1))) ∧ ys.map (·.2) = (xs.take i).filter t ∧ (∀ q ∈ ys, R q.2 q.1 H1) ∧ Same H H1) ⟨[], upd_same, rfl, fun q hq => (by cases hq), same_upd hD⟩ (fun i H1 _ ⟨_, _, _, _, s1⟩ => hG H1 s1) ?_ (fun H1 ⟨ys, h1, h2, h3, h4⟩ => hd H1 ys h1 (by rw [hx, List.take_length] at h2; exact h2) h3 h4)
  rintro i x H1 H2 hi ⟨ys, h1, h2, h3, s1⟩ hY
  have hb : xs[i]? = some (xs[i]'(by omega)) := List.getElem?_eq_getElem _
  generalize xs[i]'(by omega) = b at hb
  have et : xs.take (i + 1) = xs.take i ++ [b] := by
    rw [List.take_add_one, hb]
    rfl
  refine hs i b x H1 H2 (fun y H4 => ∃ acc, H4 D = some (.lst acc) ∧ acc.length < sizeLine ∧ ∃ zs : List (V × α), (upd H4 D (.lst (acc ++ [y]))) D = some (.lst (zs.map (·.1))) ∧ zs.map (·.2) = (xs.take (i + 1)).filter t ∧ (∀ q ∈ zs, R q.2 q.1 (upd H4 D (.lst (acc ++ [y])))) ∧ Same H (upd H4 D (.lst (acc ++ [y])))) _ hb s1 hY (fun y H4 tb r s4 => ?_) (fun H4 tb s4 => ?_)
  · have h4 := s4 _ _ h1
    refine ⟨_, h4, ?_, ys ++ [(y, b)], by rw [upd_same, List.map_append]; rfl, ?_, fun q hq => ?_, same_mut (s1.trans s4) hD⟩
    · have e := congrArg List.length h2
      rw [List.length_map] at e
      rw [List.length_map, e]
      refine Nat.lt_of_le_of_lt (List.length_filter_le _ _) (Nat.lt_of_le_of_lt (?_ : _ ≤ 100000) (by decide))
      rw [List.length_take]
      omega
    · rw [List.map_append, h2, et, List.filter_append, List.filter_cons, if_pos tb]
      rfl
    · rcases List.mem_append.mp hq with z | z
      · exact tk _ _ _ _ (h3 q z) ((tk_same s4).trans (tk_lst h4))
      · rw [List.mem_singleton.mp z]
        exact tk _ _ _ _ r (tk_lst h4)
  · refine ⟨ys, s4 _ _ h1, ?_, fun q hq => tk _ _ _ _ (h3 q hq) (tk_same s4), s1.trans s4⟩
    rw [h2, et, List.filter_append, List.filter_cons, if_neg (by rw [tb]; exact Bool.false_ne_true), List.filter_nil, List.append_nil]
end RL
namespace RL
open PySem PySem.Spec PyProof.Rows L2 RLM
section
variable {P : Program} {w : World} {K : PySem.W.Frag} {mg : Str → Option Value} {base : Heap}
def pairL (q : Nat × Nat) : List Int := [nI q.1, nI q.2]
theorem pairL_inj {a b : Nat × Nat} (h : pairL a = pairL b) : a = b := by
  unfold pairL nI at h
  simp at h
  exact Prod.ext (by omega) (by omega)
/-- a list of ways that a set of tuples tells -/
def toT (q : Addr × Nat × Nat) : Addr × List Int := (q.1, pairL q.2)
def lexLt (a b : Nat × Nat) : Prop := a.1 < b.1 ∨ (a.1 = b.1 ∧ a.2 < b.2)
def spRising (K : PySem.W.Frag) : Sp := fun vs H Q _ => ∃ (n : Nat) (l : Addr) (L : List (Addr × Nat × Nat)), vs = [vI n, .ref l] ∧ H l = some (.lst (L.map fun q => V.ref q.1)) ∧ (∀ q ∈ L, H q.1 = some (.tup [vI q.2.1, vI q.2.2])) ∧ WaysOk n L ∧ n ≤ 8 ∧ L.length < 63 ∧
  ∀ (H' : Hp) (p : Addr) (M : List (Addr × Nat × Nat)), H' p = some (.lst (M.map fun q => V.ref q.1)) → (∀ q ∈ M, H' q.1 = some (.tup [vI q.2.1, vI q.2.2])) → (∀ e, e ∈ M.map (·.2) ↔ e ∈ L.map (·.2)) → (M.map (·.2)).Pairwise lexLt → Same H H' → H p = none → Q (.ref p) H'
theorem sc_rising_ways : FnScope ["many", "ways", "seen", "at", "one", "other"] ["many", "ways"] (defScope s_rising_ways) := ⟨rfl, rfl, rfl, by decide +kernel, rfl, by decide +kernel, by decide +kernel⟩
theorem ok_rising (T : Tx K mg) : Has P w K mg base (He.ga K "rising_ways") 3 ["many", "ways"] (spRising K) := by
  obtain ⟨⟨fd_is_between, F_is_between, b_is_between⟩, kp_is_between⟩ := ok_is_between (P := P) (w := w) (base := base) T
  obtain ⟨fd, F⟩ := T.d_rising_ways
  refine ⟨⟨fd, F.ok sc_rising_ways (fun vs H Q E h => ?_) (fun cdv A outer s H vs Q E hr h => ?_), F.bindsN fun _ _ _ _ _ _ us hl => match us, hl with | [_, _], _ => rfl⟩, F.kp⟩
  · obtain ⟨n, l, L, rfl, _⟩ := h
    rfl
  · obtain ⟨n, l, L, rfl, hl, tL, W, n8, len, h⟩ := h
    have hr_is_between : Room 2 _ := hr.mono (by decide)
    refine ⟨_, PSs.nox (pss_cons (ps_set (i := 2) sc_rising_ways.nd rfl (Or.inl rfl) (pe_callTy0 (set0T (P := P) (w := w)) (by rfl) T.free_set (by decide +kernel)))
      (pss_cons (ps_for PassesOwn.never rfl (piEnum (K := K) (by rfl) T.free_enumerate (pa_cons (pv 1) pa_nil)) (pgT (K := K) (n := 2) rfl (pgs_cons (pg_name (i := 3) sc_rising_ways.nd rfl (Or.inl rfl)) (pgs_cons (pgT (K := K) (n := 2) rfl (pgs_cons (pg_name (i := 4) sc_rising_ways.nd rfl (Or.inl rfl)) (pgs_cons (pg_name (i := 5) sc_rising_ways.nd rfl (Or.inl rfl)) pgs_nil))) pgs_nil))) (pss_cons (ps_if (PW.pt (pw_or (pt_not (pt_val (pe_call F_is_between hr_is_between rfl T.glo_is_between kp_is_between b_is_between .nil pass0 (pa_cons (pv 4) (pa_cons pe_int (pa_cons (pe_op op_sub (pv 0) pe_int) pa_nil)))))) (pw_or1 (pt_not (pt_val (pe_call F_is_between hr_is_between rfl T.glo_is_between kp_is_between b_is_between .nil pass0 (pa_cons (pv 5) (pa_cons pe_int (pa_cons (pe_op op_sub (pv 0) pe_int) pa_nil))))))))) (pss_one ps_never) pss_nil)
      (pss_cons (ps_if (PW.pt (pw_or (pt_cmpR op_eq (pv 4) (pv 5) (nomark _)) (pw_or1 (pt_cmpR (inT (K := K) (P := P) (w := w) hr.units) (pe_tup (pa_cons (pv 4) (pa_cons (pv 5) pa_nil))) (pv 2) (by rfl))))) (pss_one ps_never) pss_nil)
      (pss_one (ps_expr (pe_addT (K := K) (P := P) (w := w) hr.units (pv 2) (pa_cons (pe_tup (pa_cons (pv 4) (pa_cons (pv 5) pa_nil))) pa_nil)))))))
      (pss_one (ps_ret (pe_callB (sortSetT (K := K) (P := P) (w := w)) (by rfl) T.free_sorted (by decide +kernel) (pa_cons (pv 2) pa_nil)))))), ?_⟩
    refine ⟨rfl, fun a ha => ?_⟩
    have s0 : Same H (upd H a (SetTO P w a [])) := same_upd ha
    refine ⟨_, rfl, l, _, rfl, SqL.of (s0 _ _ hl), for_it (walk_enum (K := K) (a := l) (xs := L.map fun q => V.ref q.1)) (fun i σ H1 => ∃ (M : List (Addr × Nat × Nat)) (S : List (Addr × List Int)) (v3 v4 v5 : Option V), σ = [some (vI n), some (.ref l), some (.ref a), v3, v4, v5] ∧ S.Perm (M.map toT) ∧ H1 a = some (SetTO P w a S) ∧ (∀ q ∈ M, H1 q.1 = some (.tup [vI q.2.1, vI q.2.2])) ∧ (∀ e, e ∈ M.map (·.2) ↔ e ∈ (L.take i).map (·.2)) ∧ M.length = i ∧ Same H H1)
      ⟨[], [], none, none, none, rfl, by simp, upd_same, fun q hq => (by cases hq), by simp, rfl, s0⟩ (fun i σ H1 _ ⟨_, _, _, _, _, _, _, _, _, _, _, s1⟩ => SqL.of (s1 _ _ hl)) ?_ ?_⟩
    · rintro i x σ H1 H2 hi ⟨M, S, v3, v4, v5, rfl, pm, hS, tM, mM, lM, s1⟩ ⟨t, x1, x2, rfl, ht, rfl, e1, e2⟩
      rw [List.length_map] at hi
      have eq : L[i]? = some L[i] := List.getElem?_eq_getElem hi
      generalize L[i] = q at eq
      have mq : q ∈ L := List.mem_of_getElem? eq
      obtain ⟨w1, w2, w3⟩ := W.2.1 q mq
      cases (Option.some.inj e1)
      have ex2 : x2 = V.ref q.1 := by
        have e3 : (L.map fun q => V.ref q.1)[i]? = some x2 := e2
        rw [List.getElem?_map, eq] at e3
        exact (Option.some.inj e3).symm
      subst ex2
      have s2 : Same H1 (upd H1 t (.tup [.int (i : Nat), .ref q.1])) := same_upd ht
      have tq := s2 _ _ (s1 _ _ (tL q mq))
      refine ⟨t, _, rfl, SqT.of upd_same, rfl, _, _, rfl, _, _, rfl, q.1, _, rfl, SqT.of tq, rfl, _, _, rfl, _, _, rfl, rfl, rfl, ?_⟩
      have hS2 := s2 _ _ hS
      have tM2 : ∀ m ∈ M, (upd H1 t (.tup [.int (i : Nat), .ref q.1])) m.1 = some (.tup [vI m.2.1, vI m.2.2]) := fun m hm => s2 _ _ (tM m hm)
      have s3 : Same H (upd H1 t (.tup [.int (i : Nat), .ref q.1])) := s1.trans s2
      generalize upd H1 t (.tup [.int (i : Nat), .ref q.1]) = H3 at hS2 tM2 s3
      refine ⟨_, rfl, _, rfl, _, _, rfl, rfl, _, _, _, rfl, _, rfl, iteNS ⟨by omega, by omega⟩ ?_⟩
      refine ⟨_, rfl, _, rfl, _, _, rfl, rfl, _, _, _, rfl, _, rfl, iteNS ⟨by omega, by omega⟩ ?_⟩
      refine ⟨_, rfl, _, rfl, rfl, _, rfl, ?_⟩
      have ne : ¬ (vI q.2.1 = vI q.2.2) := fun z => w3 (by
        have z1 : V.int (q.2.1 : Nat) = V.int (q.2.2 : Nat) := z
        injection z1 with z2
        omega)
      refine ite2 (fun z => absurd (of_decide_eq_true z) ne) (fun _ => ?_)
      have et : L.take (i + 1) = L.take i ++ [q] := by
        rw [List.take_add_one, eq]
        rfl
      have nin : pairL q.2 ∉ S.map (·.2) := fun hm => by
        obtain ⟨p, hp, ep⟩ := List.mem_map.mp hm
        obtain ⟨m, hm, rfl⟩ := List.mem_map.mp (pm.mem_iff.mp hp)
        have em : m.2 = q.2 := pairL_inj ep
        have h1 : q.2 ∈ (L.take i).map (·.2) := (mM q.2).1 (em ▸ List.mem_map.mpr ⟨m, hm, rfl⟩)
        have nd : ((L.take (i + 1)).map (·.2)).Nodup := ((List.take_sublist _ _).map _).nodup W.1
        rw [et, List.map_append, List.nodup_append] at nd
        exact nd.2.2 _ h1 _ (by simp) rfl
      have TA : ∀ H4, (∀ m ∈ M, H4 m.1 = some (.tup [vI m.2.1, vI m.2.2])) → TupsAt K H4 S := fun H4 h4 p hp => by
        obtain ⟨m, hm, rfl⟩ := List.mem_map.mp (pm.mem_iff.mp hp)
        exact SqT.of (h4 m hm)
      refine ⟨_, rfl, _, rfl, (by show 2 ≤ sizeLine; decide), fun u hu => ?_⟩
      have s4 : Same H3 (upd H3 u (.tup [vI q.2.1, vI q.2.2])) := same_upd hu
      refine ⟨_, rfl, u, a, pairL q.2, S, rfl, rfl, SqT.of upd_same, s4 _ _ hS2, TA _ fun m hm => s4 _ _ (tM2 m hm), _, rfl, ?_⟩
      rw [decide_eq_false nin]
      refine iteF ?_
      have hS4 := s4 _ _ hS2
      have tM4 : ∀ m ∈ M, (upd H3 u (.tup [vI q.2.1, vI q.2.2])) m.1 = some (.tup [vI m.2.1, vI m.2.2]) := fun m hm => s4 _ _ (tM2 m hm)
      have s5 := s3.trans s4
      generalize upd H3 u (.tup [vI q.2.1, vI q.2.2]) = H4 at hS4 tM4 s5
      refine ⟨_, rfl, ⟨a, S, rfl, hS4⟩, _, rfl, _, rfl, (by show 2 ≤ sizeLine; decide), fun v hv => ?_⟩
      have s6 : Same H4 (upd H4 v (.tup [vI q.2.1, vI q.2.2])) := same_upd hv
      have lS : S.length < 63 := by
        rw [pm.length_eq, List.length_map, lM]
        omega
      refine ⟨a, v, pairL q.2, S, rfl, rfl, SqT.of upd_same, s6 _ _ hS4, TA _ fun m hm => s6 _ _ (tM4 m hm), lS, nin, fun S' pm' => ?_⟩
      have nva : v ≠ a := fun z => by
        rw [z, hS4] at hv
        cases hv
      refine ⟨M ++ [(v, q.2)], S', _, _, _, rfl, ?_, upd_same, fun m hm => ?_, fun e => ?_, by simp [lM], same_mut (s5.trans s6) ha⟩
      · rw [List.map_append]
        refine pm'.trans ((pm.cons _).trans ?_)
        exact List.perm_append_comm (l₁ := [toT (v, q.2)])
      · rcases List.mem_append.mp hm with hm | hm
        · have g := s6 _ _ (tM4 m hm)
          rw [upd_ne (ne_of g (s6 _ _ hS4) (by intro z; cases z))]
          exact g
        · rw [List.mem_singleton.mp hm, upd_ne nva, upd_same]
      · rw [et, List.map_append, List.map_append, List.mem_append, List.mem_append, mM e]
        rfl
    · rintro σ H1 ⟨M, S, v3, v4, v5, rfl, pm, hS, tM, mM, lM, s1⟩
      rw [List.length_map, List.take_length] at mM
      have inM : ∀ m ∈ M, m.2.1 < 8 ∧ m.2.2 < 8 := fun m hm => by
        obtain ⟨q, hq, e⟩ := List.mem_map.mp ((mM m.2).1 (List.mem_map.mpr ⟨m, hm, rfl⟩))
        have := W.2.1 q hq
        have e : q.2 = m.2 := e
        rw [← e]
        omega
      refine ⟨_, rfl, a, S, 2, 64, rfl, hS, fun p hp => ?_, by decide, fun p hp => ?_, fun S' p pm' nd few pw hp => ?_⟩
      · obtain ⟨m, hm, rfl⟩ := List.mem_map.mp (pm.mem_iff.mp hp)
        exact SqT.of (tM m hm)
      · obtain ⟨m, hm, rfl⟩ := List.mem_map.mp (pm.mem_iff.mp hp)
        have := inM m hm
        refine ⟨rfl, ?_⟩
        intro z hz
        have hz : z = nI m.2.1 ∨ z = nI m.2.2 := by simpa [toT, pairL] using hz
        unfold nI at hz
        omega
      · obtain ⟨M', rfl, pM⟩ := perm_map (pm'.trans pm)
        have e1 : (M'.map toT).map (fun q => V.ref q.1) = M'.map fun q => V.ref q.1 := by
          rw [List.map_map]
          rfl
        have s2 := same_upd (o := HO.lst ((M'.map toT).map fun q => V.ref q.1)) hp
        refine h _ p M' (by rw [upd_same, e1]) (fun q hq => s2 _ _ (tM q (pM.mem_iff.mp hq))) (fun e => ?_) ?_ (s1.trans s2) (s1.free hp)
        · rw [← mM e]
          exact (pM.map _).mem_iff
        · rw [List.pairwise_map] at pw ⊢
          have nd2 : M'.Pairwise (fun x y => pairL x.2 ≠ pairL y.2) := by
            have : ((M'.map toT).map (·.2)).Pairwise (· ≠ ·) := nd
            rw [List.map_map, List.pairwise_map] at this
            exact this
          refine (pw.and nd2).imp_of_mem fun {x y} hx hy ⟨c1, c2⟩ => ?_
          have bx := inM x (pM.mem_iff.mp hx)
          have by_ := inM y (pM.mem_iff.mp hy)
          have := pair_lt (x := nI x.2.1) (y := nI x.2.2) (x' := nI y.2.1) (y' := nI y.2.2) c1 c2 (by unfold nI; omega) (by unfold nI; omega) (by unfold nI; omega) (by unfold nI; omega)
          unfold nI at this
          unfold lexLt
          omega
end
end RL
namespace RL
open PySem PySem.Spec PyProof.Rows L2 RLM
theorem ixN_nat {n j : Nat} (h : j < n) : ixN n (j : Int) = some j := by
  unfold ixN
  have h1 : (0 : Int) ≤ (j : Int) := Int.natCast_nonneg j
  have h2 : (j : Int) < (n : Int) := by omega
  rw [if_pos h1, if_pos h2, Int.toNat_natCast]
theorem get_map {α β : Type} {f : α → β} {xs : List α} {i : Nat} {x : α} (h : xs[i]? = some x) : (xs.map f)[i]? = some (f x) := by
  rw [List.getElem?_map, h]
  rfl
/-- the leads' lists -/
structure LeadsAt (H : Hp) (ll : Addr) (n : Nat) (E : List (Nat × Nat)) (G : List (Addr × List Nat)) : Prop where
  at_ : H ll = some (.lst (G.map fun g => V.ref g.1))
  len : G.length = n
  each : ∀ (c : Nat) (g : Addr × List Nat), G[c]? = some g → H g.1 = some (.lst (g.2.map vI)) ∧ g.2.length ≤ 64 ∧ ∀ o, o ∈ g.2 ↔ (c, o) ∈ E
theorem LeadsAt.same {H H' : Hp} {ll : Addr} {n : Nat} {E : List (Nat × Nat)} {G : List (Addr × List Nat)} (s : Same H H') (h : LeadsAt H ll n E G) : LeadsAt H' ll n E G :=
  ⟨s _ _ h.at_, h.len, fun c g e => ⟨s _ _ (h.each c g e).1, (h.each c g e).2⟩⟩
section
variable {P : Program} {w : World} {K : PySem.W.Frag} {mg : Str → Option Value} {base : Heap}
def spFars : Sp := fun vs H Q _ => ∃ (ll : Addr) (a n : Nat) (E : List (Nat × Nat)) (G : List (Addr × List Nat)), vs = [.ref ll, vI a] ∧ LeadsAt H ll n E G ∧ On n E ∧ n ≤ 8 ∧ a < n ∧
  ∀ (H' : Hp) (p : Addr) (fs : List (Option Nat)), H' p = some (.lst (fs.map vO)) → H p = none → Fars n E a fs → Same H H' → Q (.ref p) H'
theorem sc_fars_from : FnScope ["leads", "place", "fars", "edge", "beyond", "one", "other"] ["leads", "place"] (defScope s_fars_from) := ⟨rfl, rfl, rfl, by decide +kernel, rfl, by decide +kernel, by decide +kernel⟩
theorem ok_fars (T : Tx K mg) : Has P w K mg base (He.ga K "fars_from") 1 ["leads", "place"] spFars := by
  obtain ⟨fd, F⟩ := T.d_fars_from
  refine ⟨⟨fd, F.ok sc_fars_from (fun vs H Q E h => ?_) (fun cdv A outer s H vs Q E hr h => ?_), F.bindsN fun _ _ _ _ _ _ us hl => match us, hl with | [_, _], _ => rfl⟩, F.kp⟩
  · obtain ⟨ll, a, n, E, G, rfl, _⟩ := h
    rfl
  · obtain ⟨ll, a, n, E, G, rfl, LA, hE, n8, an, h⟩ := h
    refine ⟨_, PSs.nox (pss_cons (ps_set (i := 2) sc_fars_from.nd rfl (Or.inl rfl) (pe_op op_rep (pe_lst (pa_cons pe_non pa_nil)) (pe_callB (lenK (K := K)) (by rfl) T.free_len (by decide +kernel) (pa_cons (pv 0) pa_nil))))
      (pss_cons (ps_asg pe_int (pg_sub (pv 2) (pv 1) set_list))
      (pss_cons (ps_set (i := 3) sc_fars_from.nd rfl (Or.inl rfl) (pe_lst (pa_cons (pv 1) pa_nil)))
      (pss_cons (ps_while PassesOwn.never (pt_truth (pv 3) (by intro _; rfl)) (pss_cons (ps_set (i := 4) sc_fars_from.nd rfl (Or.inl rfl) (pe_lst pa_nil))
      (pss_cons (ps_for PassesOwn.never rfl (piL (K := K) (pv 3)) (pg_name (i := 5) sc_fars_from.nd rfl (Or.inl rfl)) (pss_one (ps_for PassesOwn.never rfl (piL (K := K) (pe_ix (ixL (K := K)) (pv 0) (pv 5) (fun _ _ => rfl))) (pg_name (i := 6) sc_fars_from.nd rfl (Or.inl rfl)) (pss_one (ps_if (pt_cmpR op_isN (pe_ix (ixL (K := K)) (pv 2) (pv 6) (fun _ _ => rfl)) pe_non (nomark _)) (pss_cons (ps_asg (pe_op op_add (pe_ix (ixL (K := K)) (pv 2) (pv 5) (fun _ _ => rfl)) pe_int) (pg_sub (pv 2) (pv 6) set_list))
      (pss_one (ps_expr (bmK (K := K) PySem.F.plainAttrs_list PySem.F.slot_list_append PySem.F.type_list_append mt_append (pv 4) (pa_cons (pv 6) pa_nil))))) pss_nil)))))
      (pss_one (ps_set (i := 3) sc_fars_from.nd rfl (Or.inl rfl) (pv 4))))))
      (pss_one (ps_ret (pv 2))))))), ?_⟩
    refine ⟨(by show 1 ≤ sizeLine; decide), fun l0 hl0 => ?_⟩
    have s0 : Same H (upd H l0 (.lst [.non])) := same_upd hl0
    refine ⟨_, rfl, ll, _, rfl, .inl (SqL.of (s0 _ _ LA.at_)), l0, _, _, rfl, rfl, upd_same, ?_, ?_, ?_, fun pf hpf => ?_⟩
    · rw [List.length_map]
      omega
    · rw [List.length_map, LA.len]
      omega
    · rw [List.length_map, LA.len]
      show 1 * (n : Int).toNat ≤ sizeLine
      exact Nat.le_trans (show 1 * (n : Int).toNat ≤ 8 by omega) (by decide)
    have Hf : H pf = none := s0.free hpf
    have ef : (List.replicate (((G.map fun g => V.ref g.1).length : Nat) : Int).toNat [V.non]).flatten = (List.replicate n (none : Option Nat)).map vO := by
      rw [List.length_map, LA.len, Int.toNat_natCast, rep_flat, List.map_replicate]
      rfl
    rw [ef]
    refine ⟨_, rfl, _, rfl, pf, _, _, a, rfl, rfl, upd_same, ixN_nat (by simp [an]), ?_⟩
    have e2 : ((List.replicate n (none : Option Nat)).map vO).set a (V.int 0) = ((List.replicate n (none : Option Nat)).set a (some 0)).map vO := by
      rw [List.map_set]
      rfl
    rw [e2]
    refine ⟨_, rfl, (by show 1 ≤ sizeLine; decide), fun pe hpe => ?_⟩
    have s1 : Same H (upd (upd (upd (upd H l0 (.lst [.non])) pf (.lst ((List.replicate n (none : Option Nat)).map vO))) pf (.lst (((List.replicate n (none : Option Nat)).set a (some 0)).map vO))) pe (.lst [vI a])) :=
      (same_mut (same_mut s0 Hf) Hf).trans (same_upd hpe)
    have Hpe : H pe = none := (same_mut (same_mut s0 Hf) Hf).free hpe
    have nfe : pf ≠ pe := fun z => by
      rw [← z, upd_same] at hpe
      cases hpe
    refine ⟨fun m σ H1 => ∃ (l : Nat) (fs : List (Option Nat)) (edge : List Nat) (pe : Addr) (v4 v5 v6 : Option V), σ = [some (.ref ll), some (vI a), some (.ref pf), some (.ref pe), v4, v5, v6] ∧ H1 pf = some (.lst (fs.map vO)) ∧ H1 pe = some (.lst (edge.map vI)) ∧ pf ≠ pe ∧ H pe = none ∧ Lev n E a l fs edge ∧ edge.length ≤ 64 ∧ m = fs.count none + (if edge = [] then 0 else 1) ∧ Same H H1,
      ⟨_, 0, _, [a], pe, none, none, none, rfl, ?_, upd_same, nfe, Hpe, lev_start an, by simp, rfl, s1⟩, ?_⟩
    · rw [upd_ne nfe, upd_same]
    rintro m σ H1 ⟨l, fs, edge, pe, v4, v5, v6, rfl, hf, he, nfe, Hpe, LV, le, rfl, s1⟩
    refine ⟨_, rfl, _, .inl ⟨_, SqL.of he, rfl⟩, ?_⟩
    cases edge with
    | nil => exact iteF ⟨_, rfl, h H1 pf fs hf Hf (LV.fars hE an) s1⟩
    | cons c0 cs =>
    refine iteT ?_
    generalize hed : c0 :: cs = edge at LV le he
    have ne : edge ≠ [] := by rw [← hed]; exact List.cons_ne_nil _ _
    refine ⟨fun σ' H' => ∃ (fs' : List (Option Nat)) (bey : List Nat) (pb : Addr) (v5 v6 : Option V), σ' = [some (.ref ll), some (vI a), some (.ref pf), some (.ref pb), some (.ref pb), v5, v6] ∧ H' pf = some (.lst (fs'.map vO)) ∧ H' pb = some (.lst (bey.map vI)) ∧ pf ≠ pb ∧ H pb = none ∧ Lev n E a (l + 1) fs' bey ∧ fs'.count none + bey.length = fs.count none ∧ bey.length ≤ 64 ∧ Same H H', ?_, ?_⟩
    · rintro σ' H' ⟨fs', bey, pb, w5, w6, rfl, g1, g2, g3, g4, g5, g6, g7, g8⟩
      refine ⟨_, ?_, l + 1, fs', bey, pb, _, w5, w6, rfl, g1, g2, g3, g4, g5, g7, rfl, g8⟩
      rw [if_neg ne]
      cases bey with
      | nil => simp at g6 ⊢; omega
      | cons x y => simp at g6 ⊢; omega
    refine ⟨Nat.zero_le _, fun pb hpb => ?_⟩
    have s2 : Same H1 (upd H1 pb (.lst [])) := same_upd hpb
    have nfb : pf ≠ pb := ne_of_none hf hpb
    have neb : pe ≠ pb := ne_of_none he hpb
    have Hpb : H pb = none := s1.free hpb
    refine ⟨_, rfl, pe, rfl, ⟨_, SqL.of (s2 _ _ he)⟩, for_list (K := K) (a := pe) (xs := edge.map vI) (fun i σ H2 => ∃ (fs' : List (Option Nat)) (bey done : List Nat) (v5 v6 : Option V), σ = [some (.ref ll), some (vI a), some (.ref pf), some (.ref pe), some (.ref pb), v5, v6] ∧ H2 pf = some (.lst (fs'.map vO)) ∧ H2 pb = some (.lst (bey.map vI)) ∧ H2 pe = some (.lst (edge.map vI)) ∧ Mid n E l fs edge done fs' bey ∧ (∀ c o, c ∈ edge.take i → (c, o) ∈ E → o ∈ done) ∧ Same H H2)
      ⟨fs, [], [], v5, v6, rfl, s2 _ _ hf, upd_same, s2 _ _ he, mid_start LV.len, by simp, s1.trans s2⟩ (fun i σ H2 _ ⟨_, _, _, _, _, _, _, _, g, _⟩ => SqL.of g) ?_ ?_⟩
    · rintro i x σ H2 hx ⟨fs', bey, done, v5, v6, rfl, hf2, hb2, he2, MD, dn, s3⟩
      obtain ⟨c, hc, rfl⟩ : ∃ c, edge[i]? = some c ∧ vI c = x := by
        rw [List.getElem?_map] at hx
        cases e : edge[i]? with
        | none => rw [e] at hx; cases hx
        | some c => rw [e] at hx; exact ⟨c, rfl, Option.some.inj hx⟩
      have mc : c ∈ edge := List.mem_of_getElem? hc
      have fc : fs[c]? = some (some l) := (LV.edge_ c).1 mc
      have cn : c < n := by
        rw [← LV.len]
        exact (List.getElem?_eq_some_iff.mp fc).1
      obtain ⟨g, hg⟩ : ∃ g, G[c]? = some g := ⟨_, List.getElem?_eq_getElem (by rw [LA.len]; exact cn)⟩
      have LA2 := LA.same s3
      obtain ⟨hgl, gl, gE⟩ := LA2.each c g hg
      have et : edge.take (i + 1) = edge.take i ++ [c] := by
        rw [List.take_add_one, hc]
        rfl
      refine ⟨_, rfl, _, rfl, ll, _, _, _, rfl, rfl, SqL.of LA2.at_, atI_nat (get_map hg), g.1, rfl, ⟨_, SqL.of hgl⟩, for_list (K := K) (a := g.1) (xs := g.2.map vI) (fun j σ H3 => ∃ (fs' : List (Option Nat)) (bey done' : List Nat) (v6 : Option V), σ = [some (.ref ll), some (vI a), some (.ref pf), some (.ref pe), some (.ref pb), some (vI c), v6] ∧ H3 pf = some (.lst (fs'.map vO)) ∧ H3 pb = some (.lst (bey.map vI)) ∧ H3 pe = some (.lst (edge.map vI)) ∧ Mid n E l fs edge done' fs' bey ∧ (∀ o, o ∈ done → o ∈ done') ∧ (∀ o, o ∈ g.2.take j → o ∈ done') ∧ Same H H3)
        ⟨fs', bey, done, v6, rfl, hf2, hb2, he2, MD, fun _ z => z, by simp, s3⟩ (fun j σ H3 _ ⟨_, _, _, _, _, _, _, _, _, _, _, s4⟩ => SqL.of ((LA.same s4).each c g hg).1) ?_ ?_⟩
      · rintro j x σ H3 hx ⟨fs3, bey3, done3, v6, rfl, hf3, hb3, he3, MD3, d1, d2, s4⟩
        obtain ⟨o, ho, rfl⟩ : ∃ o, g.2[j]? = some o ∧ vI o = x := by
          rw [List.getElem?_map] at hx
          cases e : g.2[j]? with
          | none => rw [e] at hx; cases hx
          | some o => rw [e] at hx; exact ⟨o, rfl, Option.some.inj hx⟩
        have mo : (c, o) ∈ E := (gE o).1 (List.mem_of_getElem? ho)
        have on : o < fs3.length := by
          rw [MD3.len]
          exact (hE _ mo).2.1
        have eo : fs3[o]? = some fs3[o] := List.getElem?_eq_getElem on
        generalize fs3[o] = d at eo
        have et2 : g.2.take (j + 1) = g.2.take j ++ [o] := by
          rw [List.take_add_one, ho]
          rfl
        refine ⟨_, rfl, _, rfl, pf, _, _, _, rfl, rfl, SqL.of hf3, atI_nat (get_map eo), rfl, _, rfl, ?_⟩
        cases d with
        | some d =>
          refine iteF ⟨fs3, bey3, done3 ++ [o], _, rfl, hf3, hb3, he3, MD3.hit eo, fun o' ho' => List.mem_append_left _ (d1 o' ho'), fun o' ho' => ?_, s4⟩
          rw [et2] at ho'
          rcases List.mem_append.mp ho' with z | z
          · exact List.mem_append_left _ (d2 o' z)
          · exact List.mem_append_right _ z
        | none =>
          refine iteT ?_
          have fc3 : fs3[c]? = some (some l) := MD3.old c l fc
          refine ⟨_, rfl, _, rfl, pf, _, _, _, rfl, rfl, SqL.of hf3, atI_nat (get_map fc3), _, _, rfl, rfl, _, rfl, _, rfl, pf, _, _, o, rfl, rfl, hf3, ixN_nat (by simpa using on), ?_⟩
          have ez : (fs3.map vO).set o (V.int (((l : Nat) : Int) + 1)) = (fs3.set o (some (l + 1))).map vO := by
            rw [List.map_set]
            rfl
          rw [ez]
          have hb4 : (upd H3 pf (.lst ((fs3.set o (some (l + 1))).map vO))) pb = some (.lst (bey3.map vI)) := by
            rw [upd_ne nfb.symm]
            exact hb3
          have b64 : bey3.length ≤ 64 := by
            have c1 := MD3.cnt
            have c2 : fs.count none ≤ fs.length := List.count_le_length
            rw [LV.len] at c2
            omega
          refine ⟨_, rfl, .inl ⟨rfl, _, SqL.of hb4⟩, _, rfl, pb, _, _, rfl, rfl, hb4, ?_, ?_⟩
          · rw [List.length_map]
            exact Nat.lt_of_le_of_lt b64 (by decide)
          refine ⟨fs3.set o (some (l + 1)), bey3 ++ [o], done3 ++ [o], _, rfl, ?_, ?_, ?_, MD3.put LV.len eo mc mo, fun o' ho' => List.mem_append_left _ (d1 o' ho'), fun o' ho' => ?_, same_mut (same_mut s4 Hf) Hpb⟩
          · rw [upd_ne nfb, upd_same]
          · rw [upd_same, List.map_append]
            rfl
          · rw [upd_ne neb, upd_ne nfe.symm]
            exact he3
          · rw [et2] at ho'
            rcases List.mem_append.mp ho' with z | z
            · exact List.mem_append_left _ (d2 o' z)
            · exact List.mem_append_right _ z
      · rintro σ H3 ⟨fs3, bey3, done3, v6, rfl, hf3, hb3, he3, MD3, d1, d2, s4⟩
        rw [List.length_map, List.take_length] at d2
        refine ⟨fs3, bey3, done3, _, _, rfl, hf3, hb3, he3, MD3, fun c' o hc' ho => ?_, s4⟩
        rw [et] at hc'
        rcases List.mem_append.mp hc' with z | z
        · exact d1 o (dn c' o z ho)
        · rw [List.mem_singleton.mp z] at ho
          exact d2 o ((gE o).2 ho)
    · rintro σ H2 ⟨fs', bey, done, v5, v6, rfl, hf2, hb2, he2, MD, dn, s3⟩
      rw [List.length_map, List.take_length] at dn
      have c1 := MD.cnt
      have c2 : fs.count none ≤ fs.length := List.count_le_length
      rw [LV.len] at c2
      exact ⟨_, rfl, fs', bey, pb, _, _, rfl, hf2, hb2, nfb, Hpb, MD.next LV hE an dn, c1, by omega, s3⟩
end
end RL
namespace RL
open PySem PySem.Spec PyProof.Rows L2 RLM
section
variable {P : Program} {w : World} {K : PySem.W.Frag} {mg : Str → Option Value} {base : Heap}
def spInit (K : PySem.W.Frag) : Sp := fun vs H Q _ => ∃ (H0 : Hp) (x dx c l : Addr) (n : Nat) (L : List (Addr × Nat × Nat)), vs = [.ref x, vI n, .ref l] ∧ Same H0 H ∧ H0 x = none ∧ H x = some (.ins (cB K) dx []) ∧ (∃ ys, H0 c = some (.lst ys)) ∧
  H0 l = some (.lst (L.map fun q => V.ref q.1)) ∧ (∀ q ∈ L, H0 q.1 = some (.tup [vI q.2.1, vI q.2.2])) ∧ WaysOk n L ∧ 1 ≤ n ∧ n ≤ 8 ∧ L.length < 63 ∧
  ∀ (H' : Hp) (E : List (Nat × Nat)), BoardAt K c H' x n E → (∀ e, e ∈ E ↔ e ∈ L.map (·.2)) → E.Pairwise lexLt → Same H0 H' → Q .non H'
theorem sc_Board_init : FnScope ["self", "many", "ways", "place", "one", "other"] ["self", "many", "ways"] (defScope s_Board_init) := ⟨rfl, rfl, rfl, by decide +kernel, rfl, by decide +kernel, by decide +kernel⟩
theorem ok_init (T : Tx K mg) : Has P w K mg base (mB K "__init__") 4 ["self", "many", "ways"] (spInit K) := by
  obtain ⟨⟨fd_is_between, F_is_between, b_is_between⟩, kp_is_between⟩ := ok_is_between (P := P) (w := w) (base := base) T
  obtain ⟨⟨fd_rising_ways, F_rising_ways, b_rising_ways⟩, kp_rising_ways⟩ := ok_rising (P := P) (w := w) (base := base) T
  obtain ⟨⟨fd_fars_from, F_fars_from, b_fars_from⟩, kp_fars_from⟩ := ok_fars (P := P) (w := w) (base := base) T
  obtain ⟨fd, F⟩ := T.d_Board_init
  have hb : Binds K fd ["self", "many", "ways"] [] := by
    obtain ⟨ds, e, b⟩ := F.binds1 (ps := ["self", "many", "ways"]) 3 1 (List.cons_ne_nil _ _) rfl (fun T0 kV doc pm an cdv ct us its l1 l2 => match us, its, l1, l2 with
      | [_, _, _], [_], _, _ => ⟨_, rfl, rfl⟩)
    cases e
    exact b
  refine ⟨⟨fd, F.ok sc_Board_init (fun vs H Q E h => ?_) (fun cdv A outer s H vs Q E hr h => ?_), hb⟩, F.kp⟩
  · obtain ⟨H0, x, dx, c, l, n, L, rfl, _⟩ := h
    rfl
  · obtain ⟨H0, x, dx, c, l, n, L, rfl, s0, x0, hx, hc, hl, tL, W, n1, n8, len, h⟩ := h
    have hr_is_between : Room 2 _ := hr.mono (by decide)
    have hr_rising_ways : Room 3 _ := hr.mono (by decide)
    have hr_fars_from : Room 1 _ := hr.mono (by decide)
    refine ⟨_, PSs.nox (pss_cons (ps_if (pt_not (pt_val (pe_call F_is_between hr_is_between rfl T.glo_is_between kp_is_between b_is_between .nil pass0 (pa_cons (pv 1) (pa_cons pe_int (pa_cons (pe_glob (v := .int 8) rfl T.glob_MOST_PLACES.choose_spec ⟨_, rfl⟩) pa_nil)))))) (pss_one ps_never) pss_nil)
      (pss_cons (ps_fld (pv 0) (pv 1) rfl)
      (pss_cons (ps_fld (pv 0) (pe_call F_rising_ways hr_rising_ways rfl T.glo_rising_ways kp_rising_ways b_rising_ways .nil pass0 (pa_cons (pv 1) (pa_cons (pv 2) pa_nil))) rfl)
      (pss_cons (ps_fld (pv 0) (pe_lc (own := [("place", 3)]) (g := (gName 3)) (tt := tYes) rfl sc_Board_init.nd (pi_range1 (by rfl) T.free_range (pa_cons (pv 1) pa_nil)) (blkOk_by (by kernel_rfl)) (fun _ _ _ _ _ => (pg_name (i := 3) sc_Board_init.nd rfl (Or.inr rfl))) (fun _ _ _ _ _ => pts_nil) (fun _ _ _ _ _ => (pe_lc (own := [("one", 4), ("other", 5)]) rfl sc_Board_init.nd (piL (K := K) (fldK (K := K) (pv 0) rfl)) (blkOk_by (by kernel_rfl)) (fun _ _ _ _ _ => (pgT (K := K) (n := 2) rfl (pgs_cons (pg_name (i := 4) sc_Board_init.nd rfl (Or.inl rfl)) (pgs_cons (pg_name (i := 5) sc_Board_init.nd rfl (Or.inl rfl)) pgs_nil)))) (fun _ _ _ _ _ => (pts_one (pt_cmpR op_eq (pv 4) (pv 3) (nomark _)))) (fun _ _ _ _ _ => (pv 5))))) rfl)
      (pss_one (ps_fld (pv 0) (pe_lc (own := [("place", 3)]) (g := (gName 3)) (tt := tYes) rfl sc_Board_init.nd (pi_range1 (by rfl) T.free_range (pa_cons (pv 1) pa_nil)) (blkOk_by (by kernel_rfl)) (fun _ _ _ _ _ => (pg_name (i := 3) sc_Board_init.nd rfl (Or.inl rfl))) (fun _ _ _ _ _ => pts_nil) (fun _ _ _ _ _ => (pe_call F_fars_from hr_fars_from rfl T.glo_fars_from kp_fars_from b_fars_from .nil pass0 (pa_cons (fldK (K := K) (pv 0) rfl) (pa_cons (pv 3) pa_nil))))) rfl)))))), ?_⟩
    refine ⟨_, rfl, _, _, _, rfl, _, rfl, iteNS ⟨by omega, by omega⟩ ?_⟩
    refine ⟨_, rfl, _, rfl, x, _, dx, _, rfl, hx, T.cl, T.n_many, (by show 0 < 1000; decide), ?_⟩
    have s1 : Same H0 (upd H x (.ins (cB K) dx (putF "many" (vI n) []))) := same_mut s0 x0
    have hx1 : (upd H x (.ins (cB K) dx (putF "many" (vI n) []))) x = some (.ins (cB K) dx (putF "many" (vI n) [])) := upd_same
    generalize upd H x (.ins (cB K) dx (putF "many" (vI n) [])) = H1 at s1 hx1
    refine ⟨_, rfl, _, rfl, n, l, L, rfl, s1 _ _ hl, fun q hq => s1 _ _ (tL q hq), W, n8, len, fun H2 p M hp tM mM sM s2 hpn => ?_⟩
    have hx2 := s2 _ _ hx1
    have npx : p ≠ x := ne_of hp hx2 (by intro z; cases z)
    refine ⟨_, rfl, x, _, dx, _, rfl, hx2, T.cl, T.n_pairs, (by show 1 < 1000; decide), ?_⟩
    have hc1 : ∃ ys, H1 c = some (.lst ys) := hc.imp fun ys z => s1 _ _ z
    have npc : p ≠ c := fun z => by
      obtain ⟨ys, hc1⟩ := hc1
      rw [← z, hpn] at hc1
      cases hc1
    have hx3 : (upd H2 x (.ins (cB K) dx (putF "pairs" (.ref p) (putF "many" (vI n) [])))) x = some (.ins (cB K) dx (putF "pairs" (.ref p) (putF "many" (vI n) []))) := upd_same
    have hp3 : (upd H2 x (.ins (cB K) dx (putF "pairs" (.ref p) (putF "many" (vI n) [])))) p = some (.lst (M.map fun q => V.ref q.1)) := by
      rw [upd_ne npx]
      exact hp
    have tM3 : ∀ q ∈ M, (upd H2 x (.ins (cB K) dx (putF "pairs" (.ref p) (putF "many" (vI n) [])))) q.1 = some (.tup [vI q.2.1, vI q.2.2]) := fun q hq => by
      rw [upd_ne (ne_of (tM q hq) hx2 (by intro z; cases z))]
      exact tM q hq
    have s3 : Same H0 (upd H2 x (.ins (cB K) dx (putF "pairs" (.ref p) (putF "many" (vI n) [])))) := same_mut (s1.trans s2) x0
    generalize upd H2 x (.ins (cB K) dx (putF "pairs" (.ref p) (putF "many" (vI n) []))) = H3 at hx3 hp3 tM3 s3
    have nd : (M.map (·.2)).Nodup := sM.imp fun {a b} z e => by
      unfold lexLt at z
      rw [e] at z
      omega
    have lM : M.length ≤ 64 := by
      have q1 : (M.map (·.2)).length ≤ (L.map (·.2)).length := nd.length_le_of_subset fun e he => (mM e).1 he
      rw [List.length_map, List.length_map] at q1
      omega
    have on : On n (M.map (·.2)) := fun e he => by
      obtain ⟨q, hq, rfl⟩ := List.mem_map.mp ((mM e).1 he)
      exact W.2.1 q hq
    refine ⟨_, rfl, (n : Int), rfl, by omega, by omega, fun D hD => ?_⟩
    have Dc : D ≠ c := fun z => by
      obtain ⟨ys, hc⟩ := hc
      rw [z, s3 _ _ hc] at hD
      cases hD
    refine lc_range (lo := 0) (n := ((n : Nat) : Int).toNat) (fun i H4 => ∃ G : List (Addr × List Nat), G.length = i ∧ H4 D = some (.lst (G.map fun g => V.ref g.1)) ∧ (∀ (c : Nat) (g : Addr × List Nat), G[c]? = some g → g.1 ≠ D ∧ H4 g.1 = some (.lst (g.2.map vI)) ∧ g.2.length ≤ 64 ∧ ∀ o, o ∈ g.2 ↔ (c, o) ∈ M.map (·.2)) ∧ Same H3 H4)
      ⟨[], rfl, upd_same, fun c g e => (by simp at e), same_upd hD⟩ ?_ ?_
    · rintro i H4 hi ⟨G, lG, hG, eG, s4⟩
      refine ⟨rfl, ?_⟩
      unfold tYes
      refine iteT ?_
      refine ⟨_, rfl, x, _, dx, _, _, rfl, s4 _ _ hx3, T.cl, T.n_pairs, rfl, p, rfl, ⟨_, SqL.of (s4 _ _ hp3)⟩, fun D2 hD2 => ?_⟩
      refine lc_list (K := K) (a := p) (xs := M.map fun q => V.ref q.1) (fun j H5 => ∃ os : List Nat, H5 D2 = some (.lst (os.map vI)) ∧ (∀ o, o ∈ os ↔ (i, o) ∈ (M.take j).map (·.2)) ∧ os.length ≤ j ∧ Same H4 H5)
        ⟨[], upd_same, by simp, Nat.le_refl _, same_upd hD2⟩ (fun j H5 _ ⟨_, _, _, _, s5⟩ => SqL.of (s5 _ _ (s4 _ _ hp3))) ?_ ?_
      · rintro j y H5 hy ⟨os, ho, mo, lo, s5⟩
        obtain ⟨q, hq, rfl⟩ : ∃ q, M[j]? = some q ∧ V.ref q.1 = y := by
          rw [List.getElem?_map] at hy
          cases e : M[j]? with
          | none => rw [e] at hy; cases hy
          | some q => rw [e] at hy; exact ⟨q, rfl, Option.some.inj hy⟩
        have jM : j < M.length := (List.getElem?_eq_some_iff.mp hq).1
        have et : M.take (j + 1) = M.take j ++ [q] := by
          rw [List.take_add_one, hq]
          rfl
        have tq := s5 _ _ (s4 _ _ (tM3 q (List.mem_of_getElem? hq)))
        refine ⟨q.1, _, rfl, SqT.of tq, rfl, _, _, rfl, _, _, rfl, rfl, rfl, ?_⟩
        refine ⟨_, rfl, _, rfl, rfl, _, rfl, ?_⟩
        refine ite2 (fun z => ?_) (fun z => ?_)
        · have z1 : V.int (q.2.1 : Nat) = V.int (0 + (i : Int)) := of_decide_eq_true z
          have z2 : q.2.1 = i := by
            injection z1 with z1
            omega
          refine ⟨_, rfl, _, ho, ?_, os ++ [q.2.2], ?_, fun o => ?_, ?_, same_mut s5 hD2⟩
          · rw [List.length_map]
            exact Nat.lt_of_le_of_lt (show os.length ≤ 64 by omega) (by decide)
          · rw [upd_same, List.map_append]
            rfl
          · rw [et, List.map_append, List.mem_append, List.mem_append, mo o]
            have : o ∈ [q.2.2] ↔ (i, o) ∈ List.map (fun x => x.2) [q] := by
              simp only [List.mem_singleton, List.map_cons, List.map_nil]
              constructor
              · intro e
                rw [e, ← z2]
              · intro e
                rw [← e]
            rw [this]
          · rw [List.length_append]
            simp
            omega
        · have z2 : q.2.1 ≠ i := fun e => z (decide_eq_true (by
            show V.int (q.2.1 : Nat) = V.int (0 + (i : Int))
            rw [e, Int.zero_add]))
          refine ⟨os, ho, fun o => ?_, by omega, s5⟩
          rw [et, List.map_append, List.mem_append, mo o]
          constructor
          · exact .inl
          · rintro (e | e)
            · exact e
            · have : (i, o) = q.2 := by simpa using e
              exact absurd (congrArg Prod.fst this).symm z2
      · rintro H5 ⟨os, ho, mo, lo, s5⟩
        rw [List.length_map] at lo mo
        rw [List.take_length] at mo
        have D2D : D2 ≠ D := fun z => by
          rw [z, hG] at hD2
          cases hD2
        refine ⟨_, s5 _ _ hG, ?_, G ++ [(D2, os)], by simp [lG], ?_, fun c' g hg => ?_, same_mut (s4.trans s5) hD⟩
        · rw [List.length_map]
          exact Nat.lt_of_le_of_lt (show G.length ≤ 8 by omega) (by decide)
        · rw [upd_same, List.map_append]
          rfl
        · rw [List.getElem?_append] at hg
          split at hg
          · rename_i lt
            obtain ⟨gD, g1, g2, g3⟩ := eG c' g hg
            rw [upd_ne gD]
            exact ⟨gD, s5 _ _ g1, g2, g3⟩
          · rename_i ge
            have e0 : c' - G.length = 0 := by
              cases h0 : c' - G.length with
              | zero => rfl
              | succ k => rw [h0] at hg; simp at hg
            rw [e0] at hg
            have eg : (D2, os) = g := by simpa using hg
            subst eg
            have ec : c' = i := by omega
            subst ec
            rw [upd_ne D2D]
            exact ⟨D2D, ho, (show os.length ≤ 64 by omega), mo⟩
    · rintro H4 ⟨G, lG, hG, eG, s4⟩
      have hx4 := s4 _ _ hx3
      refine ⟨_, rfl, x, _, dx, _, rfl, hx4, T.cl, T.n_leads, (by show 2 < 1000; decide), ?_⟩
      have nDx : D ≠ x := ne_of hG hx4 (by intro z; cases z)
      have hx5 : (upd H4 x (.ins (cB K) dx (putF "leads" (.ref D) (putF "pairs" (.ref p) (putF "many" (vI n) []))))) x = some (.ins (cB K) dx (putF "leads" (.ref D) (putF "pairs" (.ref p) (putF "many" (vI n) [])))) := upd_same
      have LA : LeadsAt (upd H4 x (.ins (cB K) dx (putF "leads" (.ref D) (putF "pairs" (.ref p) (putF "many" (vI n) []))))) D n (M.map (·.2)) G := by
        refine ⟨by rw [upd_ne nDx]; exact hG, by omega, fun c' g hg => ?_⟩
        obtain ⟨_, g1, g2, g3⟩ := eG c' g hg
        rw [upd_ne (ne_of g1 hx4 (by intro z; cases z))]
        exact ⟨g1, g2, g3⟩
      have hp5 : (upd H4 x (.ins (cB K) dx (putF "leads" (.ref D) (putF "pairs" (.ref p) (putF "many" (vI n) []))))) p = some (.lst (M.map fun q => V.ref q.1)) := by
        rw [upd_ne npx]
        exact s4 _ _ hp3
      have tM5 : ∀ q ∈ M, (upd H4 x (.ins (cB K) dx (putF "leads" (.ref D) (putF "pairs" (.ref p) (putF "many" (vI n) []))))) q.1 = some (.tup [vI q.2.1, vI q.2.2]) := fun q hq => by
        have g := s4 _ _ (tM3 q hq)
        rw [upd_ne (ne_of g hx4 (by intro z; cases z))]
        exact g
      have s5 : Same H0 (upd H4 x (.ins (cB K) dx (putF "leads" (.ref D) (putF "pairs" (.ref p) (putF "many" (vI n) []))))) := same_mut (s3.trans s4) x0
      generalize upd H4 x (.ins (cB K) dx (putF "leads" (.ref D) (putF "pairs" (.ref p) (putF "many" (vI n) [])))) = H5 at hx5 LA hp5 tM5 s5
      refine ⟨_, rfl, (n : Int), rfl, by omega, by omega, fun D3 hD3 => ?_⟩
      have D3c : D3 ≠ c := fun z => by
        obtain ⟨ys, hc⟩ := hc
        rw [z, s5 _ _ hc] at hD3
        cases hD3
      refine lc_range (lo := 0) (n := ((n : Nat) : Int).toNat) (fun i H6 => ∃ U : List (Addr × List (Option Nat)), U.length = i ∧ H6 D3 = some (.lst (U.map fun g => V.ref g.1)) ∧ (∀ (a : Nat) (q : Addr × List (Option Nat)), U[a]? = some q → q.1 ≠ D3 ∧ H6 q.1 = some (.lst (q.2.map vO)) ∧ q.1 ≠ c ∧ Fars n (M.map (·.2)) a q.2) ∧ Same H5 H6)
        ⟨[], rfl, upd_same, fun c g e => (by simp at e), same_upd hD3⟩ ?_ ?_
      · rintro i H6 hi ⟨U, lU, hU, eU, s6⟩
        refine ⟨rfl, ?_⟩
        unfold tYes
        refine iteT ?_
        refine ⟨_, rfl, x, _, dx, _, _, rfl, s6 _ _ hx5, T.cl, T.n_leads, rfl, _, rfl, D, i, n, _, G, (by rw [Int.zero_add]; rfl), LA.same s6, on, n8, by omega, fun H7 pp fs hpp hpn7 FF s7 => ?_⟩
        have ppD : pp ≠ D3 := fun z => by
          rw [z, hU] at hpn7
          cases hpn7
        have ppc : pp ≠ c := fun z => by
          obtain ⟨ys, hc⟩ := hc
          rw [z, s6 _ _ (s5 _ _ hc)] at hpn7
          cases hpn7
        refine ⟨_, s7 _ _ hU, ?_, U ++ [(pp, fs)], by simp [lU], ?_, fun a q hq => ?_, same_mut (s6.trans s7) hD3⟩
        · rw [List.length_map]
          exact Nat.lt_of_le_of_lt (show U.length ≤ 8 by omega) (by decide)
        · rw [upd_same, List.map_append]
          rfl
        · rw [List.getElem?_append] at hq
          split at hq
          · obtain ⟨gD, g1, g2, g3⟩ := eU a q hq
            rw [upd_ne gD]
            exact ⟨gD, s7 _ _ g1, g2, g3⟩
          · rename_i ge
            have e0 : a - U.length = 0 := by
              cases h0 : a - U.length with
              | zero => rfl
              | succ k => rw [h0] at hq; simp at hq
            rw [e0] at hq
            have eg : (pp, fs) = q := by simpa using hq
            subst eg
            have ec : a = i := by omega
            subst ec
            rw [upd_ne ppD]
            exact ⟨ppD, hpp, ppc, FF⟩
      · rintro H6 ⟨U, lU, hU, eU, s6⟩
        have hx6 := s6 _ _ hx5
        refine ⟨_, rfl, x, _, dx, _, rfl, hx6, T.cl, T.n_fars, (by show 3 < 1000; decide), ?_⟩
        have off : ∀ a o, H6 a = some o → (∀ d fs, o ≠ .ins (cB K) d fs) → (upd H6 x (.ins (cB K) dx (putF "fars" (.ref D3) (putF "leads" (.ref D) (putF "pairs" (.ref p) (putF "many" (vI n) [])))))) a = some o := fun a o e k => by
          have ne : a ≠ x := fun z => by
            rw [z, hx6] at e
            exact k _ _ (Option.some.inj e).symm
          rw [upd_ne ne]
          exact e
        refine h _ (M.map (·.2)) ⟨⟨dx, p, D, D3, M, _, U, upd_same, ⟨off _ _ (s6 _ _ hp5) (by intro d f z; cases z), npc, fun q hq => off _ _ (s6 _ _ (tM5 q hq)) (by intro d f z; cases z)⟩, rfl,
          off _ _ (s6 _ _ LA.at_) (by intro d f z; cases z), Dc, by rw [List.length_map]; exact LA.len, off _ _ hU (by intro d f z; cases z), D3c, by omega, fun a q hq => ?_⟩, n1, n8, on, nd⟩ mM sM (same_mut (s5.trans s6) x0)
        obtain ⟨_, g1, g2, g3⟩ := eU a q hq
        exact ⟨off _ _ g1 (by intro d f z; cases z), g2, g3⟩
end
end RL
namespace RL
open PySem PySem.Spec PyProof.Rows L2 RLM
section
variable {P : Program} {w : World} {K : PySem.W.Frag} {mg : Str → Option Value} {base : Heap}
def spCheck (K : PySem.W.Frag) : Sp := fun vs H Q _ => ∃ (c x : Addr) (n a : Nat) (E : List (Nat × Nat)), vs = [.ref x, vI a] ∧ BoardAt K c H x n E ∧ a < n ∧ Q .non H
theorem sc_Board_check_place : FnScope ["self", "place"] ["self", "place"] (defScope s_Board_check_place) := ⟨rfl, rfl, rfl, by decide +kernel, rfl, by decide +kernel, by decide +kernel⟩
theorem ok_check (T : Tx K mg) : Has P w K mg base (mB K "check_place") 3 ["self", "place"] (spCheck K) := by
  obtain ⟨⟨fd_is_between, F_is_between, b_is_between⟩, kp_is_between⟩ := ok_is_between (P := P) (w := w) (base := base) T
  obtain ⟨fd, F⟩ := T.d_Board_check_place
  refine ⟨⟨fd, F.ok sc_Board_check_place (fun vs H Q E h => ?_) (fun cdv A outer s H vs Q E hr h => ?_), F.bindsN fun _ _ _ _ _ _ us hl => match us, hl with | [_, _], _ => rfl⟩, F.kp⟩
  · obtain ⟨c, x, n, a, E, rfl, _⟩ := h
    rfl
  · obtain ⟨c, x, n, a, E, rfl, B, an, h⟩ := h
    have hr_is_between : Room 2 _ := hr.mono (by decide)
    refine ⟨_, PSs.nox (pss_one (ps_if (pt_not (pt_val (pe_call F_is_between hr_is_between rfl T.glo_is_between kp_is_between b_is_between .nil pass0 (pa_cons (pv 1) (pa_cons pe_int (pa_cons (pe_op op_sub (fldK (K := K) (pv 0) rfl) pe_int) pa_nil)))))) (pss_one ps_never) pss_nil)), ?_⟩
    obtain ⟨dx, lp, ll, lf, hx⟩ := B.obj
    exact ⟨_, rfl, _, rfl, x, _, dx, _, _, rfl, hx, T.cl, T.n_many, bf_many _ _ _ _, _, _, rfl, rfl, _, _, _, rfl, _, rfl, iteNS ⟨by omega, by omega⟩ h⟩
def spLen (K : PySem.W.Frag) : Sp := fun vs H Q _ => ∃ (c x : Addr) (n : Nat) (E : List (Nat × Nat)), vs = [.ref x] ∧ BoardAt K c H x n E ∧ Q (vI n) H
theorem sc_Board_len : FnScope ["self"] ["self"] (defScope s_Board_len) := ⟨rfl, rfl, rfl, by decide +kernel, rfl, by decide +kernel, by decide +kernel⟩
theorem ok_len (T : Tx K mg) : Has P w K mg base (mB K "__len__") 1 ["self"] (spLen K) := by
  obtain ⟨fd, F⟩ := T.d_Board_len
  refine ⟨⟨fd, F.ok sc_Board_len (fun vs H Q E h => ?_) (fun cdv A outer s H vs Q E hr h => ?_), F.bindsN fun _ _ _ _ _ _ us hl => match us, hl with | [_], _ => rfl⟩, F.kp⟩
  · obtain ⟨c, x, n, E, rfl, _⟩ := h
    rfl
  · obtain ⟨c, x, n, E, rfl, B, h⟩ := h
    refine ⟨_, PSs.nox (pss_one (ps_ret (pe_callB (lenK (K := K)) (by rfl) T.free_len (by decide +kernel) (pa_cons (fldK (K := K) (pv 0) rfl) pa_nil)))), ?_⟩
    obtain ⟨dx, lp, ll, lf, L, ls, F, hx, h2, h3, h4, h5, h6, _⟩ := B.ex
    refine ⟨_, rfl, x, _, dx, _, _, rfl, hx, T.cl, T.n_leads, bf_leads _ _ _ _, ll, _, rfl, .inl (SqL.of h4), ?_⟩
    rw [h6]
    exact h
def spWithin (K : PySem.W.Frag) : Sp := fun vs H Q _ => ∃ (c x : Addr) (n a : Nat) (m : Int) (E : List (Nat × Nat)), vs = [.ref x, vI a, .int m] ∧ BoardAt K c H x n E ∧ a < n ∧ ∀ H' t, H' t = some (.tup ((lotP n (Near E m a)).map vI)) → Same H H' → Q (.ref t) H'
theorem sc_Board_within : FnScope ["self", "place", "most", "other", "far"] ["self", "place", "most"] (defScope s_Board_within) := ⟨rfl, rfl, rfl, by decide +kernel, rfl, by decide +kernel, by decide +kernel⟩
theorem ok_within (T : Tx K mg) : Has P w K mg base (mB K "within") 4 ["self", "place", "most"] (spWithin K) := by
  obtain ⟨⟨fd_check_place, F_check_place, b_check_place⟩, kp_check_place⟩ := ok_check (P := P) (w := w) (base := base) T
  obtain ⟨fd, F⟩ := T.d_Board_within
  refine ⟨⟨fd, F.ok sc_Board_within (fun vs H Q E h => ?_) (fun cdv A outer s H vs Q E hr h => ?_), F.bindsN fun _ _ _ _ _ _ us hl => match us, hl with | [_, _, _], _ => rfl⟩, F.kp⟩
  · obtain ⟨c, x, n, a, m, E, rfl, _⟩ := h
    rfl
  · obtain ⟨c, x, n, a, m, E, rfl, B, an, h⟩ := h
    have hr_check_place : Room 3 _ := hr.mono (by decide)
    refine ⟨_, PSs.nox (pss_cons (ps_expr (pe_meth (pv 0) T.cl T.m_check_place F_check_place hr_check_place b_check_place .nil pass0 (pa_cons (pv 1) pa_nil)))
      (pss_one (ps_ret (pe_callTy (tupK (K := K)) (by rfl) T.free_tuple (by decide +kernel) (pa_cons (pe_lc (own := [("other", 3), ("far", 4)]) rfl sc_Board_within.nd (piEnum (K := K) (by rfl) T.free_enumerate (pa_cons (pe_ix (ixL (K := K)) (fldK (K := K) (pv 0) rfl) (pv 1) (fun _ _ => rfl)) pa_nil)) (blkOk_by (by kernel_rfl)) (fun _ _ _ _ _ => (pgT (K := K) (n := 2) rfl (pgs_cons (pg_name (i := 3) sc_Board_within.nd rfl (Or.inl rfl)) (pgs_cons (pg_name (i := 4) sc_Board_within.nd rfl (Or.inl rfl)) pgs_nil)))) (fun _ _ _ _ _ => (pts_one (PW.pt (pw_and (pt_cmpR op_notN (pv 4) pe_non (nomark _)) (pw_and1 (pt_cmpR op_le (pv 4) (pv 2) (nomark _))))))) (fun _ _ _ _ _ => (pv 3))) pa_nil))))), ?_⟩
    obtain ⟨dx, lp, ll, lf, L, ls, U, hx, h2, h3, h4, h5, h6, hlf, lfc, lU, eU⟩ := B.ex
    refine ⟨_, rfl, x, dx, _, rfl, hx, bf_check _ _ _ _, _, rfl, c, x, n, a, E, rfl, B, an, ?_⟩
    obtain ⟨u, hu⟩ : ∃ u, U[a]? = some u := ⟨_, List.getElem?_eq_getElem (by rw [lU]; exact an)⟩
    obtain ⟨hul, uc, FF⟩ := eU a u hu
    refine ⟨_, rfl, x, _, dx, _, _, rfl, hx, T.cl, T.n_fars, bf_fars _ _ _ _, _, rfl, lf, _, _, _, rfl, rfl, SqL.of hlf, atI_nat (get_map hu), u.1, _, rfl, SqL.of hul, fun D hD => ?_⟩
    refine lc_it (walk_enum (K := K) (a := u.1) (xs := u.2.map vO)) (fun i H1 => ∃ ps : List Nat, H1 D = some (.lst (ps.map vI)) ∧ ps.Pairwise (· < ·) ∧ (∀ b, b ∈ ps ↔ b < i ∧ Near E m a b) ∧ ps.length ≤ i ∧ Same H H1)
      ⟨[], upd_same, List.Pairwise.nil, by simp, Nat.le_refl _, same_upd hD⟩ (fun i H1 _ ⟨_, _, _, _, _, s1⟩ => SqL.of (s1 _ _ hul)) ?_ ?_
    · rintro i y H1 H2 hi ⟨ps, hp, sp, mp, lp, s1⟩ ⟨t, y1, y2, rfl, ht, rfl, e1, e2⟩
      rw [List.length_map] at hi
      cases (Option.some.inj e1)
      have ed : u.2[i]? = some u.2[i] := List.getElem?_eq_getElem hi
      generalize u.2[i] = d at ed
      have ey : y2 = vO d := by
        have e3 : (u.2.map vO)[i]? = some y2 := e2
        rw [List.getElem?_map, ed] at e3
        exact (Option.some.inj e3).symm
      subst ey
      have s2 : Same H1 (upd H1 t (.tup [.int (i : Nat), vO d])) := same_upd ht
      have FN := FF.2 i d ed m
      have i8 : i < 8 := by
        have := B.hi
        rw [← FF.1] at this
        omega
      have hp2 := s2 _ _ hp
      have no : ¬ Near E m a i → ∃ ps : List Nat, (upd H1 t (.tup [.int (i : Nat), vO d])) D = some (.lst (ps.map vI)) ∧ ps.Pairwise (· < ·) ∧ (∀ b, b ∈ ps ↔ b < i + 1 ∧ Near E m a b) ∧ ps.length ≤ i + 1 ∧ Same H (upd H1 t (.tup [.int (i : Nat), vO d])) := fun nn => by
        refine ⟨ps, hp2, sp, fun b => ?_, by omega, s1.trans s2⟩
        rw [mp b]
        constructor
        · rintro ⟨z1, z2⟩
          exact ⟨by omega, z2⟩
        · rintro ⟨z1, z2⟩
          refine ⟨?_, z2⟩
          rcases Nat.lt_or_ge b i with k | k
          · exact k
          · exfalso
            have : b = i := by omega
            rw [this] at z2
            exact nn z2
      refine ⟨t, _, rfl, SqT.of upd_same, rfl, _, _, rfl, _, _, rfl, rfl, rfl, ?_⟩
      refine ⟨_, rfl, rfl, _, rfl, ?_⟩
      cases d with
      | none =>
        refine iteF (iteF ?_)
        refine no fun z => ?_
        obtain ⟨k, hk, _⟩ := FN.2 z
        cases hk
      | some k =>
        refine iteT ?_
        refine ⟨_, rfl, _, rfl, _, _, rfl, rfl, _, rfl, ?_⟩
        refine ite2 (fun z => ?_) (fun z => ?_)
        · have z1 : (k : Int) ≤ m := of_decide_eq_true z
          have nr : Near E m a i := FN.1 ⟨k, rfl, z1⟩
          refine ⟨_, rfl, _, hp2, ?_, ps ++ [i], ?_, ?_, fun b => ?_, ?_, same_mut (s1.trans s2) hD⟩
          · rw [List.length_map]
            exact Nat.lt_of_le_of_lt (show ps.length ≤ 8 by omega) (by decide)
          · rw [upd_same, List.map_append]
            rfl
          · rw [List.pairwise_append]
            refine ⟨sp, by simp, fun b hb b' hb' => ?_⟩
            rw [List.mem_singleton.mp hb']
            exact ((mp b).1 hb).1
          · rw [List.mem_append, mp b, List.mem_singleton]
            constructor
            · rintro (⟨z1, z2⟩ | z1)
              · exact ⟨by omega, z2⟩
              · rw [z1]
                exact ⟨by omega, nr⟩
            · rintro ⟨z1, z2⟩
              rcases Nat.lt_or_ge b i with k | k
              · exact .inl ⟨k, z2⟩
              · exact .inr (by omega)
          · rw [List.length_append]
            simp
            omega
        · refine no fun nr => z (decide_eq_true ?_)
          obtain ⟨k', hk, hk2⟩ := FN.2 nr
          cases hk
          exact hk2
    · rintro H1 ⟨ps, hp, sp, mp, lp, s1⟩
      rw [List.length_map, FF.1] at mp
      refine ⟨D, _, rfl, .inl ⟨SqL.of hp, fun t ht => ?_⟩⟩
      refine h _ t ?_ (s1.trans (same_upd ht))
      rw [upd_same, lotP_of sp mp]
end
end RL
namespace RL
open PySem PySem.Spec PyProof.Rows L2 RLM
/-! few ways -/
def allW : List (Nat × Nat) := (List.range 8).flatMap fun a => (List.range 8).filterMap fun b => if a = b then none else some (a, b)
theorem allW_len : allW.length = 56 := by decide +kernel
theorem mem_allW {e : Nat × Nat} (h1 : e.1 < 8) (h2 : e.2 < 8) (h3 : e.1 ≠ e.2) : e ∈ allW := by
  unfold allW
  rw [List.mem_flatMap]
  refine ⟨e.1, List.mem_range.mpr h1, List.mem_filterMap.mpr ⟨e.2, List.mem_range.mpr h2, ?_⟩⟩
  rw [if_neg h3]
theorem on_few {n : Nat} {E : List (Nat × Nat)} (hn : n ≤ 8) (on : On n E) (nd : E.Nodup) : E.length ≤ 56 := by
  rw [← allW_len]
  refine nd.length_le_of_subset fun e he => ?_
  obtain ⟨h1, h2, h3⟩ := on e he
  exact mem_allW (by omega) (by omega) h3
theorem WaysOk.few {n : Nat} {L : List (Addr × Nat × Nat)} (hn : n ≤ 8) (h : WaysOk n L) : L.length < 63 := by
  have := on_few (E := L.map (·.2)) hn (fun e he => by
    obtain ⟨q, hq, rfl⟩ := List.mem_map.mp he
    exact h.2.1 q hq) h.1
  rw [List.length_map] at this
  omega
section
variable {P : Program} {w : World} {K : PySem.W.Frag} {mg : Str → Option Value} {base : Heap}
/-- Board(n, l) is asked where l has been made -/
theorem init_at {H : Hp} {c l x dx : Addr} {n : Nat} {L : List (Addr × Nat × Nat)} {Q : VK} (hc : ∃ ys, H c = some (.lst ys)) (hl : H l = some (.lst (L.map fun q => V.ref q.1))) (tL : ∀ q ∈ L, H q.1 = some (.tup [vI q.2.1, vI q.2.2])) (W : WaysOk n L) (n1 : 1 ≤ n) (n8 : n ≤ 8)
    (hx : H x = none) (hdx : H dx = none) (ne : dx ≠ x) (h : ∀ (H' : Hp) (E : List (Nat × Nat)), BoardAt K c H' x n E → (∀ e, e ∈ E ↔ e ∈ L.map (·.2)) → E.Pairwise lexLt → Same H H' → Q .non H') :
    spInit K [.ref x, vI n, .ref l] (upd (upd H dx (.own x)) x (.ins (cB K) dx [])) Q E0 := by
  refine ⟨H, x, dx, c, l, n, L, rfl, fun b o e => ?_, hx, upd_same, hc, hl, tL, W, n1, n8, W.few n8, h⟩
  rw [upd_ne (ne_of_none e hx), upd_ne (ne_of_none e hdx)]
  exact e
def spMade (K : PySem.W.Frag) : Sp := fun vs H Q _ => ∃ (c t l : Addr) (n : Nat) (L : List (Addr × Nat × Nat)), vs = [.ref t] ∧ H t = some (.tup [vI n, .ref l]) ∧ PairsAt c H l L ∧ WaysOk n L ∧ 1 ≤ n ∧ n ≤ 8 ∧ (∃ ys, H c = some (.lst ys)) ∧
  ∀ (H' : Hp) (x : Addr) (E : List (Nat × Nat)), BoardAt K c H' x n E → (∀ e, e ∈ E ↔ e ∈ L.map (·.2)) → E.Pairwise lexLt → Same H H' → Q (.ref x) H'
theorem sc__law_made : FnScope ["_law_board_here"] ["_law_board_here"] (defScope s__law_made) := ⟨rfl, rfl, rfl, by decide +kernel, rfl, by decide +kernel, by decide +kernel⟩
theorem ok_made (T : Tx K mg) : Has P w K mg base (He.ga K "_law_made") 6 ["_law_board_here"] (spMade K) := by
  obtain ⟨⟨fd_Board, F_Board, b_Board⟩, kp_Board⟩ := ok_init (P := P) (w := w) (base := base) T
  obtain ⟨fd, F⟩ := T.d__law_made
  refine ⟨⟨fd, F.ok sc__law_made (fun vs H Q E h => ?_) (fun cdv A outer s H vs Q E hr h => ?_), F.bindsN fun _ _ _ _ _ _ us hl => match us, hl with | [_], _ => rfl⟩, F.kp⟩
  · obtain ⟨c, t, l, n, L, rfl, _⟩ := h
    rfl
  · obtain ⟨c, t, l, n, L, rfl, ht, PL, W, n1, n8, hc, h⟩ := h
    have hr_Board : Room 5 _ := hr.mono (by decide)
    refine ⟨_, PSs.nox (pss_one (ps_ret (pe_make T.mkB F_Board hr_Board rfl T.glo_Board b_Board .nil pass0 (pa_cons (pe_ix (ixT (K := K)) (pv 0) pe_int (fun _ _ => rfl)) (pa_cons (pe_callTy (listK (K := K)) (by rfl) T.free_list (by decide +kernel) (pa_cons (pe_ix (ixT (K := K)) (pv 0) pe_int (fun _ _ => rfl)) pa_nil)) pa_nil))))), ?_⟩
    refine ⟨_, rfl, t, _, 0, _, rfl, rfl, SqT.of ht, rfl, _, rfl, t, _, 1, _, rfl, rfl, SqT.of ht, rfl, l, _, rfl, .inl (SqL.of PL.at_), fun l2 hl2 => ?_⟩
    have s1 : Same H (upd H l2 (.lst (L.map fun q => V.ref q.1))) := same_upd hl2
    intro x dx hx hdx ne
    exact init_at (hc.imp fun _ z => s1 _ _ z) upd_same (fun q hq => s1 _ _ (PL.tup q hq)) W n1 n8 hx hdx ne fun H' E B mE sE s2 => ⟨rfl, h H' x E B mE sE (s1.trans s2)⟩
def spTurned (K : PySem.W.Frag) : Sp := fun vs H Q _ => ∃ (c x : Addr) (n : Nat) (E : List (Nat × Nat)), vs = [.ref x] ∧ BoardAt K c H x n E ∧ (∃ ys, H c = some (.lst ys)) ∧
  ∀ (H' : Hp) (y : Addr) (E' : List (Nat × Nat)), BoardAt K c H' y n E' → (∀ a b, (a, b) ∈ E' ↔ (b, a) ∈ E) → E'.Pairwise lexLt → Same H H' → Q (.ref y) H'
theorem nodup_inj {α β : Type} {f : α → β} : ∀ {l : List α}, l.Nodup → (∀ x ∈ l, ∀ y ∈ l, f x = f y → x = y) → (l.map f).Nodup
  | [], _, _ => List.nodup_nil
  | a :: l, h, hf => by
    rw [List.map_cons, List.nodup_cons]
    rw [List.nodup_cons] at h
    refine ⟨fun hm => ?_, nodup_inj h.2 fun x hx y hy => hf x (List.mem_cons_of_mem _ hx) y (List.mem_cons_of_mem _ hy)⟩
    obtain ⟨b, hb, e⟩ := List.mem_map.mp hm
    exact h.1 (hf b (List.mem_cons_of_mem _ hb) a List.mem_cons_self e ▸ hb)
theorem sqt_same {H H' : Hp} {a : Addr} {xs : List V} (s : Same H H') (h : SqT K H a xs) : SqT K H' a xs := by
  rcases h with (h | ⟨o, h⟩) | h
  · exact .inl (.inl (s _ _ h))
  · exact .inl (.inr ⟨o, s _ _ h⟩)
  · exact .inr h
def spRenamed (K : PySem.W.Frag) : Sp := fun vs H Q _ => ∃ (c x t : Addr) (n : Nat) (E : List (Nat × Nat)) (os : List Nat), vs = [.ref x, .ref t] ∧ BoardAt K c H x n E ∧ (∃ ys, H c = some (.lst ys)) ∧ SqT K H t (os.map vI) ∧ os.Perm (List.range n) ∧
  ∀ (H' : Hp) (y : Addr) (E' : List (Nat × Nat)), BoardAt K c H' y n E' → (∀ e, e ∈ E' ↔ ∃ p, p ∈ E ∧ e = (os.getD p.1 0, os.getD p.2 0)) → E'.Pairwise lexLt → Same H H' → Q (.ref y) H'
theorem int_maps : ∀ {xs ys : List Int}, xs.map V.int = ys.map V.int → xs = ys
  | [], [], _ => rfl
  | [], _ :: _, h => by cases h
  | _ :: _, [], h => by cases h
  | x :: xs, y :: ys, h => by
    rw [List.map_cons, List.map_cons] at h
    injection h with h1 h2
    injection h1 with h1
    rw [h1, int_maps h2]
/-- what is sorted of an order of the places -/
theorem sorted_order {n : Nat} {os : List Nat} {ms : List Int} (h : os.Perm (List.range n)) (p : ms.Perm (os.map nI)) (s : ms.Pairwise (· ≤ ·)) : ms = (List.range n).map nI := by
  have pm : ms.Perm ((List.range n).map nI) := p.trans (h.map nI)
  have nd : ms.Nodup := pm.nodup_iff.mpr (nodup_inj List.nodup_range fun x _ y _ e => by
    unfold nI at e
    omega)
  have lt : ms.Pairwise (· < ·) := (s.and nd).imp fun {a b} ⟨z1, z2⟩ => by
    have z2 : a ≠ b := z2
    omega
  have e := rise_lot (n := n) (p := fun _ => True) lt fun k => by
    rw [pm.mem_iff, List.mem_map]
    constructor
    · rintro ⟨b, hb, rfl⟩
      exact ⟨b, rfl, List.mem_range.mp hb, trivial⟩
    · rintro ⟨b, rfl, hb, _⟩
      exact ⟨b, List.mem_range.mpr hb, rfl⟩
  rw [lotP_true, vI_map] at e
  exact int_maps e
theorem os_get {n : Nat} {os : List Nat} (h : os.Perm (List.range n)) {a : Nat} (ha : a < n) : os[a]? = some (os.getD a 0) ∧ os.getD a 0 < n := by
  have hl : a < os.length := by rw [h.length_eq, List.length_range]; exact ha
  have e : os.getD a 0 = os[a] := by rw [List.getD_eq_getElem?_getD, List.getElem?_eq_getElem hl]; rfl
  refine ⟨by rw [e]; exact List.getElem?_eq_getElem hl, ?_⟩
  rw [e]
  exact List.mem_range.mp (h.mem_iff.mp (List.getElem_mem hl))
theorem os_inj {n : Nat} {os : List Nat} (h : os.Perm (List.range n)) {a b : Nat} (ha : a < n) (hb : b < n) (e : os.getD a 0 = os.getD b 0) : a = b := by
  have nd : os.Nodup := h.nodup_iff.mpr List.nodup_range
  have h1 := (os_get h ha).1
  have h2 := (os_get h hb).1
  rw [e, ← h2] at h1
  have hl : a < os.length := by rw [h.length_eq, List.length_range]; exact ha
  exact (List.getElem?_inj hl nd).mp h1
end
end RL
namespace RL
open PySem PySem.Spec PyProof.Rows L2 RLM
section
variable {P : Program} {w : World} {K : PySem.W.Frag} {mg : Str → Option Value} {base : Heap}
theorem all_true {bs : List Bool} (h : ∀ b ∈ bs, b = true) : bs.all id = true := List.all_eq_true.mpr h
def spIsLot (K : PySem.W.Frag) : Sp := fun vs H Q _ => ∃ (c x t : Addr) (n : Nat) (E : List (Nat × Nat)) (p : Nat → Prop), vs = [.ref x, .ref t] ∧ BoardAt K c H x n E ∧ H t = some (.tup ((lotP n p).map vI)) ∧ ∀ H', Same H H' → Q (.bl true) H'
theorem sc_is_lot : FnScope ["board", "lot", "place"] ["board", "lot"] (defScope s_is_lot) := ⟨rfl, rfl, rfl, by decide +kernel, rfl, by decide +kernel, by decide +kernel⟩
theorem ok_is_lot (T : Tx K mg) : Has P w K mg base (He.ga K "is_lot") 3 ["board", "lot"] (spIsLot K) := by
  obtain ⟨⟨fd_is_between, F_is_between, b_is_between⟩, kp_is_between⟩ := ok_is_between (P := P) (w := w) (base := base) T
  obtain ⟨⟨fd_len, F_len, b_len⟩, kp_len⟩ := ok_len (P := P) (w := w) (base := base) T
  obtain ⟨fd, F⟩ := T.d_is_lot
  refine ⟨⟨fd, F.ok sc_is_lot (fun vs H Q E h => ?_) (fun cdv A outer s H vs Q E hr h => ?_), F.bindsN fun _ _ _ _ _ _ us hl => match us, hl with | [_, _], _ => rfl⟩, F.kp⟩
  · obtain ⟨c, x, t, n, E, p, rfl, _⟩ := h
    rfl
  · obtain ⟨c, x, t, n, E, p, rfl, B, ht, h⟩ := h
    have hr_is_between : Room 2 _ := hr.mono (by decide)
    have hr_len : Room 2 _ := hr.mono (by decide)
    refine ⟨_, PSs.nox (pss_cons (ps_if (pt_not (pt_val (pe_callB (isiK (K := K)) (by rfl) T.free_isinstance (by decide +kernel) (pa_cons (pv 1) (pa_cons (pe_bltn (v := .ty "tuple") (u := .type "tuple") (by rfl) T.free_tuple (by decide +kernel) rfl) pa_nil))))) (pss_one (ps_ret pe_bl)) pss_nil)
      (pss_cons (ps_if (pt_not (pt_val (pe_callB (allK (K := K)) (by rfl) T.free_all (by decide +kernel) (pa_cons (pe_lc (own := [("place", 2)]) (g := (gName 2)) (tt := tYes) rfl sc_is_lot.nd (piT (K := K) (pv 1)) (blkOk_by (by kernel_rfl)) (fun _ _ _ _ _ => (pg_name (i := 2) sc_is_lot.nd rfl (Or.inl rfl))) (fun _ _ _ _ _ => pts_nil) (fun _ _ _ _ _ => (pe_call F_is_between hr_is_between rfl T.glo_is_between kp_is_between b_is_between .nil pass0 (pa_cons (pv 2) (pa_cons pe_int (pa_cons (pe_op op_sub (pe_callB (call_lenOwn T.m_len F_len b_len hr_len) (by rfl) T.free_len (by decide +kernel) (pa_cons (pv 0) pa_nil)) pe_int) pa_nil)))))) pa_nil)))) (pss_one (ps_ret pe_bl)) pss_nil)
      (pss_one (ps_ret (pe_cmpR (eqD (K := K) hr.units) (pe_callTy (listK (K := K)) (by rfl) T.free_list (by decide +kernel) (pa_cons (pv 1) pa_nil)) (pe_callB (sortS (w := w)) (by rfl) T.free_sorted (by decide +kernel) (pa_cons (pe_callTy (setTK (K := K) (w := w)) (by rfl) T.free_set (by decide +kernel) (pa_cons (pv 1) pa_nil)) pa_nil)) (nomark _)))))), ?_⟩
    have n8 := B.hi
    have lp := lotP_len n p
    refine ⟨_, rfl, _, _, _, _, true, rfl, .ty _, .base (.tup ht), kit_ty (by decide +kernel), true, rfl, iteF ?_⟩
    refine ⟨_, rfl, t, rfl, ⟨_, SqT.of ht⟩, fun D hD => ?_⟩
    refine lc_tup (K := K) (a := t) (xs := (lotP n p).map vI) (fun i H1 => ∃ bs : List Bool, H1 D = some (.lst (bs.map V.bl)) ∧ (∀ b ∈ bs, b = true) ∧ bs.length = i ∧ Same H H1)
      ⟨[], upd_same, by simp, rfl, same_upd hD⟩ (fun i H1 _ ⟨_, _, _, _, s1⟩ => SqT.of (s1 _ _ ht)) ?_ ?_
    · rintro i y H1 hy ⟨bs, hb, tb, lb, s1⟩
      obtain ⟨q, hq, rfl⟩ : ∃ q, (lotP n p)[i]? = some q ∧ vI q = y := by
        rw [List.getElem?_map] at hy
        cases e : (lotP n p)[i]? with
        | none => rw [e] at hy; cases hy
        | some q => rw [e] at hy; exact ⟨q, rfl, Option.some.inj hy⟩
      have qn := (mem_lotP.mp (List.mem_of_getElem? hq)).1
      have il : i < (lotP n p).length := (List.getElem?_eq_some_iff.mp hq).1
      have B1 := B.same s1
      obtain ⟨dx, q1, q2, q3, hx⟩ := B1.obj
      refine ⟨rfl, ?_⟩
      unfold tYes
      refine iteT ?_
      refine ⟨_, rfl, _, rfl, x, dx, _, rfl, hx, c, x, n, E, rfl, B1, (n : Int), rfl, by omega, by omega, _, _, rfl, rfl, _, _, _, rfl, ?_⟩
      rw [decide_eq_true (show (0 : Int) ≤ (q : Nat) ∧ ((q : Nat) : Int) ≤ (n : Int) - 1 from ⟨by omega, by omega⟩)]
      refine ⟨_, hb, ?_, bs ++ [true], ?_, ?_, by simp [lb], same_mut s1 hD⟩
      · rw [List.length_map]
        exact Nat.lt_of_le_of_lt (show bs.length ≤ 8 by omega) (by decide)
      · rw [upd_same, List.map_append]
        rfl
      · intro b hb2
        rcases List.mem_append.mp hb2 with z | z
        · exact tb b z
        · rw [List.mem_singleton.mp z]
    · rintro H1 ⟨bs, hb, tb, lb, s1⟩
      refine ⟨D, bs, rfl, SqL.of hb, _, rfl, ?_⟩
      rw [all_true tb]
      refine iteF ?_
      refine ⟨_, rfl, t, _, rfl, .inr (SqT.of (s1 _ _ ht)), fun l1 hl1 => ?_⟩
      have s2 := same_upd (o := HO.lst ((lotP n p).map vI)) hl1
      have ht2 := s2 _ _ (s1 _ _ ht)
      refine ⟨_, rfl, t, (lotP n p).map nI, rfl, SqT.of (by rw [← vI_map]; exact ht2), by rw [List.length_map]; omega, fun d cc hd hcc => ?_⟩
      refine ⟨d, _, cc, rfl, upd_same, ?_, fun ns l2 h1 h2 h3 hl2 => ?_⟩
      · rw [List.length_map] at hcc
        omega
      have s3 := same_upd (o := SetO w d (fun j => decide (j ∈ (lotP n p).map nI)) cc) hd
      have s4 := same_upd (o := HO.lst (ns.map V.int)) hl2
      have en : ns.map V.int = (lotP n p).map vI := rise_lot h1 fun k => (h2 k).trans (decide_eq_true_iff.trans (by
        rw [List.mem_map]
        constructor
        · rintro ⟨b, hb, rfl⟩
          exact ⟨b, rfl, mem_lotP.mp hb⟩
        · rintro ⟨b, rfl, hb⟩
          exact ⟨b, mem_lotP.mpr hb, rfl⟩))
      refine ⟨.list (ns.map .int), .list (ns.map .int), .lst (SqL.of (s4 _ _ (s3 _ _ (by rw [upd_same, ← en])))) (dp_ints ns), .lst (SqL.of upd_same) (dp_ints ns), shaped_ints ns, shaped_ints ns, ?_⟩
      rw [SeqAt.eqv_refl _ (SeqAt.canLay_of_shaped (shaped_ints ns))]
      exact h _ (((s1.trans s2).trans s3).trans s4)
def spChkLot (K : PySem.W.Frag) : Sp := fun vs H Q _ => ∃ (c x t : Addr) (n : Nat) (E : List (Nat × Nat)) (p : Nat → Prop), vs = [.ref x, .ref t] ∧ BoardAt K c H x n E ∧ H t = some (.tup ((lotP n p).map vI)) ∧ ∀ H', Same H H' → Q .non H'
theorem sc_check_lot : FnScope ["board", "lot"] ["board", "lot"] (defScope s_check_lot) := ⟨rfl, rfl, rfl, by decide +kernel, rfl, by decide +kernel, by decide +kernel⟩
theorem ok_chk_lot (T : Tx K mg) : Has P w K mg base (He.ga K "check_lot") 4 ["board", "lot"] (spChkLot K) := by
  obtain ⟨⟨fd_is_lot, F_is_lot, b_is_lot⟩, kp_is_lot⟩ := ok_is_lot (P := P) (w := w) (base := base) T
  obtain ⟨fd, F⟩ := T.d_check_lot
  refine ⟨⟨fd, F.ok sc_check_lot (fun vs H Q E h => ?_) (fun cdv A outer s H vs Q E hr h => ?_), F.bindsN fun _ _ _ _ _ _ us hl => match us, hl with | [_, _], _ => rfl⟩, F.kp⟩
  · obtain ⟨c, x, t, n, E, p, rfl, _⟩ := h
    rfl
  · obtain ⟨c, x, t, n, E, p, rfl, B, ht, h⟩ := h
    have hr_is_lot : Room 3 _ := hr.mono (by decide)
    refine ⟨_, PSs.nox (pss_one (ps_if (pt_not (pt_val (pe_call F_is_lot hr_is_lot rfl T.glo_is_lot kp_is_lot b_is_lot .nil pass0 (pa_cons (pv 0) (pa_cons (pv 1) pa_nil))))) (pss_one ps_never) pss_nil)), ?_⟩
    exact ⟨_, rfl, _, rfl, c, x, t, n, E, p, rfl, B, ht, fun H1 s1 => ⟨_, rfl, iteF (h H1 s1)⟩⟩
/-- a pace -/
def PaceOk (n : Nat) (ps : List Nat) : Prop := ps.length = n ∧ ∀ q ∈ ps, q ≤ 7
def spIsPace (K : PySem.W.Frag) : Sp := fun vs H Q _ => ∃ (c x t : Addr) (n : Nat) (E : List (Nat × Nat)) (ps : List Nat), vs = [.ref x, .ref t] ∧ BoardAt K c H x n E ∧ H t = some (.tup (ps.map vI)) ∧ PaceOk n ps ∧ ∀ H', Same H H' → Q (.bl true) H'
theorem sc_is_pace : FnScope ["board", "pace", "number"] ["board", "pace"] (defScope s_is_pace) := ⟨rfl, rfl, rfl, by decide +kernel, rfl, by decide +kernel, by decide +kernel⟩
theorem ok_is_pace (T : Tx K mg) : Has P w K mg base (He.ga K "is_pace") 3 ["board", "pace"] (spIsPace K) := by
  obtain ⟨⟨fd_is_between, F_is_between, b_is_between⟩, kp_is_between⟩ := ok_is_between (P := P) (w := w) (base := base) T
  obtain ⟨⟨fd_len, F_len, b_len⟩, kp_len⟩ := ok_len (P := P) (w := w) (base := base) T
  obtain ⟨fd, F⟩ := T.d_is_pace
  refine ⟨⟨fd, F.ok sc_is_pace (fun vs H Q E h => ?_) (fun cdv A outer s H vs Q E hr h => ?_), F.bindsN fun _ _ _ _ _ _ us hl => match us, hl with | [_, _], _ => rfl⟩, F.kp⟩
  · obtain ⟨c, x, t, n, E, ps, rfl, _⟩ := h
    rfl
  · obtain ⟨c, x, t, n, E, ps, rfl, B, ht, PO, h⟩ := h
    have hr_is_between : Room 2 _ := hr.mono (by decide)
    have hr_len : Room 2 _ := hr.mono (by decide)
    refine ⟨_, PSs.nox (pss_cons (ps_if (PW.pt (pw_or (pt_not (pt_val (pe_callB (isiK (K := K)) (by rfl) T.free_isinstance (by decide +kernel) (pa_cons (pv 1) (pa_cons (pe_bltn (v := .ty "tuple") (u := .type "tuple") (by rfl) T.free_tuple (by decide +kernel) rfl) pa_nil))))) (pw_or1 (pt_cmpR op_ne (pe_callB (lenK (K := K)) (by rfl) T.free_len (by decide +kernel) (pa_cons (pv 1) pa_nil)) (pe_callB (call_lenOwn T.m_len F_len b_len hr_len) (by rfl) T.free_len (by decide +kernel) (pa_cons (pv 0) pa_nil)) (nomark _))))) (pss_one (ps_ret pe_bl)) pss_nil)
      (pss_one (ps_ret (pe_callB (allK (K := K)) (by rfl) T.free_all (by decide +kernel) (pa_cons (pe_lc (own := [("number", 2)]) (g := (gName 2)) (tt := tYes) rfl sc_is_pace.nd (piT (K := K) (pv 1)) (blkOk_by (by kernel_rfl)) (fun _ _ _ _ _ => (pg_name (i := 2) sc_is_pace.nd rfl (Or.inl rfl))) (fun _ _ _ _ _ => pts_nil) (fun _ _ _ _ _ => (pe_call F_is_between hr_is_between rfl T.glo_is_between kp_is_between b_is_between .nil pass0 (pa_cons (pv 2) (pa_cons pe_int (pa_cons (pe_glob (v := .int 7) rfl T.glob_MOST_PACE.choose_spec ⟨_, rfl⟩) pa_nil)))))) pa_nil))))), ?_⟩
    have n8 := B.hi
    obtain ⟨dx, q1, q2, q3, hx⟩ := B.obj
    refine ⟨_, rfl, _, _, _, _, true, rfl, .ty _, .base (.tup ht), kit_ty (by decide +kernel), true, rfl, iteF ?_⟩
    refine ⟨_, rfl, t, _, rfl, .inr (SqT.of ht), _, rfl, x, dx, _, rfl, hx, c, x, n, E, rfl, B, (n : Int), rfl, by omega, by omega, rfl, _, rfl, ?_⟩
    have e1 : (!decide (V.int (((ps.map vI).length : Nat) : Int) = V.int (n : Int))) = false := by
      rw [List.length_map, PO.1]
      simp
    rw [e1]
    refine iteF ?_
    refine ⟨_, rfl, t, rfl, ⟨_, SqT.of ht⟩, fun D hD => ?_⟩
    refine lc_tup (K := K) (a := t) (xs := ps.map vI) (fun i H1 => ∃ bs : List Bool, H1 D = some (.lst (bs.map V.bl)) ∧ (∀ b ∈ bs, b = true) ∧ bs.length = i ∧ Same H H1)
      ⟨[], upd_same, by simp, rfl, same_upd hD⟩ (fun i H1 _ ⟨_, _, _, _, s1⟩ => SqT.of (s1 _ _ ht)) ?_ ?_
    · rintro i y H1 hy ⟨bs, hb, tb, lb, s1⟩
      obtain ⟨q, hq, rfl⟩ : ∃ q, ps[i]? = some q ∧ vI q = y := by
        rw [List.getElem?_map] at hy
        cases e : ps[i]? with
        | none => rw [e] at hy; cases hy
        | some q => rw [e] at hy; exact ⟨q, rfl, Option.some.inj hy⟩
      have q7 := PO.2 q (List.mem_of_getElem? hq)
      have il : i < ps.length := (List.getElem?_eq_some_iff.mp hq).1
      have l8 := PO.1
      refine ⟨rfl, ?_⟩
      unfold tYes
      refine iteT ?_
      refine ⟨_, rfl, _, _, _, rfl, ?_⟩
      rw [decide_eq_true (show (0 : Int) ≤ (q : Nat) ∧ ((q : Nat) : Int) ≤ 7 from ⟨by omega, by omega⟩)]
      refine ⟨_, hb, ?_, bs ++ [true], ?_, ?_, by simp [lb], same_mut s1 hD⟩
      · rw [List.length_map]
        exact Nat.lt_of_le_of_lt (show bs.length ≤ 8 by omega) (by decide)
      · rw [upd_same, List.map_append]
        rfl
      · intro b hb2
        rcases List.mem_append.mp hb2 with z | z
        · exact tb b z
        · rw [List.mem_singleton.mp z]
    · rintro H1 ⟨bs, hb, tb, lb, s1⟩
      refine ⟨D, bs, rfl, SqL.of hb, ?_⟩
      rw [all_true tb]
      exact h H1 s1
def spChkPace (K : PySem.W.Frag) : Sp := fun vs H Q _ => ∃ (c x t : Addr) (n : Nat) (E : List (Nat × Nat)) (ps : List Nat), vs = [.ref x, .ref t] ∧ BoardAt K c H x n E ∧ H t = some (.tup (ps.map vI)) ∧ PaceOk n ps ∧ ∀ H', Same H H' → Q .non H'
theorem sc_check_pace : FnScope ["board", "pace"] ["board", "pace"] (defScope s_check_pace) := ⟨rfl, rfl, rfl, by decide +kernel, rfl, by decide +kernel, by decide +kernel⟩
theorem ok_chk_pace (T : Tx K mg) : Has P w K mg base (He.ga K "check_pace") 4 ["board", "pace"] (spChkPace K) := by
  obtain ⟨⟨fd_is_pace, F_is_pace, b_is_pace⟩, kp_is_pace⟩ := ok_is_pace (P := P) (w := w) (base := base) T
  obtain ⟨fd, F⟩ := T.d_check_pace
  refine ⟨⟨fd, F.ok sc_check_pace (fun vs H Q E h => ?_) (fun cdv A outer s H vs Q E hr h => ?_), F.bindsN fun _ _ _ _ _ _ us hl => match us, hl with | [_, _], _ => rfl⟩, F.kp⟩
  · obtain ⟨c, x, t, n, E, p, rfl, _⟩ := h
    rfl
  · obtain ⟨c, x, t, n, E, ps, rfl, B, ht, PO, h⟩ := h
    have hr_is_pace : Room 3 _ := hr.mono (by decide)
    refine ⟨_, PSs.nox (pss_one (ps_if (pt_not (pt_val (pe_call F_is_pace hr_is_pace rfl T.glo_is_pace kp_is_pace b_is_pace .nil pass0 (pa_cons (pv 0) (pa_cons (pv 1) pa_nil))))) (pss_one ps_never) pss_nil)), ?_⟩
    exact ⟨_, rfl, _, rfl, c, x, t, n, E, ps, rfl, B, ht, PO, fun H1 s1 => ⟨_, rfl, iteF (h H1 s1)⟩⟩
end
end RL
namespace RL
open PySem PySem.Spec PyProof.Rows L2 RLM
theorem in_lot (b : Nat) (xs : List Nat) : inV (vI b) (xs.map vI) = decide (b ∈ xs) := by
  unfold inV
  rw [List.any_map]
  have e : ((fun y => eqV y (vI b)) ∘ vI) = fun q : Nat => decide (q = b) := by
    funext q
    show ((q : Int) == (b : Int)) = decide (q = b)
    by_cases h : q = b
    · subst h
      simp
    · have h2 : ¬ ((q : Int) = (b : Int)) := by omega
      rw [decide_eq_false h]
      exact beq_eq_false_iff_ne.mpr h2
  rw [e]
  by_cases h : b ∈ xs
  · rw [decide_eq_true h]
    exact List.any_eq_true.mpr ⟨b, h, by simp⟩
  · rw [decide_eq_false h]
    refine Bool.eq_false_iff.mpr fun z => ?_
    obtain ⟨q, hq, e⟩ := List.any_eq_true.mp z
    exact h (of_decide_eq_true e ▸ hq)
theorem flat_vI (xs : List Nat) : (xs.map vI).all flatV = true := by
  rw [List.all_map]
  exact List.all_eq_true.mpr fun _ _ => rfl
theorem count_more {p q : Nat → Bool} : ∀ (xs : List Nat) {b : Nat}, b ∈ xs → (∀ x, p x = true → q x = true) → p b = false → q b = true → xs.countP p + 1 ≤ xs.countP q
  | x :: xs, b, hb, hpq, h0, h1 => by
    have mono : ∀ ys : List Nat, ys.countP p ≤ ys.countP q := fun ys => List.countP_mono_left fun x _ hx => hpq x hx
    rw [List.countP_cons, List.countP_cons]
    rcases List.mem_cons.mp hb with e | e
    · subst e
      rw [h0, h1]
      have := mono xs
      simp
      omega
    · have ih := count_more xs e hpq h0 h1
      have : (if p x = true then 1 else 0) ≤ (if q x = true then 1 else 0) := by
        by_cases hx : p x = true
        · rw [if_pos hx, if_pos (hpq x hx)]
          exact Nat.le_refl _
        · rw [if_neg hx]
          exact Nat.zero_le _
      omega
section
variable {P : Program} {w : World} {K : PySem.W.Frag} {mg : Str → Option Value} {base : Heap}
/-- where a step leads from a lot -/
def stepP (n : Nat) (E : List (Nat × Nat)) (ps : List Nat) (p : Nat → Prop) (b : Nat) : Prop := ∃ a, a < n ∧ p a ∧ Near E ((ps.getD a 0 : Nat) : Int) a b
def spStep (K : PySem.W.Frag) : Sp := fun vs H Q _ => ∃ (c x tp tl : Addr) (n : Nat) (E : List (Nat × Nat)) (ps : List Nat) (p : Nat → Prop), vs = [.ref x, .ref tp, .ref tl] ∧ BoardAt K c H x n E ∧ H tp = some (.tup (ps.map vI)) ∧ PaceOk n ps ∧ H tl = some (.tup ((lotP n p).map vI)) ∧
  ∀ H' t, H' t = some (.tup ((lotP n (stepP n E ps p)).map vI)) → Same H H' → Q (.ref t) H'
/-- the set so far -/
def SetIs (w : World) (n : Nat) (D : Addr) (H : Hp) (r : Nat → Prop) : Prop := ∃ (S : Int → Bool) (cnt : Nat), H D = some (SetO w D S cnt) ∧ cnt ≤ (List.range 8).countP (fun b => S (nI b)) ∧ ∀ k : Int, S k = true ↔ ∃ b : Nat, k = nI b ∧ b < n ∧ r b
theorem pace_get {n : Nat} {ps : List Nat} (h : PaceOk n ps) {a : Nat} (ha : a < n) : ps[a]? = some (ps.getD a 0) := by
  have hl : a < ps.length := by rw [h.1]; exact ha
  rw [List.getD_eq_getElem?_getD, List.getElem?_eq_getElem hl]
  rfl
def beforeP (n : Nat) (E : List (Nat × Nat)) (ps : List Nat) (p : Nat → Prop) (a : Nat) : Prop := ∃ b, b < n ∧ p b ∧ Near E ((ps.getD a 0 : Nat) : Int) a b
def spBefore (K : PySem.W.Frag) : Sp := fun vs H Q _ => ∃ (c x tp tl : Addr) (n : Nat) (E : List (Nat × Nat)) (ps : List Nat) (p : Nat → Prop), vs = [.ref x, .ref tp, .ref tl] ∧ BoardAt K c H x n E ∧ H tp = some (.tup (ps.map vI)) ∧ PaceOk n ps ∧ H tl = some (.tup ((lotP n p).map vI)) ∧
  ∀ H' t, H' t = some (.tup ((lotP n (beforeP n E ps p)).map vI)) → Same H H' → Q (.ref t) H'
end
end RL
namespace RL
open PySem PySem.Spec PyProof.Rows L2 RLM
section
variable {P : Program} {w : World} {K : PySem.W.Frag} {mg : Str → Option Value} {base : Heap}
theorem sc_step : FnScope ["board", "pace", "lot", "place", "end"] ["board", "pace", "lot"] (defScope s_step) := ⟨rfl, rfl, rfl, by decide +kernel, rfl, by decide +kernel, by decide +kernel⟩
theorem ok_step (T : Tx K mg) : Has P w K mg base (He.ga K "step") 5 ["board", "pace", "lot"] (spStep K) := by
  obtain ⟨⟨fd_check_pace, F_check_pace, b_check_pace⟩, kp_check_pace⟩ := ok_chk_pace (P := P) (w := w) (base := base) T
  obtain ⟨⟨fd_check_lot, F_check_lot, b_check_lot⟩, kp_check_lot⟩ := ok_chk_lot (P := P) (w := w) (base := base) T
  obtain ⟨⟨fd_within, F_within, b_within⟩, kp_within⟩ := ok_within (P := P) (w := w) (base := base) T
  obtain ⟨fd, F⟩ := T.d_step
  refine ⟨⟨fd, F.ok sc_step (fun vs H Q E h => ?_) (fun cdv A outer s H vs Q E hr h => ?_), F.bindsN fun _ _ _ _ _ _ us hl => match us, hl with | [_, _, _], _ => rfl⟩, F.kp⟩
  · obtain ⟨c, x, tp, tl, n, E, ps, p, rfl, _⟩ := h
    rfl
  · obtain ⟨c, x, tp, tl, n, E, ps, p, rfl, B0, htp0, PO, htl0, h⟩ := h
    have hr_check_pace : Room 4 _ := hr.mono (by decide)
    have hr_check_lot : Room 4 _ := hr.mono (by decide)
    have hr_within : Room 4 _ := hr.mono (by decide)
    refine ⟨_, PSs.nox (pss_cons (ps_expr (pe_call F_check_pace hr_check_pace rfl T.glo_check_pace kp_check_pace b_check_pace .nil pass0 (pa_cons (pv 0) (pa_cons (pv 1) pa_nil))))
      (pss_cons (ps_expr (pe_call F_check_lot hr_check_lot rfl T.glo_check_lot kp_check_lot b_check_lot .nil pass0 (pa_cons (pv 0) (pa_cons (pv 2) pa_nil))))
      (pss_one (ps_ret (pe_callTy (tupK (K := K)) (by rfl) T.free_tuple (by decide +kernel) (pa_cons (pe_callB (sortS (w := w)) (by rfl) T.free_sorted (by decide +kernel) (pa_cons (pe_sc2 (own := [("place", 3), ("end", 4)]) (vs1 := [4]) rfl sc_step.nd (piT (K := K) (pv 2)) (blkOk_by (by kernel_rfl)) (by decide) (fun _ _ _ _ _ => (pg_name (i := 3) sc_step.nd rfl (Or.inl rfl))) (fun _ _ _ _ _ => pts_nil) (fun _ _ _ _ _ => (piT (K := K) (pe_meth (pv 0) T.cl T.m_within F_within hr_within b_within .nil pass0 (pa_cons (pv 3) (pa_cons (pe_ix (ixT (K := K)) (pv 1) (pv 3) (fun _ _ => rfl)) pa_nil))))) (fun _ _ _ _ _ => (pg_name (i := 4) sc_step.nd rfl (Or.inl rfl))) (fun _ _ _ _ _ => pts_nil) (fun _ _ _ _ _ => (pv 4))) pa_nil)) pa_nil)))))), ?_⟩
    refine ⟨_, rfl, _, rfl, c, x, tp, n, E, ps, rfl, B0, htp0, PO, fun H1 s1 => ?_⟩
    refine ⟨_, rfl, _, rfl, c, x, tl, n, E, p, rfl, B0.same s1, s1 _ _ htl0, fun H2 s2 => ?_⟩
    have s12 := s1.trans s2
    have B := B0.same s12
    have htp := s12 _ _ htp0
    have htl := s12 _ _ htl0
    have n8 := B.hi
    refine ⟨_, rfl, tl, rfl, ⟨_, SqT.of htl⟩, fun D hD => ?_⟩
    let oldP : Nat → Nat → Prop := fun i b => ∃ a, a ∈ (lotP n p).take i ∧ Near E ((ps.getD a 0 : Nat) : Int) a b
    refine ⟨fun i m H3 => m = (lotP n p).length - i ∧ i ≤ (lotP n p).length ∧ SetIs w n D H3 (oldP i) ∧ Same H2 H3, ⟨_, rfl, Nat.zero_le _, ⟨fun _ => false, 0, upd_same, Nat.zero_le _, fun k => ?_⟩, same_upd hD⟩, ?_⟩
    · refine ⟨fun z => (by cases z), ?_⟩
      rintro ⟨b, _, _, a, ha, _⟩
      simp at ha
    rintro i m H3 ⟨rfl, il, SI, s3⟩
    by_cases lt : i < (lotP n p).length
    · have ea : (lotP n p)[i]? = some (lotP n p)[i] := List.getElem?_eq_getElem lt
      generalize (lotP n p)[i] = a at ea
      have ma := mem_lotP.mp (List.mem_of_getElem? ea)
      have et : (lotP n p).take (i + 1) = (lotP n p).take i ++ [a] := by
        rw [List.take_add_one, ea]
        rfl
      refine .inr ⟨⟨_, vI a, SqT.of (s3 _ _ htl), get_map ea⟩, fun H4 => SetIs w n D H4 (oldP (i + 1)) ∧ Same H2 H4, fun H4 ⟨q1, q2⟩ => ⟨_, by omega, rfl, lt, q1, q2⟩, fun y H4 hy => ?_⟩
      obtain ⟨e4, hy⟩ := hy
      subst e4
      have ey : y = vI a := by
        have := hy _ (SqT.of (s3 _ _ htl))
        rw [get_map ea] at this
        exact (Option.some.inj this).symm
      subst ey
      refine ⟨rfl, ?_⟩
      unfold tYes
      refine iteT ?_
      have B3 := B.same s3
      obtain ⟨dx, q1, q2, q3, hx⟩ := B3.obj
      refine ⟨_, rfl, x, dx, _, rfl, hx, bf_within _ _ _ _, _, rfl, _, rfl, _, rfl, tp, _, _, _, rfl, rfl, SqT.of (s3 _ _ htp), atI_nat (get_map (pace_get PO ma.1)), c, x, n, a, _, E, rfl, B3, ma.1, fun H5 t ht s5 => ?_⟩
      obtain ⟨W, eW⟩ : ∃ W, W = lotP n (Near E ((ps.getD a 0 : Nat) : Int) a) := ⟨_, rfl⟩
      rw [← eW] at ht
      refine ⟨t, rfl, ⟨_, SqT.of ht⟩, fun j m H6 => m = W.length - j ∧ j ≤ W.length ∧ SetIs w n D H6 (fun b => oldP i b ∨ b ∈ W.take j) ∧ H6 t = some (.tup (W.map vI)) ∧ Same H2 H6, ⟨_, rfl, Nat.zero_le _, ?_, ht, s3.trans s5⟩, ?_⟩
      · obtain ⟨S, cnt, hS, hc, mS⟩ := SI
        refine ⟨S, cnt, s5 _ _ hS, hc, fun k => (mS k).trans (exists_congr fun b => and_congr_right fun _ => and_congr_right fun _ => ?_)⟩
        simp
      rintro j m H6 ⟨rfl, jl, ⟨S, cnt, hS, hc, mS⟩, ht6, s6⟩
      by_cases lt2 : j < W.length
      · have eb : W[j]? = some W[j] := List.getElem?_eq_getElem lt2
        generalize W[j] = b at eb
        have mb : b < n := by
          have := List.mem_of_getElem? eb
          rw [eW] at this
          exact (mem_lotP.mp this).1
        have et2 : W.take (j + 1) = W.take j ++ [b] := by
          rw [List.take_add_one, eb]
          rfl
        refine .inr ⟨⟨_, vI b, SqT.of ht6, get_map eb⟩, fun H7 => SetIs w n D H7 (fun b => oldP i b ∨ b ∈ W.take (j + 1)) ∧ H7 t = some (.tup (W.map vI)) ∧ Same H2 H7, fun H7 ⟨q1, q2, q3⟩ => ⟨_, by omega, rfl, lt2, q1, q2, q3⟩, fun y H7 hy => ?_⟩
        obtain ⟨e7, hy⟩ := hy
        subst e7
        have ey : y = vI b := by
          have := hy _ (SqT.of ht6)
          rw [get_map eb] at this
          exact (Option.some.inj this).symm
        subst ey
        refine ⟨rfl, ?_⟩
        refine iteT ?_
        have c8 : cnt ≤ 8 := Nat.le_trans hc (Nat.le_trans List.countP_le_length (by rw [List.length_range]; exact Nat.le_refl _))
        have tD : t ≠ D := ne_of ht6 hS (by intro z; cases z)
        refine ⟨_, rfl, nI b, S, cnt, rfl, hS, Nat.lt_of_le_of_lt (show cnt + 1 ≤ 9 by omega) (by decide), ⟨_, _, upd_same, ?_, fun k => ?_⟩, by rw [upd_ne tD]; exact ht6, same_mut s6 hD⟩
        · by_cases sb : S (nI b) = true
          · rw [if_pos sb]
            exact Nat.le_trans hc (List.countP_mono_left fun z _ hz => by rw [hz]; rfl)
          · rw [if_neg sb]
            have sb' : S (nI b) = false := by simpa using sb
            refine Nat.le_trans (Nat.succ_le_succ hc) (count_more (List.range 8) (b := b) (List.mem_range.mpr (by omega)) (fun z hz => by rw [hz]; rfl) sb' (by simp))
        · rw [Bool.or_eq_true, mS k, decide_eq_true_iff, et2]
          constructor
          · rintro (⟨b', e, h1, h2⟩ | e)
            · refine ⟨b', e, h1, h2.imp id fun z => List.mem_append_left _ z⟩
            · exact ⟨b, e, mb, .inr (by simp)⟩
          · rintro ⟨b', e, h1, h2 | h2⟩
            · exact .inl ⟨b', e, h1, .inl h2⟩
            · rcases List.mem_append.mp h2 with z | z
              · exact .inl ⟨b', e, h1, .inr z⟩
              · rw [List.mem_singleton.mp z] at e
                exact .inr e
      · have e : j = W.length := by omega
        subst e
        refine .inl ⟨⟨_, SqT.of ht6, by rw [List.length_map]; exact Nat.le_refl _⟩, ⟨S, cnt, hS, hc, fun k => (mS k).trans (exists_congr fun b => and_congr_right fun _ => and_congr_right fun hb => ?_)⟩, s6⟩
        show (oldP i b ∨ b ∈ W.take W.length) ↔ ∃ a', a' ∈ (lotP n p).take (i + 1) ∧ _
        rw [List.take_length, eW, mem_lotP, et]
        constructor
        · rintro (⟨a', z1, z2⟩ | ⟨_, z⟩)
          · exact ⟨a', List.mem_append_left _ z1, z2⟩
          · exact ⟨a, by simp, z⟩
        · rintro ⟨a', z1, z2⟩
          rcases List.mem_append.mp z1 with z | z
          · exact .inl ⟨a', z, z2⟩
          · rw [List.mem_singleton.mp z] at z2
            exact .inr ⟨hb, z2⟩
    · have e : i = (lotP n p).length := by omega
      subst e
      refine .inl ⟨⟨_, SqT.of (s3 _ _ htl), by rw [List.length_map]; exact Nat.le_refl _⟩, ?_⟩
      obtain ⟨S, cnt, hS, hc, mS⟩ := SI
      have c8 : cnt ≤ 8 := Nat.le_trans hc (Nat.le_trans List.countP_le_length (by rw [List.length_range]; exact Nat.le_refl _))
      refine ⟨D, S, cnt, rfl, hS, by omega, fun ns l h1 h2 h3 hl => ?_⟩
      refine ⟨l, _, rfl, .inl ⟨SqL.of upd_same, fun t ht => ?_⟩⟩
      refine h _ t ?_ (((s12.trans s3).trans (same_upd hl)).trans (same_upd ht))
      rw [upd_same, rise_lot (n := n) (p := stepP n E ps p) h1 fun k => (h2 k).trans ((mS k).trans (exists_congr fun b => and_congr_right fun _ => and_congr_right fun _ => ?_))]
      show (∃ a, a ∈ (lotP n p).take (lotP n p).length ∧ _) ↔ _
      rw [List.take_length]
      exact exists_congr fun a => by rw [mem_lotP, and_assoc]
end
end RL
namespace RL
open PySem PySem.Spec PyProof.Rows L2 RLM
section
variable {P : Program} {w : World} {K : PySem.W.Frag} {mg : Str → Option Value} {base : Heap}
theorem sc_before : FnScope ["board", "pace", "lot", "place", "number", "end"] ["board", "pace", "lot"] (defScope s_before) := ⟨rfl, rfl, rfl, by decide +kernel, rfl, by decide +kernel, by decide +kernel⟩
theorem ok_before (T : Tx K mg) : Has P w K mg base (He.ga K "before") 5 ["board", "pace", "lot"] (spBefore K) := by
  obtain ⟨⟨fd_check_pace, F_check_pace, b_check_pace⟩, kp_check_pace⟩ := ok_chk_pace (P := P) (w := w) (base := base) T
  obtain ⟨⟨fd_check_lot, F_check_lot, b_check_lot⟩, kp_check_lot⟩ := ok_chk_lot (P := P) (w := w) (base := base) T
  obtain ⟨⟨fd_within, F_within, b_within⟩, kp_within⟩ := ok_within (P := P) (w := w) (base := base) T
  obtain ⟨fd, F⟩ := T.d_before
  refine ⟨⟨fd, F.ok sc_before (fun vs H Q E h => ?_) (fun cdv A outer s H vs Q E hr h => ?_), F.bindsN fun _ _ _ _ _ _ us hl => match us, hl with | [_, _, _], _ => rfl⟩, F.kp⟩
  · obtain ⟨c, x, tp, tl, n, E, ps, p, rfl, _⟩ := h
    rfl
  · obtain ⟨c, x, tp, tl, n, E, ps, p, rfl, B0, htp0, PO, htl0, h⟩ := h
    have hr_check_pace : Room 4 _ := hr.mono (by decide)
    have hr_check_lot : Room 4 _ := hr.mono (by decide)
    have hr_within : Room 4 _ := hr.mono (by decide)
    refine ⟨_, PSs.nox (pss_cons (ps_expr (pe_call F_check_pace hr_check_pace rfl T.glo_check_pace kp_check_pace b_check_pace .nil pass0 (pa_cons (pv 0) (pa_cons (pv 1) pa_nil))))
      (pss_cons (ps_expr (pe_call F_check_lot hr_check_lot rfl T.glo_check_lot kp_check_lot b_check_lot .nil pass0 (pa_cons (pv 0) (pa_cons (pv 2) pa_nil))))
      (pss_one (ps_ret (pe_callTy (tupK (K := K)) (by rfl) T.free_tuple (by decide +kernel) (pa_cons (pe_lc (own := [("place", 3), ("number", 4)]) rfl sc_before.nd (piEnumT (K := K) (by rfl) T.free_enumerate (pa_cons (pv 1) pa_nil)) (blkOk_by (by kernel_rfl)) (fun _ _ _ _ _ => (pgT (K := K) (n := 2) rfl (pgs_cons (pg_name (i := 3) sc_before.nd rfl (Or.inl rfl)) (pgs_cons (pg_name (i := 4) sc_before.nd rfl (Or.inl rfl)) pgs_nil)))) (fun _ _ _ _ _ => (pts_one (pt_val (pe_callB (anyK (K := K)) (by rfl) T.free_any (by decide +kernel) (pa_cons (pe_lc (own := [("end", 5)]) (g := (gName 5)) (tt := tYes) rfl sc_before.nd (piT (K := K) (pe_meth (pv 0) T.cl T.m_within F_within hr_within b_within .nil pass0 (pa_cons (pv 3) (pa_cons (pv 4) pa_nil)))) (blkOk_by (by kernel_rfl)) (fun _ _ _ _ _ => (pg_name (i := 5) sc_before.nd rfl (Or.inl rfl))) (fun _ _ _ _ _ => pts_nil) (fun _ _ _ _ _ => (pe_cmpR (inSq (K := K)) (pv 5) (pv 2) (by rfl)))) pa_nil))))) (fun _ _ _ _ _ => (pv 3))) pa_nil)))))), ?_⟩
    refine ⟨_, rfl, _, rfl, c, x, tp, n, E, ps, rfl, B0, htp0, PO, fun H1 s1 => ?_⟩
    refine ⟨_, rfl, _, rfl, c, x, tl, n, E, p, rfl, B0.same s1, s1 _ _ htl0, fun H2 s2 => ?_⟩
    have s12 := s1.trans s2
    have B := B0.same s12
    have htp := s12 _ _ htp0
    have htl := s12 _ _ htl0
    have n8 := B.hi
    refine ⟨_, rfl, tp, _, rfl, SqT.of htp, fun D hD => ?_⟩
    refine lc_it (walk_enumT (K := K) (a := tp) (xs := ps.map vI)) (fun i H3 => ∃ qs : List Nat, H3 D = some (.lst (qs.map vI)) ∧ qs.Pairwise (· < ·) ∧ (∀ b, b ∈ qs ↔ b < i ∧ beforeP n E ps p b) ∧ qs.length ≤ i ∧ Same H2 H3)
      ⟨[], upd_same, List.Pairwise.nil, by simp, Nat.le_refl _, same_upd hD⟩ (fun i H3 _ ⟨_, _, _, _, _, s3⟩ => SqT.of (s3 _ _ htp)) ?_ ?_
    · rintro i y H3 H4 hi ⟨qs, hq, sq, mq, lq, s3⟩ ⟨t, y1, y2, rfl, ht, rfl, e1, e2⟩
      rw [List.length_map] at hi
      have il : i < n := by rw [← PO.1]; exact hi
      cases (Option.some.inj e1)
      have ey : y2 = vI (ps.getD i 0) := by
        have e3 : (ps.map vI)[i]? = some y2 := e2
        rw [get_map (pace_get PO il)] at e3
        exact (Option.some.inj e3).symm
      subst ey
      have s4 : Same H3 (upd H3 t (.tup [.int (i : Nat), vI (ps.getD i 0)])) := same_upd ht
      have s34 := s3.trans s4
      have hq4 := s4 _ _ hq
      refine ⟨t, _, rfl, SqT.of upd_same, rfl, _, _, rfl, _, _, rfl, rfl, rfl, ?_⟩
      generalize upd H3 t (.tup [.int (i : Nat), vI (ps.getD i 0)]) = H4 at s34 hq4
      have B4 := B.same s34
      obtain ⟨dx, q1, q2, q3, hx⟩ := B4.obj
      refine ⟨_, rfl, x, dx, _, rfl, hx, bf_within _ _ _ _, _, rfl, _, rfl, c, x, n, i, _, E, rfl, B4, il, fun H5 u hu s5 => ?_⟩
      obtain ⟨W, eW⟩ : ∃ W, W = lotP n (Near E ((ps.getD i 0 : Nat) : Int) i) := ⟨_, rfl⟩
      rw [← eW] at hu
      have lW : W.length ≤ n := by rw [eW]; exact lotP_len _ _
      refine ⟨u, rfl, ⟨_, SqT.of hu⟩, fun D2 hD2 => ?_⟩
      have s25 := s34.trans s5
      refine lc_tup (K := K) (a := u) (xs := W.map vI) (fun j H6 => H6 D2 = some (.lst (((W.take j).map fun b => decide (b ∈ lotP n p)).map V.bl)) ∧ Same H5 H6)
        ⟨upd_same, same_upd hD2⟩ (fun j H6 _ ⟨_, s6⟩ => SqT.of (s6 _ _ hu)) ?_ ?_
      · rintro j z H6 hz ⟨hb, s6⟩
        obtain ⟨b, hb2, rfl⟩ : ∃ b, W[j]? = some b ∧ vI b = z := by
          rw [List.getElem?_map] at hz
          cases e : W[j]? with
          | none => rw [e] at hz; cases hz
          | some b => rw [e] at hz; exact ⟨b, rfl, Option.some.inj hz⟩
        have jl : j < W.length := (List.getElem?_eq_some_iff.mp hb2).1
        refine ⟨rfl, ?_⟩
        unfold tYes
        refine iteT ?_
        refine ⟨_, rfl, _, rfl, tl, _, rfl, .inr (SqT.of (s6 _ _ (s25 _ _ htl))), rfl, flat_vI _, ?_⟩
        refine ⟨_, hb, ?_, ?_, same_mut s6 hD2⟩
        · rw [List.length_map, List.length_map, List.length_take]
          exact Nat.lt_of_le_of_lt (show min j W.length ≤ 8 by omega) (by decide)
        · rw [upd_same, List.take_add_one, hb2, List.map_append, List.map_append]
          show some (HO.lst (_ ++ [V.bl (inV (vI b) ((lotP n p).map vI))])) = _
          rw [in_lot]
          rfl
      · rintro H6 ⟨hb, s6⟩
        rw [List.length_map, List.take_length] at hb
        refine ⟨D2, _, rfl, SqL.of hb, _, rfl, ?_⟩
        have s26 := s25.trans s6
        have hq6 := s6 _ _ (s5 _ _ hq4)
        have key : ((W.map fun b => decide (b ∈ lotP n p)).any id = true) ↔ beforeP n E ps p i := by
          rw [List.any_eq_true]
          constructor
          · rintro ⟨v, hv, ev⟩
            obtain ⟨b, hb, rfl⟩ := List.mem_map.mp hv
            have m1 := mem_lotP.mp (of_decide_eq_true ev)
            rw [eW] at hb
            exact ⟨b, m1.1, m1.2, (mem_lotP.mp hb).2⟩
          · rintro ⟨b, h1, h2, h3⟩
            refine ⟨true, List.mem_map.mpr ⟨b, by rw [eW]; exact mem_lotP.mpr ⟨h1, h3⟩, decide_eq_true (mem_lotP.mpr ⟨h1, h2⟩)⟩, rfl⟩
        refine ite2 (fun z => ?_) (fun z => ?_)
        · have bp := key.1 z
          refine ⟨_, rfl, _, hq6, ?_, qs ++ [i], ?_, ?_, fun b => ?_, ?_, same_mut s26 hD⟩
          · rw [List.length_map]
            exact Nat.lt_of_le_of_lt (show qs.length ≤ 8 by omega) (by decide)
          · rw [upd_same, List.map_append]
            rfl
          · rw [List.pairwise_append]
            refine ⟨sq, by simp, fun b hb b' hb' => ?_⟩
            rw [List.mem_singleton.mp hb']
            exact ((mq b).1 hb).1
          · rw [List.mem_append, mq b, List.mem_singleton]
            constructor
            · rintro (⟨z1, z2⟩ | z1)
              · exact ⟨by omega, z2⟩
              · rw [z1]
                exact ⟨by omega, bp⟩
            · rintro ⟨z1, z2⟩
              rcases Nat.lt_or_ge b i with k | k
              · exact .inl ⟨k, z2⟩
              · exact .inr (by omega)
          · rw [List.length_append]
            simp
            omega
        · refine ⟨qs, hq6, sq, fun b => ?_, by omega, s26⟩
          rw [mq b]
          constructor
          · rintro ⟨z1, z2⟩
            exact ⟨by omega, z2⟩
          · rintro ⟨z1, z2⟩
            refine ⟨?_, z2⟩
            rcases Nat.lt_or_ge b i with k | k
            · exact k
            · exfalso
              have e : b = i := by omega
              rw [e] at z2
              exact z (key.2 z2)
    · rintro H3 ⟨qs, hq, sq, mq, lq, s3⟩
      rw [List.length_map, PO.1] at mq
      refine ⟨D, _, rfl, .inl ⟨SqL.of hq, fun t ht => ?_⟩⟩
      refine h _ t ?_ ((s12.trans s3).trans (same_upd ht))
      rw [upd_same, lotP_of sq mq]
end
end RL
/-! Spans by closing over middle places: plain mathematics. -/
namespace RLM
/-- a walk whose inner places are below m -/
inductive Wm (E : List (Nat × Nat)) (m : Nat) : Nat → Nat → Nat → Prop where
  | z (a : Nat) : Wm E m 0 a a
  | o {a b : Nat} : (a, b) ∈ E → Wm E m 1 a b
  | s {k a b c : Nat} : Wm E m k a b → b < m → (b, c) ∈ E → Wm E m (k + 1) a c
theorem Wm.split {E : List (Nat × Nat)} {m k a b : Nat} (w : Wm E (m + 1) k a b) : Wm E m k a b ∨ ∃ k1 k2, k1 + k2 ≤ k ∧ Wm E m k1 a m ∧ Wm E m k2 m b := by
  induction w with
  | z a => exact .inl (.z a)
  | o e => exact .inl (.o e)
  | @s k a b c w hb e ih =>
    rcases ih with w' | ⟨k1, k2, hk, w1, w2⟩
    · by_cases h : b < m
      · exact .inl (.s w' h e)
      · have : b = m := by omega
        subst this
        exact .inr ⟨k, 1, Nat.le_refl _, w', .o e⟩
    · by_cases h : b < m
      · exact .inr ⟨k1, k2 + 1, by omega, w1, .s w2 h e⟩
      · have : b = m := by omega
        subst this
        exact .inr ⟨k1, 1, by omega, w1, .o e⟩
theorem Wk.wm {n : Nat} {E : List (Nat × Nat)} (h : On n E) {k a b : Nat} (w : Wk E k a b) (ha : a < n) : Wm E n k a b := by
  induction w with
  | z a => exact .z a
  | s w e ih => exact .s (ih ha) (w.lt h ha) e
theorem Wk.app {E : List (Nat × Nat)} {k a b : Nat} (w : Wk E k a b) {l c : Nat} (v : Wk E l b c) : Wk E (k + l) a c := by
  induction v with
  | z _ => exact w
  | s v e ih => exact .s (ih w) e
/-- no entry says too little -/
structure Sound (n : Nat) (E : List (Nat × Nat)) (M : Nat → Nat → Nat) : Prop where
  hi : ∀ a b, a < n → b < n → M a b ≤ 99
  wk : ∀ a b, a < n → b < n → M a b < 99 → Wk E (M a b) a b
/-- no entry says too much -/
def Full (n : Nat) (E : List (Nat × Nat)) (m : Nat) (M : Nat → Nat → Nat) : Prop := ∀ k a b, a < n → b < n → Wm E m k a b → M a b ≤ k
/-- a table with one entry put -/
def put (M : Nat → Nat → Nat) (a b v : Nat) : Nat → Nat → Nat := fun x y => if x = a ∧ y = b then v else M x y
theorem put_at (M : Nat → Nat → Nat) (a b v : Nat) : put M a b v a b = v := if_pos ⟨rfl, rfl⟩
theorem put_ne (M : Nat → Nat → Nat) {a b v x y : Nat} (h : ¬ (x = a ∧ y = b)) : put M a b v x y = M x y := if_neg h
/-- within the pass of the middle m: the pairs that are done -/
structure Pass (n : Nat) (E : List (Nat × Nat)) (m : Nat) (M0 : Nat → Nat → Nat) (done : Nat → Nat → Prop) (M : Nat → Nat → Nat) : Prop where
  sn : Sound n E M
  le : ∀ a b, a < n → b < n → M a b ≤ M0 a b
  dn : ∀ a b, a < n → b < n → done a b → M a b ≤ M0 a m + M0 m b
theorem Pass.start {n m : Nat} {E : List (Nat × Nat)} {M : Nat → Nat → Nat} (s : Sound n E M) : Pass n E m M (fun _ _ => False) M :=
  ⟨s, fun _ _ _ _ => Nat.le_refl _, fun _ _ _ _ h => h.elim⟩
theorem Pass.weak {n m : Nat} {E : List (Nat × Nat)} {M0 M : Nat → Nat → Nat} {d d' : Nat → Nat → Prop} (p : Pass n E m M0 d M) (h : ∀ a b, a < n → b < n → d' a b → d a b) : Pass n E m M0 d' M :=
  ⟨p.sn, p.le, fun a b ha hb x => p.dn a b ha hb (h a b ha hb x)⟩
theorem Pass.one {n m : Nat} {E : List (Nat × Nat)} {M0 M : Nat → Nat → Nat} {d : Nat → Nat → Prop} (p : Pass n E m M0 d M) {a b : Nat} (ha : a < n) (hb : b < n) (hm : m < n) :
    Pass n E m M0 (fun x y => d x y ∨ (x = a ∧ y = b)) (put M a b (min (min (M a b) (M a m + M m b)) 99)) := by
  have lo : min (min (M a b) (M a m + M m b)) 99 ≤ M a b := by omega
  refine ⟨⟨fun x y hx hy => ?_, fun x y hx hy h => ?_⟩, fun x y hx hy => ?_, fun x y hx hy h => ?_⟩
  · by_cases e : x = a ∧ y = b
    · obtain ⟨rfl, rfl⟩ := e
      rw [put_at]; omega
    · rw [put_ne _ e]; exact p.sn.hi x y hx hy
  · by_cases e : x = a ∧ y = b
    · obtain ⟨rfl, rfl⟩ := e
      rw [put_at] at h ⊢
      by_cases c : M x y ≤ M x m + M m y
      · have e : min (min (M x y) (M x m + M m y)) 99 = M x y := by
          have := p.sn.hi x y hx hy
          omega
        rw [e] at h ⊢
        exact p.sn.wk x y hx hy h
      · have e : min (min (M x y) (M x m + M m y)) 99 = M x m + M m y := by omega
        rw [e] at h ⊢
        exact (p.sn.wk x m hx hm (by omega)).app (p.sn.wk m y hm hy (by omega))
    · rw [put_ne _ e] at h ⊢
      exact p.sn.wk x y hx hy h
  · by_cases e : x = a ∧ y = b
    · obtain ⟨rfl, rfl⟩ := e
      rw [put_at]
      exact Nat.le_trans lo (p.le x y hx hy)
    · rw [put_ne _ e]; exact p.le x y hx hy
  · by_cases e : x = a ∧ y = b
    · obtain ⟨rfl, rfl⟩ := e
      rw [put_at]
      have := p.le x m hx hm
      have := p.le m y hm hy
      omega
    · rw [put_ne _ e]
      rcases h with h | h
      · exact p.dn x y hx hy h
      · exact absurd h e
theorem Pass.full {n m : Nat} {E : List (Nat × Nat)} {M0 M : Nat → Nat → Nat} {d : Nat → Nat → Prop} (p : Pass n E m M0 d M) (h : ∀ a b, a < n → b < n → d a b) (f : Full n E m M0) (hm : m < n) : Full n E (m + 1) M := by
  intro k a b ha hb w
  rcases w.split with w | ⟨k1, k2, hk, w1, w2⟩
  · exact Nat.le_trans (p.le a b ha hb) (f k a b ha hb w)
  · have := p.dn a b ha hb (h a b ha hb)
    have := f _ _ _ ha hm w1
    have := f _ _ _ hm hb w2
    omega
/-- how far places are, 99 and above for never -/
structure Spans (n : Nat) (E : List (Nat × Nat)) (M : Nat → Nat → Nat) : Prop where
  hi : ∀ a b, a < n → b < n → M a b ≤ 99
  nr : ∀ (a b : Nat) (m : Int), a < n → b < n → m < 99 → ((M a b : Int) ≤ m ↔ Near E m a b)
theorem Spans.of {n : Nat} {E : List (Nat × Nat)} {M : Nat → Nat → Nat} (h : On n E) (s : Sound n E M) (f : Full n E n M) : Spans n E M := by
  refine ⟨s.hi, fun a b m ha hb hm => ⟨fun l => ?_, fun ⟨k, hk, w⟩ => ?_⟩⟩
  · exact ⟨M a b, l, s.wk a b ha hb (by omega)⟩
  · have := f k a b ha hb (w.wm h ha)
    omega
/-- before the first pass: the ways that are put so far -/
def first (W : List (Nat × Nat)) : Nat → Nat → Nat := fun a b => if (a, b) ∈ W then 1 else if a = b then 0 else 99
theorem first_nil (a b : Nat) : first [] a b = 99 * (if a ≠ b then 1 else 0) := by
  unfold first
  by_cases h : a = b <;> simp [h]
theorem first_put {W : List (Nat × Nat)} {a b : Nat} : put (first W) a b 1 = first (W ++ [(a, b)]) := by
  funext x y
  by_cases e : x = a ∧ y = b
  · obtain ⟨rfl, rfl⟩ := e
    rw [put_at]
    unfold first
    rw [if_pos (by simp)]
  · rw [put_ne _ e]
    unfold first
    by_cases h : (x, y) ∈ W
    · rw [if_pos h, if_pos (List.mem_append_left _ h)]
    · have g : (x, y) ∉ W ++ [(a, b)] := fun z => by
        rcases List.mem_append.mp z with z | z
        · exact h z
        · exact e (by simpa using z)
      rw [if_neg h, if_neg g]
theorem first_sound {n : Nat} {E : List (Nat × Nat)} (h : On n E) : Sound n E (first E) := by
  refine ⟨fun a b _ _ => ?_, fun a b _ _ l => ?_⟩
  · unfold first
    split
    · omega
    · split <;> omega
  · unfold first at l ⊢
    by_cases e : (a, b) ∈ E
    · rw [if_pos e] at l ⊢
      exact .s (.z a) e
    · rw [if_neg e] at l ⊢
      by_cases c : a = b
      · rw [if_pos c]
        subst c
        exact .z a
      · rw [if_neg c] at l
        omega
theorem first_full {n : Nat} {E : List (Nat × Nat)} (h : On n E) : Full n E 0 (first E) := by
  intro k a b _ _ w
  cases w with
  | z => 
    unfold first
    rw [if_neg fun z => (h _ z).2.2 rfl, if_pos rfl]
    omega
  | o e =>
    unfold first
    rw [if_pos e]
    omega
  | s w hb e => omega
end RLM
namespace RL
open PySem PySem.Spec PyProof.Rows L2 RLM
theorem yesT {σ : L2.St} {H : Hp} {A B : Hp → Prop} (h : A H) : tYes σ H (fun b H3 => if b = true then A H3 else B H3) := by
  unfold tYes
  exact iteT h
theorem nuMin2_int (i j : Int) : nuMin2 (.int i) (.int j) = some (.int (min i j)) := by
  have e : nuMin2 (.int i) (.int j) = some (if decide (j < i) = true then V.int j else V.int i) := rfl
  rw [e]
  by_cases h : j < i
  · rw [if_pos (decide_eq_true h), Int.min_eq_right (by omega)]
  · rw [if_neg (by simpa using h), Int.min_eq_left (by omega)]
theorem nuMin3_int (i j k : Int) : nuMin3 (.int i) (.int j) (.int k) = some (.int (min (min i j) k)) := by
  unfold nuMin3
  rw [nuMin2_int]
  exact nuMin2_int _ _
theorem cmul99 (b : Bool) : CMul 99 (if b = true then 1 else 0) := by
  exact .inl ⟨by decide, by decide⟩
theorem at0 {xs : List V} {j : Nat} {x : V} (h : xs[j]? = some x) : atI xs (0 + (j : Int)) = some x := by
  rw [Int.zero_add]
  exact atI_nat h
theorem ix0 {n j : Nat} (h : j < n) : ixN n (0 + (j : Int)) = some j := by
  rw [Int.zero_add]
  exact ixN_nat h
/-- a table of numbers: a list of lists -/
structure TabAt (c : Addr) (H : Hp) (D : Addr) (n : Nat) (rs : List Addr) (M : Nat → Nat → Nat) : Prop where
  at_ : H D = some (.lst (rs.map V.ref))
  len : rs.length = n
  nd : rs.Nodup
  nD : D ∉ rs
  nc : D ≠ c ∧ c ∉ rs
  row : ∀ (i : Nat) (r : Addr), rs[i]? = some r → H r = some (.lst ((List.range n).map fun j => vI (M i j)))
theorem TabAt.same {c : Addr} {H H' : Hp} {D : Addr} {n : Nat} {rs : List Addr} {M : Nat → Nat → Nat} (s : Same H H') (h : TabAt c H D n rs M) : TabAt c H' D n rs M :=
  ⟨s _ _ h.at_, h.len, h.nd, h.nD, h.nc, fun i r e => s _ _ (h.row i r e)⟩
theorem TabAt.keep {c : Addr} {H H' : Hp} {D : Addr} {n : Nat} {rs : List Addr} {M : Nat → Nat → Nat} (k : Kc c H H') (h : TabAt c H D n rs M) : TabAt c H' D n rs M :=
  ⟨k _ _ h.nc.1 (fun _ z => by cases z) h.at_, h.len, h.nd, h.nD, h.nc, fun i r e => k _ _ (fun z => h.nc.2 (z ▸ List.mem_of_getElem? e)) (fun _ z => by cases z) (h.row i r e)⟩
theorem TabAt.get {c : Addr} {H : Hp} {D : Addr} {n : Nat} {rs : List Addr} {M : Nat → Nat → Nat} (h : TabAt c H D n rs M) {a : Nat} (ha : a < n) : ∃ r, rs[a]? = some r ∧ H r = some (.lst ((List.range n).map fun j => vI (M a j))) := by
  have e : a < rs.length := by rw [h.len]; exact ha
  exact ⟨rs[a], List.getElem?_eq_getElem e, h.row a _ (List.getElem?_eq_getElem e)⟩
theorem row_get {n b : Nat} {f : Nat → V} (h : b < n) : ((List.range n).map f)[b]? = some (f b) := by
  rw [List.getElem?_map, List.getElem?_range h]
  rfl
theorem TabAt.put {c : Addr} {H : Hp} {D : Addr} {n : Nat} {rs : List Addr} {M : Nat → Nat → Nat} (h : TabAt c H D n rs M) {a b v : Nat} {r : Addr} (hr : rs[a]? = some r) :
    TabAt c (upd H r (.lst (((List.range n).map fun j => vI (M a j)).set b (vI v)))) D n rs (RLM.put M a b v) := by
  have mr : r ∈ rs := List.mem_of_getElem? hr
  refine ⟨?_, h.len, h.nd, h.nD, h.nc, fun i r' e => ?_⟩
  · rw [upd_ne (fun z => h.nD (by rw [z]; exact mr))]
    exact h.at_
  · by_cases ei : i = a
    · subst ei
      rw [hr] at e
      cases e
      rw [upd_same]
      congr 2
      apply List.ext_getElem
      · simp
      · intro j h1 h2
        have hj : j < n := by simpa using h2
        rw [List.getElem_set]
        simp only [List.getElem_map, List.getElem_range]
        by_cases eb : b = j
        · subst eb
          rw [if_pos rfl, put_at]
        · rw [if_neg eb, put_ne _ (fun z => eb z.2.symm)]
    · have ne : r' ≠ r := fun z => by
        subst z
        obtain ⟨h1, e1⟩ := List.getElem?_eq_some_iff.mp e
        obtain ⟨h2, e2⟩ := List.getElem?_eq_some_iff.mp hr
        exact ei ((List.getElem_inj h.nd).mp (e1.trans e2.symm))
      rw [upd_ne ne, h.row i r' e]
      congr 2
      refine List.map_congr_left fun j _ => ?_
      rw [put_ne _ (fun z => ei z.1)]
section
variable {P : Program} {w : World} {K : PySem.W.Frag} {mg : Str → Option Value} {base : Heap}
def spSpans : Sp := fun vs H Q _ => ∃ (c t l : Addr) (n : Nat) (L : List (Addr × Nat × Nat)), vs = [.ref t] ∧ H t = some (.tup [vI n, .ref l]) ∧ PairsAt c H l L ∧ WaysOk n L ∧ 1 ≤ n ∧ n ≤ 8 ∧ (∃ ys, H c = some (.lst ys)) ∧
  ∀ (H' : Hp) (D : Addr) (rs : List Addr) (M : Nat → Nat → Nat), TabAt c H' D n rs M → Spans n (L.map (·.2)) M → Same H H' → Q (.ref D) H'
theorem sc__law_spans : FnScope ["_law_board_here", "_law_many", "_law_ways_here", "_law_spans_here", "_law_one", "_law_other", "_law_middle"] ["_law_board_here"] (defScope s__law_spans) := ⟨rfl, rfl, rfl, by decide +kernel, rfl, by decide +kernel, by decide +kernel⟩
theorem ok_spans (T : Tx K mg) : Has P w K mg base (He.ga K "_law_spans") 1 ["_law_board_here"] spSpans := by
  obtain ⟨fd, F⟩ := T.d__law_spans
  refine ⟨⟨fd, F.ok sc__law_spans (fun vs H Q E h => ?_) (fun cdv A outer s H vs Q E hr h => ?_), F.bindsN fun _ _ _ _ _ _ us hl => match us, hl with | [_], _ => rfl⟩, F.kp⟩
  · obtain ⟨c, t, l, n, L, rfl, _⟩ := h
    rfl
  · obtain ⟨c, t, l, n, L, rfl, ht, PL, WO, n1, n8, ⟨ys, hc⟩, h⟩ := h
    have hE : On n (L.map (·.2)) := fun p hp => by
      obtain ⟨q, hq, rfl⟩ := List.mem_map.mp hp
      exact WO.2.1 q hq
    refine ⟨_, PSs.nox (pss_cons (ps_asg (pv 0) (pgT (K := K) (n := 2) rfl (pgs_cons (pg_name (i := 1) sc__law_spans.nd rfl (Or.inr rfl)) (pgs_cons (pg_name (i := 2) sc__law_spans.nd rfl (Or.inl rfl)) pgs_nil))))
      (pss_cons (ps_setLc (i := 3) (own := [("_law_one", 4)]) (g := (gName 4)) (tt := tYes) rfl sc__law_spans.nd rfl rfl (sw_true rfl rfl rfl (by decide +kernel)) (pi_range1 (by rfl) T.free_range (pa_cons (pv 1) pa_nil)) (blkOk_by (by kernel_rfl)) (fun _ _ _ _ _ => (pg_name (i := 4) sc__law_spans.nd rfl (Or.inr rfl))) (fun _ _ _ _ _ => pts_nil) (fun _ _ _ _ _ => (pe_lc (own := [("_law_other", 5)]) (g := (gName 5)) (tt := tYes) rfl sc__law_spans.nd (pi_range1 (by rfl) T.free_range (pa_cons (pv 1) pa_nil)) (blkOk_by (by kernel_rfl)) (fun _ _ _ _ _ => (pg_name (i := 5) sc__law_spans.nd rfl (Or.inl rfl))) (fun _ _ _ _ _ => pts_nil) (fun _ _ _ _ _ => (pe_op op_mul pe_int (pe_callTy call_int1 (by rfl) T.free_int (by decide +kernel) (pa_cons (pe_cmpR op_ne (pv 4) (pv 5) (nomark _)) pa_nil)))))))
      (pss_cons (ps_for PassesOwn.never rfl (piL (K := K) (pv 2)) (pgT (K := K) (n := 2) rfl (pgs_cons (pg_name (i := 4) sc__law_spans.nd rfl (Or.inl rfl)) (pgs_cons (pg_name (i := 5) sc__law_spans.nd rfl (Or.inl rfl)) pgs_nil))) (pss_one (ps_asg pe_int (pg_sub (pe_ix (ixL (K := K)) (pv 3) (pv 4) (fun _ _ => rfl)) (pv 5) set_list))))
      (pss_cons (ps_for PassesOwn.never rfl (pi_range1 (by rfl) T.free_range (pa_cons (pv 1) pa_nil)) (pg_name (i := 6) sc__law_spans.nd rfl (Or.inl rfl)) (pss_one (ps_for PassesOwn.never rfl (pi_range1 (by rfl) T.free_range (pa_cons (pv 1) pa_nil)) (pg_name (i := 4) sc__law_spans.nd rfl (Or.inl rfl)) (pss_one (ps_for PassesOwn.never rfl (pi_range1 (by rfl) T.free_range (pa_cons (pv 1) pa_nil)) (pg_name (i := 5) sc__law_spans.nd rfl (Or.inl rfl)) (pss_one (ps_asg (pe_callB (call_min3Nu rfl) (by rfl) T.free_min (by decide +kernel) (pa_cons (pe_ix (ixL (K := K)) (pe_ix (ixL (K := K)) (pv 3) (pv 4) (fun _ _ => rfl)) (pv 5) (fun _ _ => rfl)) (pa_cons (pe_op op_add (pe_ix (ixL (K := K)) (pe_ix (ixL (K := K)) (pv 3) (pv 4) (fun _ _ => rfl)) (pv 6) (fun _ _ => rfl)) (pe_ix (ixL (K := K)) (pe_ix (ixL (K := K)) (pv 3) (pv 6) (fun _ _ => rfl)) (pv 5) (fun _ _ => rfl))) (pa_cons pe_int pa_nil)))) (pg_sub (pe_ix (ixL (K := K)) (pv 3) (pv 4) (fun _ _ => rfl)) (pv 5) set_list))))))))
      (pss_one (ps_ret (pv 3))))))), ?_⟩
    refine ⟨_, rfl, t, _, rfl, SqT.of ht, rfl, _, _, rfl, _, _, rfl, rfl, ?_⟩
    refine ⟨_, rfl, (n : Int), rfl, by omega, by omega, fun D hD => ?_⟩
    have Dc : D ≠ c := fun z => by rw [z, hc] at hD; cases hD
    refine lc_range (lo := 0) (n := ((n : Nat) : Int).toNat) (fun i H1 => ∃ rs : List Addr, H1 D = some (.lst (rs.map V.ref)) ∧ rs.length = i ∧ rs.Nodup ∧ (∀ r ∈ rs, H r = none) ∧ D ∉ rs ∧ (∀ (k : Nat) (r : Addr), rs[k]? = some r → H1 r = some (.lst ((List.range n).map fun j => vI (first [] k j)))) ∧ Same H H1)
      ⟨[], upd_same, rfl, List.nodup_nil, by simp, by simp, fun k r e => (by simp at e), same_upd hD⟩ ?_ ?_
    · rintro i H1 hi ⟨rs, hrs, lrs, ndr, Hr, nD, row, s1⟩
      have hin : i < n := by omega
      refine ⟨rfl, yesT ?_⟩
      refine ⟨_, rfl, (n : Int), rfl, by omega, by omega, fun D2 hD2 => ?_⟩
      have D2D : D ≠ D2 := fun z => by rw [← z, hrs] at hD2; cases hD2
      refine lc_range (lo := 0) (n := ((n : Nat) : Int).toNat) (fun j H2 => H2 D2 = some (.lst ((List.range j).map fun j => vI (first [] i j))) ∧ Same H1 H2)
        ⟨upd_same, same_upd hD2⟩ ?_ ?_
      · rintro j H2 hj ⟨h2, s2⟩
        refine ⟨rfl, yesT ?_⟩
        refine ⟨_, rfl, _, rfl, ?_⟩
        refine ⟨rfl, .inr ⟨_, rfl, _, _, rfl, rfl, ?_, ?_⟩⟩
        · exact cmul99 _
        refine ⟨_, h2, ?_, ?_, same_mut s2 hD2⟩
        · rw [List.length_map, List.length_range]
          exact Nat.lt_of_le_of_lt (show j ≤ 8 by omega) (by decide)
        · rw [upd_same, List.range_succ, List.map_append]
          congr 3
          show [V.int (99 * _)] = [vI (first [] i j)]
          rw [first_nil]
          have zi : (0 : Int) + (i : Int) = (i : Nat) := Int.zero_add _
          have zj : (0 : Int) + (j : Int) = (j : Nat) := Int.zero_add _
          rw [zi, zj]
          by_cases e : i = j
          · subst e
            simp [vI]
          · have : ¬ ((i : Int) = (j : Int)) := by omega
            simp [e, this, vI]
      · rintro H2 ⟨h2, s2⟩
        rw [Int.toNat_natCast] at h2
        have Hd2 : H D2 = none := s1.free hD2
        have rD2 : D2 ∉ rs := fun z => by
          obtain ⟨k, hk, e⟩ := List.getElem_of_mem z
          have := row k D2 (by rw [List.getElem?_eq_getElem hk, e])
          rw [this] at hD2
          cases hD2
        refine ⟨_, s2 _ _ hrs, ?_, rs ++ [D2], ?_, by simp [lrs], ?_, ?_, ?_, ?_, same_mut (s1.trans s2) hD⟩
        · rw [List.length_map]
          exact Nat.lt_of_le_of_lt (show rs.length ≤ 8 by omega) (by decide)
        · rw [upd_same, List.map_append]
          rfl
        · rw [List.nodup_append]
          refine ⟨ndr, by simp, fun x hx y hy z => ?_⟩
          rw [z, List.mem_singleton.mp hy] at hx
          exact rD2 hx
        · intro r hr
          rcases List.mem_append.mp hr with hr | hr
          · exact Hr r hr
          · rw [List.mem_singleton.mp hr]
            exact Hd2
        · intro z
          rcases List.mem_append.mp z with z | z
          · exact nD z
          · exact D2D (List.mem_singleton.mp z)
        · intro k r e
          by_cases hk : k < rs.length
          · rw [List.getElem?_append_left hk] at e
            have mr : r ∈ rs := List.mem_of_getElem? e
            rw [upd_ne (fun z : r = D => nD (z ▸ mr))]
            exact s2 _ _ (row k r e)
          · rw [List.getElem?_append_right (by omega)] at e
            have ek : k = rs.length := by
              obtain ⟨h1, _⟩ := List.getElem?_eq_some_iff.mp e
              simp at h1
              omega
            rw [ek, Nat.sub_self] at e
            cases e
            rw [upd_ne (Ne.symm D2D), h2, ek, lrs]
    · rintro H1 ⟨rs, hrs, lrs, ndr, Hr, nD, row, s1⟩
      rw [Int.toNat_natCast] at lrs
      have cr : c ∉ rs := fun z => by
        have := Hr c z
        rw [hc] at this
        cases this
      have T1 : TabAt c H1 D n rs (first []) := ⟨hrs, lrs, ndr, nD, ⟨Dc, cr⟩, row⟩
      refine ⟨_, rfl, l, rfl, ⟨_, SqL.of (s1 _ _ PL.at_)⟩, for_list (K := K) (a := l) (xs := L.map fun q => V.ref q.1) (fun i σ H2 => ∃ (v4 v5 : Option V), σ = [some (.ref t), some (vI n), some (.ref l), some (.ref D), v4, v5, none] ∧ TabAt c H2 D n rs (first ((L.take i).map (·.2))) ∧ Same H H2)
        ⟨none, none, rfl, T1, s1⟩ (fun i σ H2 _ ⟨_, _, _, _, s2⟩ => SqL.of (s2 _ _ PL.at_)) ?_ ?_⟩
      · rintro i x σ H2 hx ⟨v4, v5, rfl, T2, s2⟩
        rw [List.getElem?_map] at hx
        obtain ⟨q, hq, rfl⟩ : ∃ q, L[i]? = some q ∧ V.ref q.1 = x := by
          cases e : L[i]? with
          | none => rw [e] at hx; cases hx
          | some q => rw [e] at hx; exact ⟨q, rfl, Option.some.inj hx⟩
        have mq := List.mem_of_getElem? hq
        have et : L.take (i + 1) = L.take i ++ [q] := by
          rw [List.take_add_one, hq]
          rfl
        obtain ⟨a1, b1, _⟩ := WO.2.1 q mq
        obtain ⟨r, hr1, hr2⟩ := T2.get a1
        refine ⟨q.1, _, rfl, SqT.of (s2 _ _ (PL.tup q mq)), rfl, _, _, rfl, _, _, rfl, rfl, ?_⟩
        refine ⟨_, rfl, _, rfl, D, _, _, _, rfl, rfl, SqL.of T2.at_, atI_nat (get_map hr1), ?_⟩
        refine ⟨_, rfl, r, _, _, q.2.2, rfl, rfl, hr2, ixN_nat (by simp [b1]), ?_⟩
        refine ⟨_, _, rfl, ?_, same_mut s2 (Hr r (List.mem_of_getElem? hr1))⟩
        rw [et, List.map_append, List.map_singleton, ← first_put]
        exact T2.put hr1
      · rintro σ H2 ⟨v4, v5, rfl, T2, s2⟩
        rw [List.length_map, List.take_length] at T2
        refine ⟨_, rfl, (n : Int), rfl, by omega, by omega, for_range (lo := 0) (n := ((n : Nat) : Int).toNat) (fun m σ H3 => ∃ (M : Nat → Nat → Nat) (v4 v5 v6 : Option V), σ = [some (.ref t), some (vI n), some (.ref l), some (.ref D), v4, v5, v6] ∧ TabAt c H3 D n rs M ∧ Sound n (L.map (·.2)) M ∧ Full n (L.map (·.2)) m M ∧ Same H H3)
          ⟨_, v4, v5, none, rfl, T2, first_sound hE, first_full hE, s2⟩ ?_ ?_⟩
        · rintro m σ H3 hm ⟨M0, v4, v5, v6, rfl, T3, S3, F3, s3⟩
          have hmn : m < n := by omega
          refine ⟨_, rfl, (n : Int), rfl, by omega, by omega, for_range (lo := 0) (n := ((n : Nat) : Int).toNat) (fun a σ H4 => ∃ (M : Nat → Nat → Nat) (v4 v5 : Option V), σ = [some (.ref t), some (vI n), some (.ref l), some (.ref D), v4, v5, some (.int (0 + (m : Int)))] ∧ TabAt c H4 D n rs M ∧ Pass n (L.map (·.2)) m M0 (fun x _ => x < a) M ∧ Same H H4)
            ⟨M0, v4, v5, rfl, T3, (Pass.start S3).weak (fun x y _ _ z => absurd z (Nat.not_lt_zero _)), s3⟩ ?_ ?_⟩
          · rintro a σ H4 ha ⟨M1, v4, v5, rfl, T4, P4, s4⟩
            have han : a < n := by omega
            refine ⟨_, rfl, (n : Int), rfl, by omega, by omega, for_range (lo := 0) (n := ((n : Nat) : Int).toNat) (fun b σ H5 => ∃ (M : Nat → Nat → Nat) (v5 : Option V), σ = [some (.ref t), some (vI n), some (.ref l), some (.ref D), some (.int (0 + (a : Int))), v5, some (.int (0 + (m : Int)))] ∧ TabAt c H5 D n rs M ∧ Pass n (L.map (·.2)) m M0 (fun x y => x < a ∨ (x = a ∧ y < b)) M ∧ Same H H5)
              ⟨M1, v5, rfl, T4, P4.weak (fun x y _ _ z => z.elim id fun z => absurd z.2 (Nat.not_lt_zero _)), s4⟩ ?_ ?_⟩
            · rintro b σ H5 hb ⟨M, v5, rfl, T5, P5, s5⟩
              have hbn : b < n := by omega
              obtain ⟨ra, ha1, ha2⟩ := T5.get han
              obtain ⟨rm, hm1, hm2⟩ := T5.get hmn
              refine ⟨_, rfl, _, rfl, D, _, _, _, rfl, rfl, SqL.of T5.at_, at0 (get_map ha1), _, rfl, ra, _, _, _, rfl, rfl, SqL.of ha2, at0 (row_get hbn), ?_⟩
              refine ⟨_, rfl, _, rfl, D, _, _, _, rfl, rfl, SqL.of T5.at_, at0 (get_map ha1), _, rfl, ra, _, _, _, rfl, rfl, SqL.of ha2, at0 (row_get hmn), ?_⟩
              refine ⟨_, rfl, _, rfl, D, _, _, _, rfl, rfl, SqL.of T5.at_, at0 (get_map hm1), _, rfl, rm, _, _, _, rfl, rfl, SqL.of hm2, at0 (row_get hbn), ?_⟩
              refine ⟨_, _, rfl, rfl, ?_⟩
              refine ⟨_, _, _, _, rfl, nuMin3_int _ _ _, ?_⟩
              refine ⟨_, rfl, _, rfl, D, _, _, _, rfl, rfl, SqL.of T5.at_, at0 (get_map ha1), ?_⟩
              refine ⟨_, rfl, ra, _, _, b, rfl, rfl, ha2, ix0 (by simp [hbn]), ?_⟩
              refine ⟨RLM.put M a b (min (min (M a b) (M a m + M m b)) 99), _, rfl, ?_, ?_, same_mut s5 (Hr ra (List.mem_of_getElem? ha1))⟩
              · have ev : V.int (min (min ((M a b : Nat) : Int) ((M a m : Nat) + (M m b : Nat))) 99) = vI (min (min (M a b) (M a m + M m b)) 99) := by
                  unfold vI
                  congr 1
                  omega
                rw [ev]
                exact T5.put ha1
              · refine (P5.one han hbn hmn).weak fun x y _ _ z => ?_
                omega
            · rintro σ H5 ⟨M, v5, rfl, T5, P5, s5⟩
              rw [Int.toNat_natCast] at P5
              refine ⟨M, _, _, rfl, T5, P5.weak (fun x y _ hy z => ?_), s5⟩
              omega
          · rintro σ H4 ⟨M, v4, v5, rfl, T4, P4, s4⟩
            rw [Int.toNat_natCast] at P4
            exact ⟨M, _, _, _, rfl, T4, P4.sn, P4.full (fun x y hx _ => hx) F3 hmn, s4⟩
        · rintro σ H3 ⟨M, v4, v5, v6, rfl, T3, S3, F3, s3⟩
          rw [Int.toNat_natCast] at F3
          exact ⟨_, rfl, h H3 D rs M T3 (Spans.of hE S3 F3) s3⟩
end
end RL
namespace RL
open PySem PySem.Spec PyProof.Rows L2 RLM
section
variable {P : Program} {w : World} {K : PySem.W.Frag} {mg : Str → Option Value} {base : Heap}
/-- [b for b in range(n) if t(b)]: the places of which t holds -/
theorem reach_any {n : Nat} {E : List (Nat × Nat)} {M : Nat → Nat → Nat} {ps : List Nat} {p : Nat → Prop} (S : Spans n E M) (PO : PaceOk n ps) {b : Nat} (hb : b < n) :
    (((lotP n p).map fun a => decide (M a b ≤ ps.getD a 0)).any id = true) ↔ stepP n E ps p b := by
  have key : ∀ a, a < n → (M a b ≤ ps.getD a 0 ↔ Near E ((ps.getD a 0 : Nat) : Int) a b) := fun a ha => by
    have h7 : ps.getD a 0 ≤ 7 := PO.2 _ (List.mem_of_getElem? (pace_get PO ha))
    rw [← S.nr a b _ ha hb (by omega)]
    omega
  rw [List.any_eq_true]
  constructor
  · rintro ⟨v, hv, ev⟩
    obtain ⟨a, ha, rfl⟩ := List.mem_map.mp hv
    have m := mem_lotP.mp ha
    exact ⟨a, m.1, m.2, (key a m.1).1 (of_decide_eq_true ev)⟩
  · rintro ⟨a, h1, h2, h3⟩
    exact ⟨true, List.mem_map.mpr ⟨a, mem_lotP.mpr ⟨h1, h2⟩, decide_eq_true ((key a h1).2 h3)⟩, rfl⟩
def spReached (K : PySem.W.Frag) : Sp := fun vs H Q _ => ∃ (c D tp tl : Addr) (rs : List Addr) (M : Nat → Nat → Nat) (n : Nat) (E : List (Nat × Nat)) (ps : List Nat) (p : Nat → Prop), vs = [.ref D, .ref tp, .ref tl] ∧ TabAt c H D n rs M ∧ Spans n E M ∧ n ≤ 8 ∧ H tp = some (.tup (ps.map vI)) ∧ PaceOk n ps ∧ H tl = some (.tup ((lotP n p).map vI)) ∧
  ∀ H' t, H' t = some (.tup ((lotP n (stepP n E ps p)).map vI)) → Same H H' → Q (.ref t) H'
theorem sc__law_reached : FnScope ["_law_spans_here", "_law_pace_here", "_law_lot_here", "_law_to", "_law_one"] ["_law_spans_here", "_law_pace_here", "_law_lot_here"] (defScope s__law_reached) := ⟨rfl, rfl, rfl, by decide +kernel, rfl, by decide +kernel, by decide +kernel⟩
theorem ok_reached (T : Tx K mg) : Has P w K mg base (He.ga K "_law_reached") 1 ["_law_spans_here", "_law_pace_here", "_law_lot_here"] (spReached K) := by
  obtain ⟨fd, F⟩ := T.d__law_reached
  refine ⟨⟨fd, F.ok sc__law_reached (fun vs H Q E h => ?_) (fun cdv A outer s H vs Q E hr h => ?_), F.bindsN fun _ _ _ _ _ _ us hl => match us, hl with | [_, _, _], _ => rfl⟩, F.kp⟩
  · obtain ⟨c, D, tp, tl, rs, M, n, E, ps, p, rfl, _⟩ := h
    rfl
  · obtain ⟨c, D, tp, tl, rs, M, n, E, ps, p, rfl, TA, S, n8, htp, PO, htl, h⟩ := h
    refine ⟨_, PSs.nox (pss_one (ps_ret (pe_callTy (tupK (K := K)) (by rfl) T.free_tuple (by decide +kernel) (pa_cons (pe_lc (own := [("_law_to", 3)]) (g := (gName 3)) rfl sc__law_reached.nd (pi_range1 (by rfl) T.free_range (pa_cons (pe_callB (lenK (K := K)) (by rfl) T.free_len (by decide +kernel) (pa_cons (pv 0) pa_nil)) pa_nil)) (blkOk_by (by kernel_rfl)) (fun _ _ _ _ _ => (pg_name (i := 3) sc__law_reached.nd rfl (Or.inr rfl))) (fun _ _ _ _ _ => (pts_one (pt_val (pe_callB (anyK (K := K)) (by rfl) T.free_any (by decide +kernel) (pa_cons (pe_lc (own := [("_law_one", 4)]) (g := (gName 4)) (tt := tYes) rfl sc__law_reached.nd (piT (K := K) (pv 2)) (blkOk_by (by kernel_rfl)) (fun _ _ _ _ _ => (pg_name (i := 4) sc__law_reached.nd rfl (Or.inl rfl))) (fun _ _ _ _ _ => pts_nil) (fun _ _ _ _ _ => (pe_cmpR op_le (pe_ix (ixL (K := K)) (pe_ix (ixL (K := K)) (pv 0) (pv 4) (fun _ _ => rfl)) (pv 3) (fun _ _ => rfl)) (pe_ix (ixT (K := K)) (pv 1) (pv 4) (fun _ _ => rfl)) (nomark _)))) pa_nil))))) (fun _ _ _ _ _ => (pv 3))) pa_nil)))), ?_⟩
    refine ⟨_, rfl, D, _, rfl, .inl (SqL.of TA.at_), _, rfl, ?_⟩
    rw [List.length_map, TA.len]
    refine ⟨by omega, by omega, fun D1 hD1 => ?_⟩
    refine lc_range (lo := 0) (n := ((n : Nat) : Int).toNat) (fun j H1 => ∃ qs : List Nat, H1 D1 = some (.lst (qs.map vI)) ∧ qs.Pairwise (· < ·) ∧ (∀ b, b ∈ qs ↔ b < j ∧ stepP n E ps p b) ∧ qs.length ≤ j ∧ Same H H1)
      ⟨[], upd_same, List.Pairwise.nil, fun b => (by simp), Nat.zero_le _, same_upd hD1⟩ ?_ ?_
    · rintro j H1 hj ⟨qs, hq, sq, mq, lq, s1⟩
      have hjn : j < n := by omega
      refine ⟨rfl, ?_⟩
      refine ⟨_, rfl, tl, rfl, ⟨_, SqT.of (s1 _ _ htl)⟩, fun D2 hD2 => ?_⟩
      have lW : (lotP n p).length ≤ n := lotP_len _ _
      refine lc_tup (K := K) (a := tl) (xs := (lotP n p).map vI) (fun k H2 => H2 D2 = some (.lst ((((lotP n p).take k).map fun a => decide (M a j ≤ ps.getD a 0)).map V.bl)) ∧ Same H1 H2)
        ⟨upd_same, same_upd hD2⟩ (fun k H2 _ ⟨_, s2⟩ => SqT.of (s2 _ _ (s1 _ _ htl))) ?_ ?_
      · rintro k z H2 hz ⟨hb, s2⟩
        obtain ⟨a, ha, rfl⟩ : ∃ a, (lotP n p)[k]? = some a ∧ vI a = z := by
          rw [List.getElem?_map] at hz
          cases e : (lotP n p)[k]? with
          | none => rw [e] at hz; cases hz
          | some b => rw [e] at hz; exact ⟨b, rfl, Option.some.inj hz⟩
        have kl : k < (lotP n p).length := (List.getElem?_eq_some_iff.mp ha).1
        have an := (mem_lotP.mp (List.mem_of_getElem? ha)).1
        have s12 := s1.trans s2
        obtain ⟨r, hr1, hr2⟩ := (TA.same s12).get an
        refine ⟨rfl, yesT ?_⟩
        refine ⟨_, rfl, _, rfl, D, _, _, _, rfl, rfl, SqL.of (s12 _ _ TA.at_), atI_nat (get_map hr1), _, rfl, r, _, _, _, rfl, rfl, SqL.of hr2, at0 (row_get hjn), ?_⟩
        refine ⟨_, rfl, _, rfl, tp, _, _, _, rfl, rfl, SqT.of (s12 _ _ htp), atI_nat (get_map (pace_get PO an)), ?_⟩
        refine ⟨_, _, rfl, rfl, _, hb, ?_, ?_, same_mut s2 hD2⟩
        · rw [List.length_map, List.length_map, List.length_take]
          exact Nat.lt_of_le_of_lt (show min k (lotP n p).length ≤ 8 by omega) (by decide)
        · rw [upd_same, List.take_add_one, ha, List.map_append, List.map_append]
          have e : decide (((M a j : Nat) : Int) ≤ ((ps.getD a 0 : Nat) : Int)) = decide (M a j ≤ ps.getD a 0) := decide_eq_decide.mpr Int.ofNat_le
          show some (HO.lst (_ ++ [V.bl (decide (((M a j : Nat) : Int) ≤ ((ps.getD a 0 : Nat) : Int)))])) = _
          rw [e]
          rfl
      · rintro H2 ⟨hb, s2⟩
        rw [List.length_map, List.take_length] at hb
        refine ⟨D2, _, rfl, SqL.of hb, _, rfl, ?_⟩
        have s12 := s1.trans s2
        have key := reach_any (p := p) S PO hjn
        have hq2 := s2 _ _ hq
        refine ite2 (fun z => ?_) (fun z => ?_)
        · have bp := key.1 z
          refine ⟨_, rfl, _, hq2, ?_, qs ++ [j], ?_, ?_, fun b => ?_, ?_, same_mut s12 hD1⟩
          · rw [List.length_map]
            exact Nat.lt_of_le_of_lt (show qs.length ≤ 8 by omega) (by decide)
          · rw [upd_same, List.map_append, Int.zero_add]
            rfl
          · rw [List.pairwise_append]
            refine ⟨sq, List.pairwise_singleton _ _, fun x hx y hy => ?_⟩
            rw [List.mem_singleton.mp hy]
            exact ((mq x).1 hx).1
          · rw [List.mem_append, mq b, List.mem_singleton]
            constructor
            · rintro (⟨z1, z2⟩ | z1)
              · exact ⟨by omega, z2⟩
              · rw [z1]
                exact ⟨by omega, bp⟩
            · rintro ⟨z1, z2⟩
              rcases Nat.lt_or_ge b j with k | k
              · exact .inl ⟨k, z2⟩
              · exact .inr (by omega)
          · rw [List.length_append]
            simp
            omega
        · refine ⟨qs, hq2, sq, fun b => ?_, by omega, s12⟩
          rw [mq b]
          constructor
          · rintro ⟨z1, z2⟩
            exact ⟨by omega, z2⟩
          · rintro ⟨z1, z2⟩
            refine ⟨?_, z2⟩
            rcases Nat.lt_or_ge b j with k | k
            · exact k
            · exfalso
              have e : b = j := by omega
              rw [e] at z2
              exact z (key.2 z2)
    · rintro H1 ⟨qs, hq, sq, mq, lq, s1⟩
      rw [Int.toNat_natCast] at mq
      refine ⟨D1, _, rfl, .inl ⟨SqL.of hq, fun t ht => ?_⟩⟩
      refine h _ t ?_ (s1.trans (same_upd ht))
      rw [upd_same, lotP_of sq mq]
/-! ### a board, its spans, the program's own board -/
def spGround (K : PySem.W.Frag) : Sp := fun vs H Q _ => ∃ (b c : Addr), vs = [.ref b, vI 8] ∧ Box b c H ∧ ∀ (H' : Hp) (u t l D x n : Nat) (L : List (Addr × Nat × Nat)) (rs : List Addr) (M : Nat → Nat → Nat) (E : List (Nat × Nat)), 1 ≤ n → n ≤ 8 → H' u = some (.tup [.ref t, .ref D, .ref x]) → H' t = some (.tup [vI n, .ref l]) → PairsAt c H' l L → WaysOk n L → (∀ e, e ∈ E ↔ e ∈ L.map (·.2)) → TabAt c H' D n rs M → Spans n E M → BoardAt K c H' x n E → Kc c H H' → Box b c H' → Q (.ref u) H'
theorem spans_congr {n : Nat} {E E' : List (Nat × Nat)} {M : Nat → Nat → Nat} (h : ∀ e, e ∈ E' ↔ e ∈ E) (S : Spans n E M) : Spans n E' M :=
  ⟨S.hi, fun a b m ha hb hm => (S.nr a b m ha hb hm).trans ⟨fun ⟨k, h1, h2⟩ => ⟨k, h1, h2.mono fun p hp => (h p).2 hp⟩, fun ⟨k, h1, h2⟩ => ⟨k, h1, h2.mono fun p hp => (h p).1 hp⟩⟩⟩
theorem sc__law_ground : FnScope ["_law_box_here", "_law_most", "_law_board_here"] ["_law_box_here", "_law_most"] (defScope s__law_ground) := ⟨rfl, rfl, rfl, by decide +kernel, rfl, by decide +kernel, by decide +kernel⟩
theorem ok_ground (T : Tx K mg) : Has P w K mg base (He.ga K "_law_ground") 7 ["_law_box_here", "_law_most"] (spGround K) := by
  obtain ⟨⟨fd_law_board, F_law_board, b_law_board⟩, kp_law_board⟩ := ok_board (P := P) (w := w) (base := base) T
  obtain ⟨⟨fd_law_spans, F_law_spans, b_law_spans⟩, kp_law_spans⟩ := ok_spans (P := P) (w := w) (base := base) T
  obtain ⟨⟨fd_law_made, F_law_made, b_law_made⟩, kp_law_made⟩ := ok_made (P := P) (w := w) (base := base) T
  obtain ⟨fd, F⟩ := T.d__law_ground
  refine ⟨⟨fd, F.ok sc__law_ground (fun vs H Q E h => ?_) (fun cdv A outer s H vs Q E hr h => ?_), F.bindsN fun _ _ _ _ _ _ us hl => match us, hl with | [_, _], _ => rfl⟩, F.kp⟩
  · obtain ⟨b, c, rfl, _⟩ := h
    rfl
  · obtain ⟨b, c, rfl, B, h⟩ := h
    have hr_law_board : Room 4 _ := hr.mono (by decide)
    have hr_law_spans : Room 1 _ := hr.mono (by decide)
    have hr_law_made : Room 6 _ := hr.mono (by decide)
    refine ⟨_, PSs.nox (pss_cons (ps_set (i := 2) sc__law_ground.nd rfl (Or.inl rfl) (pe_call F_law_board hr_law_board rfl T.glo_law_board kp_law_board b_law_board .nil pass0 (pa_cons (pv 0) (pa_cons (pv 1) pa_nil))))
      (pss_one (ps_ret (pe_tup (pa_cons (pv 2) (pa_cons (pe_call F_law_spans hr_law_spans rfl T.glo_law_spans kp_law_spans b_law_spans .nil pass0 (pa_cons (pv 2) pa_nil)) (pa_cons (pe_call F_law_made hr_law_made rfl T.glo_law_made kp_law_made b_law_made .nil pass0 (pa_cons (pv 2) pa_nil)) pa_nil))))))), ?_⟩
    refine ⟨_, rfl, _, rfl, b, c, rfl, B, fun H1 t n l L n1 n8 ht PL WO k1 B1 => ?_⟩
    refine ⟨_, rfl, _, rfl, c, t, l, n, L, rfl, ht, PL, WO, n1, n8, B1.lst, fun H2 D rs M TA S s2 => ?_⟩
    refine ⟨_, rfl, c, t, l, n, L, rfl, s2 _ _ ht, PL.same s2, WO, n1, n8, (B1.same s2).lst, fun H3 x E Bd mE _ s3 => ?_⟩
    refine ⟨(by show 3 ≤ sizeLine; decide), fun u hu => ?_⟩
    have s4 := same_upd (o := HO.tup [V.ref t, V.ref D, V.ref x]) hu
    have s24 := (s2.trans s3).trans s4
    exact h _ u t l D x n L rs M E n1 n8 upd_same (s24 _ _ ht) (PL.same s24) WO mE (TA.same (s3.trans s4)) (spans_congr mE S) (Bd.same s4) (k1.trans (kc_same s24)) (B1.same s24)
end
end RL
namespace RL
open PySem PySem.Spec PyProof.Rows L2 RLM
theorem isiTK {X : Cx} {K : PySem.W.Frag} (h : X.K = K := by rfl) : CallR X (.builtin "isinstance") (rIsiT K) := h ▸ call_isiT
/-! ### things that are alike, to a depth -/
def ScalV (x y : V) : Prop := x = y ∧ ((∃ i, x = .int i) ∨ (∃ b, x = .bl b) ∨ x = .non ∨ ∃ s, x = .str s)
def SameV : Nat → Hp → V → V → Prop
  | 0, _, x, y => ScalV x y
  | d + 1, H, x, y => ScalV x y ∨ ∃ (a b : Addr) (xs ys : List V), x = .ref a ∧ y = .ref b ∧ ((Rd H a (.lst xs) ∧ Rd H b (.lst ys)) ∨ (Rd H a (.tup xs) ∧ Rd H b (.tup ys))) ∧ xs.length = ys.length ∧ xs.length ≤ 1000 ∧ ∀ (k : Nat) (u v : V), xs[k]? = some u → ys[k]? = some v → SameV d H u v
theorem rd_same {H H' : Hp} {a : Addr} {o : HO} (s : Same H H') (h : Rd H a o) : Rd H' a o := by
  rcases h with h | ⟨u, h⟩
  · exact .inl (s _ _ h)
  · exact .inr ⟨u, s _ _ h⟩
theorem SameV.same {H H' : Hp} (s : Same H H') : ∀ {d : Nat} {x y : V}, SameV d H x y → SameV d H' x y
  | 0, _, _, h => h
  | d + 1, x, y, h => by
    rcases h with h | ⟨a, b, xs, ys, rfl, rfl, ab, l1, l2, each⟩
    · exact .inl h
    · refine .inr ⟨a, b, xs, ys, rfl, rfl, ?_, l1, l2, fun k u v h1 h2 => SameV.same s (each k u v h1 h2)⟩
      rcases ab with ⟨h1, h2⟩ | ⟨h1, h2⟩
      · exact .inl ⟨rd_same s h1, rd_same s h2⟩
      · exact .inr ⟨rd_same s h1, rd_same s h2⟩
theorem SameV.of0 {H : Hp} : ∀ {d : Nat} {x y : V}, ScalV x y → SameV d H x y
  | 0, _, _, h => h
  | _ + 1, _, _, h => .inl h
theorem ty_lst {K : PySem.W.Frag} {H : Hp} {a : Addr} {xs : List V} (h : Rd H a (.lst xs)) : TyX K H (.ref a) (.type "list") := by
  rcases h with h | ⟨o, h⟩
  · exact .base (.lst h)
  · exact .base (.frz h)
theorem ty_tup {K : PySem.W.Frag} {H : Hp} {a : Addr} {xs : List V} (h : Rd H a (.tup xs)) : TyX K H (.ref a) (.type "tuple") := by
  rcases h with h | ⟨o, h⟩
  · exact .base (.tup h)
  · exact .fTuple h
section
variable {P : Program} {w : World} {K : PySem.W.Frag} {mg : Str → Option Value} {base : Heap}
def spSame : Nat → Sp
  | 0 => fun _ _ _ _ => False
  | d + 1 => fun vs H Q _ => ∃ x y : V, vs = [x, y] ∧ SameV d H x y ∧ ∀ H', Same H H' → Q (.bl true) H'
theorem sc__law_same : FnScope ["_law_found", "_law_due", "_law_k"] ["_law_found", "_law_due"] (defScope s__law_same) := ⟨rfl, rfl, rfl, by decide +kernel, rfl, by decide +kernel, by decide +kernel⟩
theorem ok_same (T : Tx K mg) : ∀ d : Nat, Has P w K mg base (He.ga K "_law_same") (d + 1) ["_law_found", "_law_due"] (spSame d)
  | 0 => by
    obtain ⟨fd, F⟩ := T.d__law_same
    exact ⟨⟨fd, F.ok sc__law_same (fun vs H Q E h => h.elim) (fun cdv A outer s H vs Q E hr h => h.elim), F.bindsN fun _ _ _ _ _ _ us hl => match us, hl with | [_, _], _ => rfl⟩, F.kp⟩
  | d + 1 => by
    obtain ⟨⟨fd_law_same, F_law_same, b_law_same⟩, kp_law_same⟩ := ok_same T d
    obtain ⟨fd, F⟩ := T.d__law_same
    refine ⟨⟨fd, F.ok sc__law_same (fun vs H Q E h => ?_) (fun cdv A outer s H vs Q E hr h => ?_), F.bindsN fun _ _ _ _ _ _ us hl => match us, hl with | [_, _], _ => rfl⟩, F.kp⟩
    · obtain ⟨x, y, rfl, _⟩ := h
      rfl
    · obtain ⟨x, y, rfl, sv, h⟩ := h
      have hr_law_same : Room (d + 1) _ := hr
      refine ⟨_, PSs.nox (pss_cons (ps_if (pt_cmpR op_isN (pv 1) pe_non (nomark _)) (pss_one (ps_ret (pe_cmpR op_isN (pv 0) pe_non (nomark _)))) pss_nil)
      (pss_cons (ps_if (pt_val (pe_callB (isiTK (K := K)) (by rfl) T.free_isinstance (by decide +kernel) (pa_cons (pv 1) (pa_cons (pe_tup (pa_cons (pe_bltn (v := .ty "list") (u := .type "list") (by rfl) T.free_list (by decide +kernel) rfl) (pa_cons (pe_bltn (v := .ty "tuple") (u := .type "tuple") (by rfl) T.free_tuple (by decide +kernel) rfl) pa_nil))) pa_nil)))) (pss_cons (ps_if (PW.pt (pw_or (pt_cmpR op_ne (pe_callB (isiK (K := K)) (by rfl) T.free_isinstance (by decide +kernel) (pa_cons (pv 0) (pa_cons (pe_bltn (v := .ty "list") (u := .type "list") (by rfl) T.free_list (by decide +kernel) rfl) pa_nil))) (pe_callB (isiK (K := K)) (by rfl) T.free_isinstance (by decide +kernel) (pa_cons (pv 1) (pa_cons (pe_bltn (v := .ty "list") (u := .type "list") (by rfl) T.free_list (by decide +kernel) rfl) pa_nil))) (nomark _)) (pw_or1 (pt_cmpR op_ne (pe_callB (isiK (K := K)) (by rfl) T.free_isinstance (by decide +kernel) (pa_cons (pv 0) (pa_cons (pe_bltn (v := .ty "tuple") (u := .type "tuple") (by rfl) T.free_tuple (by decide +kernel) rfl) pa_nil))) (pe_callB (isiK (K := K)) (by rfl) T.free_isinstance (by decide +kernel) (pa_cons (pv 1) (pa_cons (pe_bltn (v := .ty "tuple") (u := .type "tuple") (by rfl) T.free_tuple (by decide +kernel) rfl) pa_nil))) (nomark _))))) (pss_one (ps_ret pe_bl)) pss_nil)
      (pss_one (ps_ret (pe_and (pe_cmpR op_eq (pe_callB (lenK (K := K)) (by rfl) T.free_len (by decide +kernel) (pa_cons (pv 0) pa_nil)) (pe_callB (lenK (K := K)) (by rfl) T.free_len (by decide +kernel) (pa_cons (pv 1) pa_nil)) (nomark _)) (pe_one (pe_callB (allK (K := K)) (by rfl) T.free_all (by decide +kernel) (pa_cons (pe_lc (own := [("_law_k", 2)]) (g := (gName 2)) (tt := tYes) rfl sc__law_same.nd (pi_range1 (by rfl) T.free_range (pa_cons (pe_callB (lenK (K := K)) (by rfl) T.free_len (by decide +kernel) (pa_cons (pv 1) pa_nil)) pa_nil)) (blkOk_by (by kernel_rfl)) (fun _ _ _ _ _ => (pg_name (i := 2) sc__law_same.nd rfl (Or.inl rfl))) (fun _ _ _ _ _ => pts_nil) (fun _ _ _ _ _ => (pe_call F_law_same hr_law_same rfl T.glo_law_same kp_law_same b_law_same .nil pass0 (pa_cons (pe_ix (ixS (K := K)) (pv 0) (pv 2) (fun _ _ => rfl)) (pa_cons (pe_ix (ixS (K := K)) (pv 1) (pv 2) (fun _ _ => rfl)) pa_nil))))) pa_nil))))))) pss_nil)
      (pss_cons (ps_if (PW.pt (pw_or (pt_cmpR op_ne (pe_callB (isiK (K := K)) (by rfl) T.free_isinstance (by decide +kernel) (pa_cons (pv 0) (pa_cons (pe_bltn (v := .ty "bool") (u := .type "bool") (by rfl) T.free_bool (by decide +kernel) rfl) pa_nil))) (pe_callB (isiK (K := K)) (by rfl) T.free_isinstance (by decide +kernel) (pa_cons (pv 1) (pa_cons (pe_bltn (v := .ty "bool") (u := .type "bool") (by rfl) T.free_bool (by decide +kernel) rfl) pa_nil))) (nomark _)) (pw_or1 (pt_cmpR op_ne (pe_callB (isiK (K := K)) (by rfl) T.free_isinstance (by decide +kernel) (pa_cons (pv 0) (pa_cons (pe_bltn (v := .ty "str") (u := .type "str") (by rfl) T.free_str (by decide +kernel) rfl) pa_nil))) (pe_callB (isiK (K := K)) (by rfl) T.free_isinstance (by decide +kernel) (pa_cons (pv 1) (pa_cons (pe_bltn (v := .ty "str") (u := .type "str") (by rfl) T.free_str (by decide +kernel) rfl) pa_nil))) (nomark _))))) (pss_one (ps_ret pe_bl)) pss_nil)
      (pss_one (ps_ret (pe_and (pe_cmpR op_eq (pe_callB (isiK (K := K)) (by rfl) T.free_isinstance (by decide +kernel) (pa_cons (pv 0) (pa_cons (pe_bltn (v := .ty "int") (u := .type "int") (by rfl) T.free_int (by decide +kernel) rfl) pa_nil))) (pe_callB (isiK (K := K)) (by rfl) T.free_isinstance (by decide +kernel) (pa_cons (pv 1) (pa_cons (pe_bltn (v := .ty "int") (u := .type "int") (by rfl) T.free_int (by decide +kernel) rfl) pa_nil))) (nomark _)) (pe_one (pe_cmpR op_eq (pv 0) (pv 1) (nomark _))))))))), ?_⟩
      have sv' : ScalV x y ∨ ∃ (a b : Addr) (xs ys : List V), x = .ref a ∧ y = .ref b ∧ ((Rd H a (.lst xs) ∧ Rd H b (.lst ys)) ∨ (Rd H a (.tup xs) ∧ Rd H b (.tup ys))) ∧ xs.length = ys.length ∧ xs.length ≤ 1000 ∧ ∃ d', d = d' + 1 ∧ ∀ (k : Nat) (u v : V), xs[k]? = some u → ys[k]? = some v → SameV d' H u v := by
        match d, sv with
        | 0, sv => exact .inl sv
        | d' + 1, .inl sv => exact .inl sv
        | d' + 1, .inr ⟨a, b, xs, ys, e1, e2, e3, e4, e5, e6⟩ => exact .inr ⟨a, b, xs, ys, e1, e2, e3, e4, e5, d', rfl, e6⟩
      rcases sv' with ⟨rfl, h4⟩ | ⟨a, b, xs, ys, rfl, rfl, ab, l1, l2, d', rfl, each⟩
      · rcases h4 with ⟨i, rfl⟩ | ⟨b, rfl⟩ | rfl | ⟨z, rfl⟩
        · refine ⟨_, rfl, rfl, _, rfl, iteF ?_⟩
          refine ⟨_, rfl, (by show 2 ≤ sizeLine; decide), fun tp htp => ?_⟩
          have s1 := same_upd (o := HO.tup [V.ty "list", V.ty "tuple"]) htp
          refine ⟨_, tp, _, _, _, false, rfl, upd_same, .cons (.ty _) (.cons (.ty _) .nil), .base (.int i), kitAny_cons (kit_ty (b := "list") (r := false) (by decide +kernel)) (fun _ => kitAny_cons (kit_ty (b := "tuple") (r := false) (by decide +kernel)) (fun _ => kitAny_nil) (fun z => by cases z)) (fun z => by cases z), _, rfl, iteF ?_⟩
          refine ⟨_, rfl, _, _, _, _, false, rfl, .ty _, .base (.int i), kit_ty (by decide +kernel), _, rfl, _, _, _, _, false, rfl, .ty _, .base (.int i), kit_ty (by decide +kernel), rfl, _, rfl, iteF ?_⟩
          refine ⟨_, rfl, _, _, _, _, false, rfl, .ty _, .base (.int i), kit_ty (by decide +kernel), _, rfl, _, _, _, _, false, rfl, .ty _, .base (.int i), kit_ty (by decide +kernel), rfl, _, rfl, iteF ?_⟩
          refine ⟨_, rfl, _, _, _, _, true, rfl, .ty _, .base (.int i), kit_ty (by decide +kernel), _, rfl, _, _, _, _, true, rfl, .ty _, .base (.int i), kit_ty (by decide +kernel), rfl, _, rfl, iteT ⟨_, rfl, _, rfl, rfl, ?_⟩⟩
          rw [decide_eq_true rfl]
          exact h _ s1
        · refine ⟨_, rfl, rfl, _, rfl, iteF ?_⟩
          refine ⟨_, rfl, (by show 2 ≤ sizeLine; decide), fun tp htp => ?_⟩
          have s1 := same_upd (o := HO.tup [V.ty "list", V.ty "tuple"]) htp
          refine ⟨_, tp, _, _, _, false, rfl, upd_same, .cons (.ty _) (.cons (.ty _) .nil), .base (.bl b), kitAny_cons (kit_ty (b := "list") (r := false) (by decide +kernel)) (fun _ => kitAny_cons (kit_ty (b := "tuple") (r := false) (by decide +kernel)) (fun _ => kitAny_nil) (fun z => by cases z)) (fun z => by cases z), _, rfl, iteF ?_⟩
          refine ⟨_, rfl, _, _, _, _, true, rfl, .ty _, .base (.bl b), kit_ty (by decide +kernel), _, rfl, _, _, _, _, true, rfl, .ty _, .base (.bl b), kit_ty (by decide +kernel), rfl, _, rfl, iteF ?_⟩
          refine ⟨_, rfl, _, _, _, _, false, rfl, .ty _, .base (.bl b), kit_ty (by decide +kernel), _, rfl, _, _, _, _, false, rfl, .ty _, .base (.bl b), kit_ty (by decide +kernel), rfl, _, rfl, iteF ?_⟩
          refine ⟨_, rfl, _, _, _, _, true, rfl, .ty _, .base (.bl b), kit_ty (by decide +kernel), _, rfl, _, _, _, _, true, rfl, .ty _, .base (.bl b), kit_ty (by decide +kernel), rfl, _, rfl, iteT ⟨_, rfl, _, rfl, rfl, ?_⟩⟩
          rw [decide_eq_true rfl]
          exact h _ s1
        · exact ⟨_, rfl, rfl, _, rfl, iteT ⟨_, rfl, rfl, h H fun _ _ e => e⟩⟩
        · refine ⟨_, rfl, rfl, _, rfl, iteF ?_⟩
          refine ⟨_, rfl, (by show 2 ≤ sizeLine; decide), fun tp htp => ?_⟩
          have s1 := same_upd (o := HO.tup [V.ty "list", V.ty "tuple"]) htp
          refine ⟨_, tp, _, _, _, false, rfl, upd_same, .cons (.ty _) (.cons (.ty _) .nil), .base (.str z), kitAny_cons (kit_ty (b := "list") (r := false) (by decide +kernel)) (fun _ => kitAny_cons (kit_ty (b := "tuple") (r := false) (by decide +kernel)) (fun _ => kitAny_nil) (fun z => by cases z)) (fun z => by cases z), _, rfl, iteF ?_⟩
          refine ⟨_, rfl, _, _, _, _, false, rfl, .ty _, .base (.str z), kit_ty (by decide +kernel), _, rfl, _, _, _, _, false, rfl, .ty _, .base (.str z), kit_ty (by decide +kernel), rfl, _, rfl, iteF ?_⟩
          refine ⟨_, rfl, _, _, _, _, true, rfl, .ty _, .base (.str z), kit_ty (by decide +kernel), _, rfl, _, _, _, _, true, rfl, .ty _, .base (.str z), kit_ty (by decide +kernel), rfl, _, rfl, iteF ?_⟩
          refine ⟨_, rfl, _, _, _, _, false, rfl, .ty _, .base (.str z), kit_ty (by decide +kernel), _, rfl, _, _, _, _, false, rfl, .ty _, .base (.str z), kit_ty (by decide +kernel), rfl, _, rfl, iteT ⟨_, rfl, _, rfl, rfl, ?_⟩⟩
          rw [decide_eq_true rfl]
          exact h _ s1
      · have each' : ∀ {H1 : Hp} (k : Nat) (u v : V), Same H H1 → xs[k]? = some u → ys[k]? = some v → SameV d' H1 u v := fun k u v s1 h1 h2 => (each k u v h1 h2).same s1
        refine ⟨_, rfl, rfl, _, rfl, iteF ?_⟩
        refine ⟨_, rfl, (by show 2 ≤ sizeLine; decide), fun tp htp => ?_⟩
        have s1 := same_upd (o := HO.tup [V.ty "list", V.ty "tuple"]) htp
        have h1 : (upd H tp (HO.tup [V.ty "list", V.ty "tuple"])) tp = some (.tup [V.ty "list", V.ty "tuple"]) := upd_same
        generalize upd H tp (HO.tup [V.ty "list", V.ty "tuple"]) = H1 at s1 h1
        rcases ab with ⟨ra, rb⟩ | ⟨ra, rb⟩
        · refine ⟨_, tp, _, _, _, true, rfl, h1, .cons (.ty _) (.cons (.ty _) .nil), ty_lst (rd_same s1 rb), kitAny_cons (kit_ty (b := "list") (r := true) (by decide +kernel)) (fun z => by cases z) (fun _ => rfl), _, rfl, iteT ?_⟩
          refine ⟨_, rfl, _, _, _, _, true, rfl, .ty _, ty_lst (rd_same s1 ra), kit_ty (by decide +kernel), _, rfl, _, _, _, _, true, rfl, .ty _, ty_lst (rd_same s1 rb), kit_ty (by decide +kernel), rfl, _, rfl, iteF ?_⟩
          refine ⟨_, rfl, _, _, _, _, false, rfl, .ty _, ty_lst (rd_same s1 ra), kit_ty (by decide +kernel), _, rfl, _, _, _, _, false, rfl, .ty _, ty_lst (rd_same s1 rb), kit_ty (by decide +kernel), rfl, _, rfl, iteF ?_⟩
          refine ⟨_, rfl, a, xs, rfl, .inl (.inl (rd_same s1 ra)), _, rfl, b, ys, rfl, .inl (.inl (rd_same s1 rb)), rfl, _, rfl, ?_⟩
          rw [l1, decide_eq_true rfl]
          refine iteT ⟨_, rfl, b, ys, rfl, .inl (.inl (rd_same s1 rb)), _, rfl, by omega, by omega, fun D hD => ?_⟩
          refine lc_range (lo := 0) (n := ((ys.length : Nat) : Int).toNat) (fun k H2 => H2 D = some (.lst ((List.replicate k true).map V.bl)) ∧ Same H1 H2) ⟨upd_same, same_upd hD⟩ ?_ ?_
          · rintro k H2 hk ⟨h2, s2⟩
            have kl : k < ys.length := by omega
            have s12 := s1.trans s2
            have hu : xs[k]? = some (xs[k]'(by omega)) := List.getElem?_eq_getElem _
            have hv : ys[k]? = some (ys[k]) := List.getElem?_eq_getElem _
            refine ⟨rfl, yesT ?_⟩
            refine ⟨_, rfl, _, rfl, .inl ⟨a, _, _, _, rfl, rfl, .inl (rd_same s12 ra), at0 hu, _, rfl, _, rfl, .inl ⟨b, _, _, _, rfl, rfl, .inl (rd_same s12 rb), at0 hv, _, _, rfl, each' k _ _ s12 hu hv, fun H3 s3 => ?_⟩⟩⟩
            refine ⟨_, s3 _ _ h2, ?_, ?_, same_mut (s2.trans s3) hD⟩
            · rw [List.length_map, List.length_replicate]
              exact Nat.lt_of_le_of_lt (show k ≤ 1000 by omega) (by decide)
            · rw [upd_same, List.replicate_succ', List.map_append]
              rfl
          · rintro H2 ⟨h2, s2⟩
            refine ⟨D, _, rfl, SqL.of h2, ?_⟩
            rw [show (List.replicate ((ys.length : Nat) : Int).toNat true).all id = true from List.all_eq_true.mpr fun z hz => by rw [(List.mem_replicate.mp hz).2]; rfl]
            exact h _ (s1.trans s2)
        · refine ⟨_, tp, _, _, _, true, rfl, h1, .cons (.ty _) (.cons (.ty _) .nil), ty_tup (rd_same s1 rb), kitAny_cons (kit_ty (b := "list") (r := false) (by decide +kernel)) (fun _ => kitAny_cons (kit_ty (b := "tuple") (r := true) (by decide +kernel)) (fun z => by cases z) (fun _ => rfl)) (fun z => by cases z), _, rfl, iteT ?_⟩
          refine ⟨_, rfl, _, _, _, _, false, rfl, .ty _, ty_tup (rd_same s1 ra), kit_ty (by decide +kernel), _, rfl, _, _, _, _, false, rfl, .ty _, ty_tup (rd_same s1 rb), kit_ty (by decide +kernel), rfl, _, rfl, iteF ?_⟩
          refine ⟨_, rfl, _, _, _, _, true, rfl, .ty _, ty_tup (rd_same s1 ra), kit_ty (by decide +kernel), _, rfl, _, _, _, _, true, rfl, .ty _, ty_tup (rd_same s1 rb), kit_ty (by decide +kernel), rfl, _, rfl, iteF ?_⟩
          refine ⟨_, rfl, a, xs, rfl, .inr (.inl (rd_same s1 ra)), _, rfl, b, ys, rfl, .inr (.inl (rd_same s1 rb)), rfl, _, rfl, ?_⟩
          rw [l1, decide_eq_true rfl]
          refine iteT ⟨_, rfl, b, ys, rfl, .inr (.inl (rd_same s1 rb)), _, rfl, by omega, by omega, fun D hD => ?_⟩
          refine lc_range (lo := 0) (n := ((ys.length : Nat) : Int).toNat) (fun k H2 => H2 D = some (.lst ((List.replicate k true).map V.bl)) ∧ Same H1 H2) ⟨upd_same, same_upd hD⟩ ?_ ?_
          · rintro k H2 hk ⟨h2, s2⟩
            have kl : k < ys.length := by omega
            have s12 := s1.trans s2
            have hu : xs[k]? = some (xs[k]'(by omega)) := List.getElem?_eq_getElem _
            have hv : ys[k]? = some (ys[k]) := List.getElem?_eq_getElem _
            refine ⟨rfl, yesT ?_⟩
            refine ⟨_, rfl, _, rfl, .inr (.inl ⟨a, _, _, _, rfl, rfl, .inl (rd_same s12 ra), at0 hu, _, rfl, _, rfl, .inr (.inl ⟨b, _, _, _, rfl, rfl, .inl (rd_same s12 rb), at0 hv, _, _, rfl, each' k _ _ s12 hu hv, fun H3 s3 => ?_⟩)⟩)⟩
            refine ⟨_, s3 _ _ h2, ?_, ?_, same_mut (s2.trans s3) hD⟩
            · rw [List.length_map, List.length_replicate]
              exact Nat.lt_of_le_of_lt (show k ≤ 1000 by omega) (by decide)
            · rw [upd_same, List.replicate_succ', List.map_append]
              rfl
          · rintro H2 ⟨h2, s2⟩
            refine ⟨D, _, rfl, SqL.of h2, ?_⟩
            rw [show (List.replicate ((ys.length : Nat) : Int).toNat true).all id = true from List.all_eq_true.mpr fun z hz => by rw [(List.mem_replicate.mp hz).2]; rfl]
            exact h _ (s1.trans s2)
end
end RL
namespace RL
open PySem PySem.Spec PyProof.Rows L2 RLM
/-- two lists, two tuples of the same numbers are alike -/
theorem nums_sameL {H : Hp} {a b : Addr} {xs : List Nat} (l : xs.length ≤ 1000) (ha : H a = some (.lst (xs.map vI))) (hb : H b = some (.lst (xs.map vI))) : SameV 1 H (.ref a) (.ref b) := by
  refine .inr ⟨a, b, _, _, rfl, rfl, .inl ⟨.inl ha, .inl hb⟩, rfl, by rw [List.length_map]; exact l, fun j x y e1 e2 => ?_⟩
  rw [e1] at e2
  cases e2
  obtain ⟨z, _, rfl⟩ := get_mapV e1
  exact ⟨rfl, .inl ⟨_, rfl⟩⟩
theorem nums_sameT {H : Hp} {a b : Addr} {xs : List Nat} (l : xs.length ≤ 1000) (ha : H a = some (.tup (xs.map vI))) (hb : H b = some (.tup (xs.map vI))) : SameV 1 H (.ref a) (.ref b) := by
  refine .inr ⟨a, b, _, _, rfl, rfl, .inr ⟨.inl ha, .inl hb⟩, rfl, by rw [List.length_map]; exact l, fun j x y e1 e2 => ?_⟩
  rw [e1] at e2
  cases e2
  obtain ⟨z, _, rfl⟩ := get_mapV e1
  exact ⟨rfl, .inl ⟨_, rfl⟩⟩
end RL
namespace RL
open PySem PySem.Spec PyProof.Rows L2 RLM
/-! ### looks -/
inductive Look where
  | lot (p : Nat → Prop)
  | parts (ps : List (Nat → Prop))
  | near (b k : Nat)
/-- a look as it stands -/
def LookAt (n : Nat) (H : Hp) (v : V) : Look → Prop
  | .lot p => ∃ t u : Addr, v = .ref t ∧ H t = some (.tup [.str "in", .ref u]) ∧ H u = some (.tup ((lotP n p).map vI))
  | .parts ps => ∃ (t u : Addr) (us : List Addr), v = .ref t ∧ H t = some (.tup [.str "parts", .ref u]) ∧ H u = some (.tup (us.map V.ref)) ∧ us.length = ps.length ∧ ∀ (k : Nat) (a : Addr) (p : Nat → Prop), us[k]? = some a → ps[k]? = some p → H a = some (.tup ((lotP n p).map vI))
  | .near b k => ∃ t : Addr, v = .ref t ∧ H t = some (.tup [.str "near", vI b, vI k])
/-- a look of a board -/
def LookOk (n : Nat) : Look → Prop
  | .lot _ => True
  | .parts ps => ps.length ≤ n ∧ (∀ b, b < n → ∃ (k : Nat) (p : Nat → Prop), ps[k]? = some p ∧ p b) ∧ (∀ (i j : Nat) (p q : Nat → Prop) (b : Nat), ps[i]? = some p → ps[j]? = some q → b < n → p b → q b → i = j) ∧ ∀ p ∈ ps, ∃ b, b < n ∧ p b
  | .near b k => b < n ∧ k ≤ 7
theorem LookAt.same {n : Nat} {H H' : Hp} {v : V} (s : Same H H') : ∀ {L : Look}, LookAt n H v L → LookAt n H' v L
  | .lot _, ⟨t, u, e, h1, h2⟩ => ⟨t, u, e, s _ _ h1, s _ _ h2⟩
  | .parts _, ⟨t, u, us, e, h1, h2, l, h3⟩ => ⟨t, u, us, e, s _ _ h1, s _ _ h2, l, fun k a p e1 e2 => s _ _ (h3 k a p e1 e2)⟩
  | .near _ _, ⟨t, e, h1⟩ => ⟨t, e, s _ _ h1⟩
theorem LookAt.keep {n : Nat} {c : Addr} {H H' : Hp} {v : V} (k : Kc c H H') (hc : ∃ ys, H c = some (.lst ys)) : ∀ {L : Look}, LookAt n H v L → LookAt n H' v L
  | .lot _, ⟨t, u, e, h1, h2⟩ => ⟨t, u, e, k.tup hc h1, k.tup hc h2⟩
  | .parts _, ⟨t, u, us, e, h1, h2, l, h3⟩ => ⟨t, u, us, e, k.tup hc h1, k.tup hc h2, l, fun i a p e1 e2 => k.tup hc (h3 i a p e1 e2)⟩
  | .near _ _, ⟨t, e, h1⟩ => ⟨t, e, k.tup hc h1⟩
open Classical in
noncomputable def decB (p : Prop) : Bool := decide p
open Classical in
theorem dec_lot {n b : Nat} {p : Nat → Prop} (bn : b < n) : decide (b ∈ lotP n p) = decB (p b) := by
  unfold decB
  rw [decide_eq_decide, mem_lotP]
  exact ⟨fun h => h.2, fun h => ⟨bn, h⟩⟩
open Classical in
/-- what a place answers -/
noncomputable def ans (M : Nat → Nat → Nat) : Look → Nat → Nat
  | .lot p, b => if p b then 1 else 0
  | .parts ps, b => ps.findIdx fun p => decB (p b)
  | .near c k, b => min (M b c) (k + 1)
open Classical in
theorem decB_true {p : Prop} : decB p = true ↔ p := by
  unfold decB
  exact decide_eq_true_iff
theorem ans_near {M : Nat → Nat → Nat} {c k b : Nat} : ans M (.near c k) b = min (M b c) (k + 1) := rfl
theorem ans_in {M : Nat → Nat → Nat} {p : Nat → Prop} {b : Nat} (h : p b) : ans M (.lot p) b = 1 := if_pos h
theorem ans_out {M : Nat → Nat → Nat} {p : Nat → Prop} {b : Nat} (h : ¬ p b) : ans M (.lot p) b = 0 := if_neg h
section
variable {P : Program} {w : World} {K : PySem.W.Frag} {mg : Str → Option Value} {base : Heap}
def spBoth : Sp := fun vs H Q _ => ∃ (s t : Addr) (n : Nat) (p q : Nat → Prop), vs = [.ref s, .ref t] ∧ n ≤ 8 ∧ H s = some (.tup ((lotP n p).map vI)) ∧ H t = some (.tup ((lotP n q).map vI)) ∧
  ∀ H' u, H' u = some (.tup ((lotP n fun b => p b ∧ q b).map vI)) → Same H H' → Q (.ref u) H'
def spAnswer : Sp := fun vs H Q _ => ∃ (c D : Addr) (v : V) (n b : Nat) (rs : List Addr) (M : Nat → Nat → Nat) (L : Look), vs = [.ref D, v, vI b] ∧ n ≤ 8 ∧ TabAt c H D n rs M ∧ LookAt n H v L ∧ LookOk n L ∧ b < n ∧ ∀ H', Same H H' → Q (vI (ans M L b)) H'
theorem sc__law_answer : FnScope ["_law_spans_here", "_law_look_here", "_law_place", "_law_lot_here"] ["_law_spans_here", "_law_look_here", "_law_place"] (defScope s__law_answer) := ⟨rfl, rfl, rfl, by decide +kernel, rfl, by decide +kernel, by decide +kernel⟩
theorem ok_answer (T : Tx K mg) : Has P w K mg base (He.ga K "_law_answer") 1 ["_law_spans_here", "_law_look_here", "_law_place"] spAnswer := by
  obtain ⟨fd, F⟩ := T.d__law_answer
  refine ⟨⟨fd, F.ok sc__law_answer (fun vs H Q E h => ?_) (fun cdv A outer s H vs Q E hr h => ?_), F.bindsN fun _ _ _ _ _ _ us hl => match us, hl with | [_, _, _], _ => rfl⟩, F.kp⟩
  · obtain ⟨c, D, v, n, b, rs, M, L, rfl, _⟩ := h
    rfl
  · obtain ⟨c, D, v, n, b, rs, M, L, rfl, n8, TA, LA, LO, bn, h⟩ := h
    refine ⟨_, PSs.nox (pss_cons (ps_if (pt_cmpR op_eq (pe_ix (ixT (K := K)) (pv 1) pe_int (fun _ _ => rfl)) pe_str (nomark _)) (pss_one (ps_ret (pe_callTy call_int1 (by rfl) T.free_int (by decide +kernel) (pa_cons (pe_cmpR (inSq (K := K)) (pv 2) (pe_ix (ixT (K := K)) (pv 1) pe_int (fun _ _ => rfl)) (by rfl)) pa_nil)))) pss_nil)
      (pss_cons (ps_if (pt_cmpR op_eq (pe_ix (ixT (K := K)) (pv 1) pe_int (fun _ _ => rfl)) pe_str (nomark _)) (pss_one (ps_ret (bmK (K := K) PySem.F.plainAttrs_list PySem.F.slot_list_index PySem.F.type_list_index mt_index (pe_lc (own := [("_law_lot_here", 3)]) (g := (gName 3)) (tt := tYes) rfl sc__law_answer.nd (piT (K := K) (pe_ix (ixT (K := K)) (pv 1) pe_int (fun _ _ => rfl))) (blkOk_by (by kernel_rfl)) (fun _ _ _ _ _ => (pg_name (i := 3) sc__law_answer.nd rfl (Or.inl rfl))) (fun _ _ _ _ _ => pts_nil) (fun _ _ _ _ _ => (pe_cmpR (inSq (K := K)) (pv 2) (pv 3) (by rfl)))) (pa_cons pe_bl pa_nil)))) pss_nil)
      (pss_one (ps_ret (pe_callB (call_min2 rfl) (by rfl) T.free_min (by decide +kernel) (pa_cons (pe_ix (ixL (K := K)) (pe_ix (ixL (K := K)) (pv 0) (pv 2) (fun _ _ => rfl)) (pe_ix (ixT (K := K)) (pv 1) pe_int (fun _ _ => rfl)) (fun _ _ => rfl)) (pa_cons (pe_op op_add (pe_ix (ixT (K := K)) (pv 1) pe_int (fun _ _ => rfl)) pe_int) pa_nil))))))), ?_⟩
    cases L with
    | lot p =>
      obtain ⟨t, u, rfl, ht, hu⟩ := LA
      refine ⟨_, rfl, t, _, 0, _, rfl, rfl, SqT.of ht, rfl, rfl, _, rfl, iteT ?_⟩
      refine ⟨_, rfl, _, rfl, t, _, 1, _, rfl, rfl, SqT.of ht, rfl, u, _, rfl, .inr (SqT.of hu), rfl, flat_vI _, .inr ⟨_, rfl, ?_⟩⟩
      have e : V.int (if inV (vI b) ((lotP n p).map vI) = true then 1 else 0) = vI (ans M (.lot p) b) := by
        rw [in_lot]
        by_cases z : p b
        · rw [if_pos (decide_eq_true (mem_lotP.mpr ⟨bn, z⟩)), ans_in z]
          rfl
        · rw [if_neg (fun y => z (mem_lotP.mp (of_decide_eq_true y)).2), ans_out z]
          rfl
      show Q (V.int (if inV (vI b) ((lotP n p).map vI) = true then 1 else 0)) H
      rw [e]
      exact h H fun _ _ e => e
    | parts ps =>
      obtain ⟨t, u, us, rfl, ht, hu, lu, hus⟩ := LA
      refine ⟨_, rfl, t, _, 0, _, rfl, rfl, SqT.of ht, rfl, rfl, _, rfl, iteF ?_⟩
      refine ⟨_, rfl, t, _, 0, _, rfl, rfl, SqT.of ht, rfl, rfl, _, rfl, iteT ?_⟩
      refine ⟨_, rfl, t, _, 1, _, rfl, rfl, SqT.of ht, rfl, u, rfl, ⟨_, SqT.of hu⟩, fun D1 hD1 => ?_⟩
      obtain ⟨lps, cov, dis, non⟩ := LO
      refine lc_tup (K := K) (a := u) (xs := us.map V.ref) (fun k H1 => H1 D1 = some (.lst (((ps.take k).map fun p => decB (p b)).map V.bl)) ∧ Same H H1)
        ⟨upd_same, same_upd hD1⟩ (fun k H1 _ ⟨_, s1⟩ => SqT.of (s1 _ _ hu)) ?_ ?_
      · rintro k z H1 hz ⟨h1, s1⟩
        rw [List.getElem?_map] at hz
        obtain ⟨a, ha, rfl⟩ : ∃ a, us[k]? = some a ∧ V.ref a = z := by
          cases e : us[k]? with
          | none => rw [e] at hz; cases hz
          | some a => rw [e] at hz; exact ⟨a, rfl, Option.some.inj hz⟩
        have kl : k < ps.length := by
          have := (List.getElem?_eq_some_iff.mp ha).1
          omega
        have hp : ps[k]? = some ps[k] := List.getElem?_eq_getElem kl
        have hl := s1 _ _ (hus k a _ ha hp)
        refine ⟨rfl, yesT ?_⟩
        refine ⟨_, rfl, _, rfl, a, _, rfl, .inr (SqT.of hl), rfl, flat_vI _, _, h1, ?_, ?_, same_mut s1 hD1⟩
        · rw [List.length_map, List.length_map, List.length_take]
          exact Nat.lt_of_le_of_lt (show min k ps.length ≤ 8 by omega) (by decide)
        · rw [upd_same, List.take_add_one, hp, List.map_append, List.map_append]
          show some (HO.lst (_ ++ [V.bl (inV (vI b) ((lotP n ps[k]).map vI))])) = _
          rw [in_lot, show decide (b ∈ lotP n ps[k]) = decB (ps[k] b) from dec_lot bn]
          rfl
      · rintro H1 ⟨h1, s1⟩
        rw [List.length_map, lu, List.take_length] at h1
        obtain ⟨k0, p0, hk0, pb⟩ := cov b bn
        have fl : ps.findIdx (fun p => decB (p b)) < ps.length := List.findIdx_lt_length_of_exists ⟨p0, List.mem_of_getElem? hk0, decB_true.mpr pb⟩
        have ft := List.findIdx_getElem (p := fun p : Nat → Prop => decB (p b)) (w := fl)
        refine ⟨.inl ⟨rfl, _, SqL.of h1⟩, D1, _, .bl true, ps.findIdx (fun p : Nat → Prop => decB (p b)), .bl true, rfl, rfl, SqL.of h1, rfl, ?_, ?_, rfl, ?_, h H1 s1⟩
        · rw [List.all_eq_true]
          intro z hz
          obtain ⟨y, _, rfl⟩ := List.mem_map.mp hz
          rfl
        · rw [List.getElem?_map, List.getElem?_map, List.getElem?_eq_getElem fl]
          show some (V.bl (decB (ps[ps.findIdx fun p => decB (p b)] b))) = _
          rw [ft]
        · intro i z hi hz
          have il : i < ps.length := Nat.lt_trans hi fl
          rw [List.getElem?_map, List.getElem?_map, List.getElem?_eq_getElem il] at hz
          cases hz
          have nb := List.not_of_lt_findIdx hi
          show (decB (ps[i] b) == true) = false
          cases e : decB (ps[i] b) with
          | false => rfl
          | true => exact absurd e (by simpa using nb)
    | near d k =>
      obtain ⟨t, rfl, ht⟩ := LA
      refine ⟨_, rfl, t, _, 0, _, rfl, rfl, SqT.of ht, rfl, rfl, _, rfl, iteF ?_⟩
      refine ⟨_, rfl, t, _, 0, _, rfl, rfl, SqT.of ht, rfl, rfl, _, rfl, iteF ?_⟩
      obtain ⟨r, hr1, hr2⟩ := TA.get bn
      refine ⟨_, rfl, _, rfl, D, _, _, _, rfl, rfl, SqL.of TA.at_, atI_nat (get_map hr1), _, rfl, t, _, 1, _, rfl, rfl, SqT.of ht, rfl, r, _, _, _, rfl, rfl, SqL.of hr2, atI_nat (row_get LO.1), ?_⟩
      refine ⟨_, rfl, t, _, 2, _, rfl, rfl, SqT.of ht, rfl, _, _, rfl, rfl, _, _, rfl, ?_⟩
      have e : V.int (if ((k : Nat) : Int) + 1 < ((M b d : Nat) : Int) then ((k : Nat) : Int) + 1 else ((M b d : Nat) : Int)) = vI (ans M (.near d k) b) := by
        rw [ans_near]
        unfold vI
        congr 1
        split <;> omega
      show Q (V.int (if ((k : Nat) : Int) + 1 < ((M b d : Nat) : Int) then ((k : Nat) : Int) + 1 else ((M b d : Nat) : Int))) H
      rw [e]
      exact h H fun _ _ e => e
end
end RL
namespace RL
open PySem PySem.Spec PyProof.Rows L2 RLM
theorem lotP_one {n b : Nat} (h : b < n) : lotP n (fun x => x = b) = [b] :=
  (lotP_of (List.pairwise_singleton _ _) fun x => by
    rw [List.mem_singleton]
    exact ⟨fun e => ⟨by omega, e⟩, fun e => e.2⟩).symm
theorem dp_lot {K : PySem.W.Frag} {H : Hp} {t : Addr} {xs : List Nat} (h : H t = some (.tup (xs.map vI))) : Dp K H (.ref t) (.tuple ((xs.map nI).map PyData.int)) := .tup (SqT.of (by rw [← vI_map]; exact h)) (dp_ints _)
theorem eqv_none : ∀ xs : List Nat, PyData.eqv (.tuple ((xs.map nI).map PyData.int)) (.tuple ((([] : List Nat).map nI).map PyData.int)) = xs.isEmpty
  | [] => by unfold PyData.eqv; rfl
  | x :: xs => by unfold PyData.eqv; rfl
section
variable {P : Program} {w : World} {K : PySem.W.Frag} {mg : Str → Option Value} {base : Heap}
def spStart : Sp := fun vs H Q _ => ∃ (b c : Addr) (n : Nat), vs = [.ref b, vI n] ∧ Box b c H ∧ 1 ≤ n ∧ n ≤ 8 ∧ ∀ H' t p, H' t = some (.tup ((lotP n p).map vI)) → (∃ a, a < n ∧ p a) → Kc c H H' → Box b c H' → Q (.ref t) H'
theorem sc__law_start : FnScope ["_law_box_here", "_law_many", "_law_lot_here"] ["_law_box_here", "_law_many"] (defScope s__law_start) := ⟨rfl, rfl, rfl, by decide +kernel, rfl, by decide +kernel, by decide +kernel⟩
theorem ok_start (T : Tx K mg) : Has P w K mg base (He.ga K "_law_start") 3 ["_law_box_here", "_law_many"] spStart := by
  obtain ⟨⟨fd_law_pick, F_law_pick, b_law_pick⟩, kp_law_pick⟩ := ok_pick (P := P) (w := w) (base := base) T
  obtain ⟨⟨fd_law_lot, F_law_lot, b_law_lot⟩, kp_law_lot⟩ := ok_lot (P := P) (w := w) (base := base) T
  obtain ⟨fd, F⟩ := T.d__law_start
  refine ⟨⟨fd, F.ok sc__law_start (fun vs H Q E h => ?_) (fun cdv A outer s H vs Q E hr h => ?_), F.bindsN fun _ _ _ _ _ _ us hl => match us, hl with | [_, _], _ => rfl⟩, F.kp⟩
  · obtain ⟨b, c, n, rfl, _⟩ := h
    rfl
  · obtain ⟨b, c, n, rfl, B, n1, n8, h⟩ := h
    have hr_law_pick : Room 1 _ := hr.mono (by decide)
    have hr_law_lot : Room 2 _ := hr.mono (by decide)
    refine ⟨_, PSs.nox (pss_cons (ps_set (i := 2) sc__law_start.nd rfl (Or.inl rfl) (pe_call F_law_lot hr_law_lot rfl T.glo_law_lot kp_law_lot b_law_lot .nil pass0 (pa_cons (pv 0) (pa_cons (pv 1) pa_nil))))
      (pss_one (ps_ret (pe_ifExp (pt_cmpR (neD (K := K) hr.units) (pv 2) (pe_tup pa_nil) (nomark _)) (pv 2) (pe_tup (pa_cons (pe_call F_law_pick hr_law_pick rfl T.glo_law_pick kp_law_pick b_law_pick .nil pass0 (pa_cons (pv 0) (pa_cons (pv 1) pa_nil))) pa_nil)))))), ?_⟩
    refine ⟨_, rfl, _, rfl, b, c, n, rfl, B, n1, n8, fun H1 t p ht k1 B1 => ?_⟩
    refine ⟨_, rfl, Nat.zero_le _, fun u hu => ?_⟩
    have s2 := same_upd (o := HO.tup []) hu
    have hu2 : (upd H1 u (.tup [])) u = some (.tup []) := upd_same
    generalize upd H1 u (.tup []) = H2 at s2 hu2
    refine ⟨_, _, dp_lot (s2 _ _ ht), dp_lot (xs := []) hu2, shaped_tup _, shaped_tup _, _, rfl, ?_⟩
    rw [eqv_none]
    cases e : (lotP n p).isEmpty with
    | false =>
      refine iteT ⟨_, rfl, h H2 t p (s2 _ _ ht) ?_ (k1.trans (kc_same s2)) (B1.same s2)⟩
      cases e2 : lotP n p with
      | nil => rw [e2] at e; cases e
      | cons a l =>
        have := mem_lotP.mp (show a ∈ lotP n p by rw [e2]; exact List.mem_cons_self)
        exact ⟨a, this.1, this.2⟩
    | true =>
      refine iteF ?_
      refine ⟨_, rfl, _, rfl, b, c, _, rfl, B1.same s2, by omega, by omega, fun H3 x k3 B3 x0 x1 => ?_⟩
      obtain ⟨xn, rfl⟩ : ∃ xn : Nat, x = (xn : Nat) := ⟨x.toNat, by omega⟩
      have xl : xn < n := by omega
      refine ⟨(by show 1 ≤ sizeLine; decide), fun q hq => ?_⟩
      have s4 := same_upd (o := HO.tup [V.int ((xn : Nat) : Int)]) hq
      refine h _ q (fun y => y = xn) ?_ ⟨xn, xl, rfl⟩ (((k1.trans (kc_same s2)).trans k3).trans (kc_same s4)) (B3.same s4)
      rw [upd_same, lotP_one xl]
      rfl
end
end RL
namespace RL
open PySem PySem.Spec PyProof.Rows L2 RLM
/-- a triple that was seen: beat, look, answer -/
structure Triple where
  beat : Nat
  look : Look
  told : Nat
/-- triples as they stand, in a tuple or a list: where each is, where its look is -/
def TripAt (n : Nat) (H : Hp) (q : Addr × V × Triple) : Prop := H q.1 = some (.tup [vI q.2.2.beat, q.2.1, vI q.2.2.told]) ∧ LookAt n H q.2.1 q.2.2.look ∧ LookOk n q.2.2.look
/-- a story as it stands -/
structure StoryAt (n : Nat) (H : Hp) (s : Addr) (p : Nat → Prop) (PS : List (Addr × List Nat)) (SN : List (Addr × V × Triple)) : Prop where
  ex : ∃ tl tp ts : Addr, H s = some (.tup [.ref tl, .ref tp, .ref ts]) ∧ H tl = some (.tup ((lotP n p).map vI)) ∧ H tp = some (.tup (PS.map fun q => V.ref q.1)) ∧ H ts = some (.tup (SN.map fun q => V.ref q.1))
  pc : ∀ q ∈ PS, H q.1 = some (.tup (q.2.map vI)) ∧ PaceOk n q.2
  sn : ∀ q ∈ SN, TripAt n H q ∧ q.2.2.beat ≤ PS.length
  lp : PS.length ≤ 12
  ls : SN.length ≤ 24
theorem TripAt.same {n : Nat} {H H' : Hp} {q : Addr × V × Triple} (s : Same H H') (h : TripAt n H q) : TripAt n H' q := ⟨s _ _ h.1, h.2.1.same s, h.2.2⟩
theorem StoryAt.same {n : Nat} {H H' : Hp} {a : Addr} {p : Nat → Prop} {PS : List (Addr × List Nat)} {SN : List (Addr × V × Triple)} (s : Same H H') (h : StoryAt n H a p PS SN) : StoryAt n H' a p PS SN := by
  obtain ⟨tl, tp, ts, h1, h2, h3, h4⟩ := h.ex
  exact ⟨⟨tl, tp, ts, s _ _ h1, s _ _ h2, s _ _ h3, s _ _ h4⟩, fun q hq => ⟨s _ _ (h.pc q hq).1, (h.pc q hq).2⟩, fun q hq => ⟨(h.sn q hq).1.same s, (h.sn q hq).2⟩, h.lp, h.ls⟩
/-- what was seen lets a place be -/
def openP (M : Nat → Nat → Nat) (SN : List (Addr × V × Triple)) (i b : Nat) : Prop := ∀ q ∈ SN, q.2.2.beat = i → ans M q.2.2.look b = q.2.2.told
/-- a list of lots, as tuples -/
structure LotsAt (n : Nat) (H : Hp) (D : Addr) (m : Nat) (p : Nat → Nat → Prop) : Prop where
  ex : ∃ us : List Addr, H D = some (.lst (us.map V.ref)) ∧ us.length = m ∧ ∀ (i : Nat) (u : Addr), us[i]? = some u → H u = some (.tup ((lotP n (p i)).map vI))
section
variable {P : Program} {w : World} {K : PySem.W.Frag} {mg : Str → Option Value} {base : Heap}
def spOpen : Sp := fun vs H Q _ => ∃ (c D s : Addr) (n : Nat) (rs : List Addr) (M : Nat → Nat → Nat) (p : Nat → Prop) (PS : List (Addr × List Nat)) (SN : List (Addr × V × Triple)), vs = [.ref D, .ref s] ∧ n ≤ 8 ∧ TabAt c H D n rs M ∧ StoryAt n H s p PS SN ∧
  ∀ H' l, LotsAt n H' l (PS.length + 1) (openP M SN) → H l = none → Same H H' → Q (.ref l) H'
end
end RL
namespace RL
open PySem PySem.Spec PyProof.Rows L2 RLM
section
variable {P : Program} {w : World} {K : PySem.W.Frag} {mg : Str → Option Value} {base : Heap}
theorem sc__law_open : FnScope ["_law_spans_here", "_law_story_here", "_law_lots", "_law_beat", "_law_asked", "_law_lot_here", "_law_place", "_law_when", "_law_look_here", "_law_answer_here"] ["_law_spans_here", "_law_story_here"] (defScope s__law_open) := ⟨rfl, rfl, rfl, by decide +kernel, rfl, by decide +kernel, by decide +kernel⟩
theorem ok_open (T : Tx K mg) : Has P w K mg base (He.ga K "_law_open") 2 ["_law_spans_here", "_law_story_here"] spOpen := by
  obtain ⟨⟨fd_law_answer, F_law_answer, b_law_answer⟩, kp_law_answer⟩ := ok_answer (P := P) (w := w) (base := base) T
  obtain ⟨fd, F⟩ := T.d__law_open
  refine ⟨⟨fd, F.ok sc__law_open (fun vs H Q E h => ?_) (fun cdv A outer s H vs Q E hr h => ?_), F.bindsN fun _ _ _ _ _ _ us hl => match us, hl with | [_, _], _ => rfl⟩, F.kp⟩
  · obtain ⟨c, D, sa, n, rs, M, p, PS, SN, rfl, _⟩ := h
    rfl
  · obtain ⟨c, D, sa, n, rs, M, p, PS, SN, rfl, n8, TA, SA, h⟩ := h
    have hr_law_answer : Room 1 _ := hr.mono (by decide)
    refine ⟨_, PSs.nox (pss_cons (ps_set (i := 2) sc__law_open.nd rfl (Or.inl rfl) (pe_lst pa_nil))
      (pss_cons (ps_for PassesOwn.never rfl (pi_range1 (by rfl) T.free_range (pa_cons (pe_op op_add (pe_callB (lenK (K := K)) (by rfl) T.free_len (by decide +kernel) (pa_cons (pe_ix (ixT (K := K)) (pv 1) pe_int (fun _ _ => rfl)) pa_nil)) pe_int) pa_nil)) (pg_name (i := 3) sc__law_open.nd rfl (Or.inr rfl)) (pss_cons (ps_setLc (i := 4) (own := [("_law_when", 7), ("_law_look_here", 8), ("_law_answer_here", 9)]) rfl sc__law_open.nd rfl rfl (sw_true rfl rfl rfl (by decide +kernel)) (piT (K := K) (pe_ix (ixT (K := K)) (pv 1) pe_int (fun _ _ => rfl))) (blkOk_by (by kernel_rfl)) (fun _ _ _ _ _ => (pgT (K := K) (n := 3) rfl (pgs_cons (pg_name (i := 7) sc__law_open.nd rfl (Or.inl rfl)) (pgs_cons (pg_name (i := 8) sc__law_open.nd rfl (Or.inl rfl)) (pgs_cons (pg_name (i := 9) sc__law_open.nd rfl (Or.inl rfl)) pgs_nil))))) (fun _ _ _ _ _ => (pts_one (pt_cmpR op_eq (pv 7) (pv 3) (nomark _)))) (fun _ _ _ _ _ => (pe_tup (pa_cons (pv 8) (pa_cons (pv 9) pa_nil)))))
      (pss_cons (ps_set (i := 5) sc__law_open.nd rfl (Or.inl rfl) (pe_lst pa_nil))
      (pss_cons (ps_for PassesOwn.never rfl (pi_range1 (by rfl) T.free_range (pa_cons (pe_callB (lenK (K := K)) (by rfl) T.free_len (by decide +kernel) (pa_cons (pv 0) pa_nil)) pa_nil)) (pg_name (i := 6) sc__law_open.nd rfl (Or.inr rfl)) (pss_one (ps_if (pt_val (pe_callB (allK (K := K)) (by rfl) T.free_all (by decide +kernel) (pa_cons (pe_lc (own := [("_law_look_here", 8), ("_law_answer_here", 9)]) (tt := tYes) rfl sc__law_open.nd (piL (K := K) (pv 4)) (blkOk_by (by kernel_rfl)) (fun _ _ _ _ _ => (pgT (K := K) (n := 2) rfl (pgs_cons (pg_name (i := 8) sc__law_open.nd rfl (Or.inl rfl)) (pgs_cons (pg_name (i := 9) sc__law_open.nd rfl (Or.inl rfl)) pgs_nil)))) (fun _ _ _ _ _ => pts_nil) (fun _ _ _ _ _ => (pe_cmpR op_eq (pe_call F_law_answer hr_law_answer rfl T.glo_law_answer kp_law_answer b_law_answer .nil pass0 (pa_cons (pv 0) (pa_cons (pv 8) (pa_cons (pv 6) pa_nil)))) (pv 9) (nomark _)))) pa_nil))) (pss_one (ps_expr (bmK (K := K) PySem.F.plainAttrs_list PySem.F.slot_list_append PySem.F.type_list_append mt_append (pv 5) (pa_cons (pv 6) pa_nil)))) pss_nil)))
      (pss_one (ps_expr (bmK (K := K) PySem.F.plainAttrs_list PySem.F.slot_list_append PySem.F.type_list_append mt_append (pv 2) (pa_cons (pe_callTy (tupK (K := K)) (by rfl) T.free_tuple (by decide +kernel) (pa_cons (pv 5) pa_nil)) pa_nil))))))))
      (pss_one (ps_ret (pv 2))))), ?_⟩
    obtain ⟨tl, tp, ts, hs, htl, htp, hts⟩ := SA.ex
    have lp := SA.lp
    have ls := SA.ls
    refine ⟨Nat.zero_le _, fun l hl => ?_⟩
    have s0 : Same H (upd H l (.lst [])) := same_upd hl
    refine ⟨_, rfl, sa, _, 1, _, rfl, rfl, SqT.of (s0 _ _ hs), rfl, tp, _, rfl, .inr (SqT.of (s0 _ _ htp)), _, _, rfl, rfl, _, rfl, ?_⟩
    rw [List.length_map]
    refine ⟨by omega, by omega, for_range (lo := 0) (n := (((PS.length : Nat) : Int) + 1).toNat) (fun i σ H1 => (∃ v3 v4 v5 v6 : Option V, σ = [some (.ref D), some (.ref sa), some (.ref l), v3, v4, v5, v6, none, none, none]) ∧ LotsAt n H1 l i (openP M SN) ∧ Same H H1) ?_ ?_ ?_⟩
    · exact ⟨⟨none, none, none, none, rfl⟩, ⟨[], upd_same, rfl, fun i u e => (by simp at e)⟩, s0⟩
    · rintro i σ H1 hi ⟨⟨v3, v4, v5, v6, rfl⟩, ⟨us, hus, lus, rus⟩, s1⟩
      refine ⟨_, rfl, sa, _, 2, _, rfl, rfl, SqT.of (s1 _ _ hs), rfl, ts, rfl, ⟨_, SqT.of (s1 _ _ hts)⟩, fun D4 hD4 => ?_⟩
      refine lc_tup (K := K) (a := ts) (xs := SN.map fun q => V.ref q.1) (fun k H2 => ∃ L : List (Addr × Addr × V × Triple), H2 D4 = some (.lst (L.map fun q => V.ref q.1)) ∧ (∀ q ∈ L, H2 q.1 = some (.tup [q.2.2.1, vI q.2.2.2.told])) ∧ L.map (·.2) = (SN.take k).filter (fun q => decide (q.2.2.beat = i)) ∧ L.length ≤ k ∧ Same H1 H2)
        ⟨[], upd_same, fun q hq => (by cases hq), rfl, Nat.zero_le _, same_upd hD4⟩ (fun k H2 _ ⟨_, _, _, _, _, s2⟩ => SqT.of (s2 _ _ (s1 _ _ hts))) ?_ ?_
      · rintro k z H2 hz ⟨L, hL, tL, eL, lL, s2⟩
        rw [List.getElem?_map] at hz
        obtain ⟨q, hq, rfl⟩ : ∃ q, SN[k]? = some q ∧ V.ref q.1 = z := by
          cases e : SN[k]? with
          | none => rw [e] at hz; cases hz
          | some q => rw [e] at hz; exact ⟨q, rfl, Option.some.inj hz⟩
        have kl : k < SN.length := (List.getElem?_eq_some_iff.mp hq).1
        have TR := ((SA.sn q (List.mem_of_getElem? hq)).1.same s1).same s2
        have et : SN.take (k + 1) = SN.take k ++ [q] := by
          rw [List.take_add_one, hq]
          rfl
        refine ⟨q.1, _, rfl, SqT.of TR.1, rfl, _, _, rfl, _, _, rfl, _, _, rfl, rfl, rfl, ?_⟩
        refine ⟨_, rfl, _, rfl, rfl, _, rfl, ?_⟩
        have eb : decide (vI q.2.2.beat = V.int (0 + (i : Int))) = decide (q.2.2.beat = i) := by
          rw [decide_eq_decide, Int.zero_add]
          unfold vI
          exact ⟨fun z => by have := V.int.inj z; omega, fun z => by rw [z]⟩
        show if decide (vI q.2.2.beat = V.int (0 + (i : Int))) = true then _ else _
        rw [eb]
        refine ite2 (fun z => ?_) (fun z => ?_)
        · refine ⟨_, rfl, _, rfl, (by show 2 ≤ sizeLine; decide), fun t ht => ?_⟩
          have s3 := same_upd (o := HO.tup [q.2.1, vI q.2.2.told]) ht
          have tD : t ≠ D4 := fun z => by
            rw [z, hL] at ht
            cases ht
          refine ⟨_, s3 _ _ hL, ?_, L ++ [(t, q)], ?_, fun x hx => ?_, ?_, ?_, same_mut (s2.trans s3) hD4⟩
          · rw [List.length_map]
            exact Nat.lt_of_le_of_lt (show L.length ≤ 24 by omega) (by decide)
          · rw [upd_same, List.map_append]
            rfl
          · rcases List.mem_append.mp hx with hx | hx
            · have g := s3 _ _ (tL x hx)
              rw [upd_ne (ne_of g (s3 _ _ hL) (by intro z; cases z))]
              exact g
            · rw [List.mem_singleton.mp hx, upd_ne tD, upd_same]
          · rw [List.map_append, eL, et, List.filter_append, List.filter_cons, if_pos z]
            rfl
          · simp
            omega
        · refine ⟨L, hL, tL, ?_, by omega, s2⟩
          rw [eL, et, List.filter_append, List.filter_cons, if_neg z, List.filter_nil, List.append_nil]
      · rintro H2 ⟨L, hL, tL, eL, lL, s2⟩
        rw [List.length_map, List.take_length] at eL
        rw [List.length_map] at lL
        have s12 := s1.trans s2
        have mSN : ∀ q ∈ L, q.2 ∈ SN ∧ q.2.2.2.beat = i := fun q hq => by
          have : q.2 ∈ L.map (·.2) := List.mem_map.mpr ⟨q, hq, rfl⟩
          rw [eL, List.mem_filter] at this
          exact ⟨this.1, of_decide_eq_true this.2⟩
        refine ⟨Nat.zero_le _, fun l5 hl5 => ?_⟩
        have s3 := same_upd (o := HO.lst []) hl5
        refine ⟨_, rfl, D, _, rfl, .inl (SqL.of ((s12.trans s3) _ _ TA.at_)), _, rfl, ?_⟩
        rw [List.length_map, TA.len]
        refine ⟨by omega, by omega, for_range (lo := 0) (n := ((n : Nat) : Int).toNat) (fun b σ H4 => ∃ (v6 : Option V) (qs : List Nat), σ = [some (.ref D), some (.ref sa), some (.ref l), some (.int (0 + (i : Int))), some (.ref D4), some (.ref l5), v6, none, none, none] ∧ H4 l5 = some (.lst (qs.map vI)) ∧ qs.Pairwise (· < ·) ∧ (∀ x, x ∈ qs ↔ x < b ∧ openP M SN i x) ∧ qs.length ≤ b ∧ Same H2 H4)
          ⟨v6, [], rfl, upd_same, .nil, fun x => (by simp), Nat.zero_le _, s3⟩ ?_ ?_⟩
        · rintro b σ H4 hb ⟨v6', qs, rfl, hq5, sq, mq, lq, s4⟩
          have bn : b < n := by omega
          refine ⟨_, rfl, D4, rfl, ⟨_, SqL.of (s4 _ _ hL)⟩, fun D6 hD6 => ?_⟩
          refine lc_list (K := K) (a := D4) (xs := L.map fun q => V.ref q.1) (fun k H5 => H5 D6 = some (.lst (((L.take k).map fun q => decide (ans M q.2.2.2.look b = q.2.2.2.told)).map V.bl)) ∧ Same H4 H5)
            ⟨upd_same, same_upd hD6⟩ (fun k H5 _ ⟨_, s5⟩ => SqL.of (s5 _ _ (s4 _ _ hL))) ?_ ?_
          · rintro k z H5 hz ⟨h5, s5⟩
            rw [List.getElem?_map] at hz
            obtain ⟨q, hq, rfl⟩ : ∃ q, L[k]? = some q ∧ V.ref q.1 = z := by
              cases e : L[k]? with
              | none => rw [e] at hz; cases hz
              | some q => rw [e] at hz; exact ⟨q, rfl, Option.some.inj hz⟩
            have kl : k < L.length := (List.getElem?_eq_some_iff.mp hq).1
            have mL := List.mem_of_getElem? hq
            have s45 := s4.trans s5
            have TR := (SA.sn q.2 (mSN q mL).1).1.same (s12.trans s45)
            refine ⟨q.1, _, rfl, SqT.of (s45 _ _ (tL q mL)), rfl, _, _, rfl, _, _, rfl, rfl, rfl, yesT ?_⟩
            refine ⟨_, rfl, _, rfl, _, rfl, c, D, q.2.2.1, n, b, rs, M, q.2.2.2.look, (by rw [Int.zero_add]; rfl), n8, TA.same (s12.trans s45), TR.2.1, TR.2.2, bn, fun H6 s6 => ?_⟩
            refine ⟨_, rfl, rfl, _, s6 _ _ h5, ?_, ?_, same_mut (s5.trans s6) hD6⟩
            · rw [List.length_map, List.length_map, List.length_take]
              exact Nat.lt_of_le_of_lt (show min k L.length ≤ 24 by omega) (by decide)
            · have ed : decide (vI (ans M q.2.2.2.look b) = vI q.2.2.2.told) = decide (ans M q.2.2.2.look b = q.2.2.2.told) := by
                rw [decide_eq_decide]
                unfold vI
                exact ⟨fun z => by have := V.int.inj z; omega, fun z => by rw [z]⟩
              rw [upd_same, List.take_add_one, hq, List.map_append, List.map_append, ed]
              rfl
          · rintro H5 ⟨h5, s5⟩
            rw [List.length_map, List.take_length] at h5
            refine ⟨D6, _, rfl, SqL.of h5, _, rfl, ?_⟩
            have s45 := s4.trans s5
            have key : ((L.map fun q => decide (ans M q.2.2.2.look b = q.2.2.2.told)).all id = true) ↔ openP M SN i b := by
              rw [List.all_eq_true]
              constructor
              · intro hA q hq hi
                have : q ∈ L.map (·.2) := by
                  rw [eL, List.mem_filter]
                  exact ⟨hq, decide_eq_true hi⟩
                obtain ⟨x, hx, rfl⟩ := List.mem_map.mp this
                exact of_decide_eq_true (hA _ (List.mem_map.mpr ⟨x, hx, rfl⟩))
              · intro hO v hv
                obtain ⟨x, hx, rfl⟩ := List.mem_map.mp hv
                exact decide_eq_true (hO x.2 (mSN x hx).1 (mSN x hx).2)
            refine ite2 (fun z => ?_) (fun z => ?_)
            · have bp := key.1 z
              refine ⟨_, rfl, .inl ⟨rfl, _, SqL.of (s5 _ _ hq5)⟩, _, rfl, l5, _, _, rfl, rfl, s5 _ _ hq5, ?_, ?_⟩
              · rw [List.length_map]
                exact Nat.lt_of_le_of_lt (show qs.length ≤ 8 by omega) (by decide)
              refine ⟨_, qs ++ [b], rfl, ?_, ?_, fun x => ?_, ?_, same_mut s45 hl5⟩
              · rw [upd_same, List.map_append, Int.zero_add]
                rfl
              · rw [List.pairwise_append]
                refine ⟨sq, List.pairwise_singleton _ _, fun x hx y hy => ?_⟩
                rw [List.mem_singleton.mp hy]
                exact ((mq x).1 hx).1
              · rw [List.mem_append, mq x, List.mem_singleton]
                constructor
                · rintro (⟨z1, z2⟩ | z1)
                  · exact ⟨by omega, z2⟩
                  · rw [z1]
                    exact ⟨by omega, bp⟩
                · rintro ⟨z1, z2⟩
                  rcases Nat.lt_or_ge x b with k | k
                  · exact .inl ⟨k, z2⟩
                  · exact .inr (by omega)
              · rw [List.length_append]
                simp
                omega
            · refine ⟨_, qs, rfl, s5 _ _ hq5, sq, fun x => ?_, by omega, s45⟩
              rw [mq x]
              constructor
              · rintro ⟨z1, z2⟩
                exact ⟨by omega, z2⟩
              · rintro ⟨z1, z2⟩
                refine ⟨?_, z2⟩
                rcases Nat.lt_or_ge x b with k | k
                · exact k
                · exfalso
                  have e : x = b := by omega
                  rw [e] at z2
                  exact z (key.2 z2)
        · rintro σ H4 ⟨v6', qs, rfl, hq5, sq, mq, lq, s4⟩
          rw [Int.toNat_natCast] at mq lq
          have hl4 := s4 _ _ (s2 _ _ hus)
          refine ⟨_, rfl, .inl ⟨rfl, _, SqL.of hl4⟩, _, rfl, l5, _, rfl, .inl ⟨SqL.of hq5, fun u hu => ?_⟩⟩
          have s5 := same_upd (o := HO.tup (qs.map vI)) hu
          refine ⟨l, _, _, rfl, rfl, s5 _ _ hl4, ?_, ?_⟩
          · rw [List.length_map]
            exact Nat.lt_of_le_of_lt (show us.length ≤ 13 by omega) (by decide)
          refine ⟨⟨_, _, _, _, rfl⟩, ⟨us ++ [u], ?_, by simp [lus], fun k r e => ?_⟩, same_mut (s12.trans (s4.trans s5)) hl⟩
          · rw [upd_same, List.map_append]
            rfl
          · by_cases hk : k < us.length
            · rw [List.getElem?_append_left hk] at e
              have g := s5 _ _ (s4 _ _ (s2 _ _ (rus k r e)))
              rw [upd_ne (ne_of g (s5 _ _ hl4) (by intro z; cases z))]
              exact g
            · rw [List.getElem?_append_right (by omega)] at e
              have ek : k = us.length := by
                obtain ⟨h1, _⟩ := List.getElem?_eq_some_iff.mp e
                simp at h1
                omega
              rw [ek, Nat.sub_self] at e
              cases e
              have g : (upd H4 u (.tup (qs.map vI))) u = some (.tup (qs.map vI)) := upd_same
              rw [upd_ne (ne_of g (s5 _ _ hl4) (by intro z; cases z)), g, ek, lus, lotP_of sq mq]
    · rintro σ H1 ⟨⟨v3, v4, v5, v6, rfl⟩, LA, s1⟩
      rw [show (((PS.length : Nat) : Int) + 1).toNat = PS.length + 1 by omega] at LA
      exact ⟨_, rfl, h H1 l LA hl s1⟩
end
end RL
/-! Stories: walks that fit, the lots forth, back and known; how many walks there are. Plain mathematics.
    n places, m paces, S the lot of the beginning, R i a b: a step from a to b is let by pace i, O i b: what was seen at beat i lets b be. -/
namespace RLM
section
variable (n m : Nat) (S : Nat → Prop) (R : Nat → Nat → Nat → Prop) (O : Nat → Nat → Prop)
/-- from a on, at beat i: what a walk has behind a -/
inductive Tail : Nat → Nat → List Nat → Prop where
  | stop (a : Nat) : Tail m a []
  | go {i a b : Nat} {w : List Nat} : i < m → b < n → R i a b → O (i + 1) b → Tail (i + 1) b w → Tail i a (b :: w)
/-- a walk that fits -/
def Fit : List Nat → Prop
  | [] => False
  | a :: w => a < n ∧ S a ∧ O 0 a ∧ Tail n m R O 0 a w
/-- the lots forth -/
def ForthP : Nat → Nat → Prop
  | 0, b => b < n ∧ S b ∧ O 0 b
  | i + 1, b => b < n ∧ O (i + 1) b ∧ ∃ a, ForthP i a ∧ R i a b
/-- the lots back: k beats before the last -/
def BackP : Nat → Nat → Prop
  | 0, b => b < n ∧ O m b
  | k + 1, b => b < n ∧ O (m - (k + 1)) b ∧ ∃ c, BackP k c ∧ R (m - (k + 1)) b c
end
variable {n m : Nat} {S : Nat → Prop} {R : Nat → Nat → Nat → Prop} {O : Nat → Nat → Prop}
theorem Tail.len {i a : Nat} {w : List Nat} (h : Tail n m R O i a w) : i + w.length = m := by
  induction h with
  | stop a => simp
  | go _ _ _ _ _ ih => simp only [List.length_cons]; omega
theorem Tail.get {i a : Nat} {w : List Nat} (h : Tail n m R O i a w) : ∀ {j b : Nat}, w[j]? = some b → b < n ∧ O (i + 1 + j) b := by
  induction h with
  | stop a => intro j b e; simp at e
  | @go i a b w hi hb r o t ih =>
    intro j c e
    cases j with
    | zero => simp at e; subst e; exact ⟨hb, o⟩
    | succ j =>
      have := ih (j := j) (b := c) (by simpa using e)
      exact ⟨this.1, by have e : i + 1 + (j + 1) = i + 1 + 1 + j := by omega
                        rw [e]; exact this.2⟩
theorem Fit.len {w : List Nat} (h : Fit n m S R O w) : w.length = m + 1 := by
  cases w with
  | nil => exact h.elim
  | cons a w =>
    have := h.2.2.2.len
    simp only [List.length_cons]
    omega
/-- what a walk has behind a place leads on: the place is in the lot back -/
theorem Tail.back {i a : Nat} {w : List Nat} (h : Tail n m R O i a w) (ha : a < n) (o : O i a) : BackP n m R O (m - i) a := by
  induction h with
  | stop a =>
    rw [Nat.sub_self]
    exact ⟨ha, o⟩
  | @go i a b w hi hb r o2 t ih =>
    have e : m - i = (m - (i + 1)) + 1 := by omega
    have e2 : m - (m - (i + 1) + 1) = i := by omega
    rw [e]
    refine ⟨ha, ?_, b, ih hb o2, ?_⟩ <;> rw [e2] <;> assumption
/-- from a place of the lot back some walk leads on -/
theorem BackP.tail : ∀ {k a : Nat}, BackP n m R O k a → k ≤ m → ∃ w, Tail n m R O (m - k) a w
  | 0, a, _, _ => ⟨[], .stop a⟩
  | k + 1, a, h, hk => by
    obtain ⟨ha, o, c, hc, r⟩ := h
    obtain ⟨w, t⟩ := hc.tail (by omega)
    have e : m - k = m - (k + 1) + 1 := by omega
    have oc : O (m - k) c := by
      cases k with
      | zero => exact hc.2
      | succ k => exact hc.2.1
    have cn : c < n := by
      cases k with
      | zero => exact hc.1
      | succ k => exact hc.1
    rw [e] at t oc
    exact ⟨c :: w, .go (by omega) cn r oc t⟩
theorem ForthP.lt {i a : Nat} (h : ForthP n S R O i a) : a < n := by
  cases i with
  | zero => exact h.1
  | succ i => exact h.1
theorem ForthP.op {i a : Nat} (h : ForthP n S R O i a) : O i a := by
  cases i with
  | zero => exact h.2.2
  | succ i => exact h.2.1
theorem BackP.lt {k a : Nat} (h : BackP n m R O k a) : a < n := by
  cases k with
  | zero => exact h.1
  | succ i => exact h.1
/-- what a fitting walk passes is in the lots forth -/
theorem Tail.forth {i a : Nat} {w : List Nat} (h : Tail n m R O i a w) : ForthP n S R O i a → ∀ {j b : Nat}, (a :: w)[j]? = some b → ForthP n S R O (i + j) b ∧ BackP n m R O (m - (i + j)) b := by
  induction h with
  | stop a =>
    intro f j b e
    cases j with
    | zero =>
      simp at e
      subst e
      exact ⟨f, (Tail.stop (n := n) (m := m) (R := R) (O := O) _).back f.lt f.op⟩
    | succ j => simp at e
  | @go i a c w hi hb r o t ih =>
    intro f j b e
    cases j with
    | zero =>
      simp at e
      subst e
      exact ⟨f, (Tail.go hi hb r o t).back f.lt f.op⟩
    | succ j =>
      have := ih ⟨hb, o, a, f, r⟩ (j := j) (b := b) (by simpa using e)
      have e2 : i + (j + 1) = i + 1 + j := by omega
      rw [e2]
      exact this
/-- a walk to a place of the lot forth can be put before one that leads on -/
theorem ForthP.walk : ∀ {i a : Nat} {w : List Nat}, ForthP n S R O i a → Tail n m R O i a w → ∃ v, Fit n m S R O (v ++ a :: w) ∧ v.length = i
  | 0, a, w, f, t => ⟨[], ⟨f.1, f.2.1, f.2.2, t⟩, rfl⟩
  | i + 1, a, w, f, t => by
    obtain ⟨an, o, b, fb, r⟩ := f
    have hi : i < m := by
      have := t.len
      omega
    obtain ⟨v, fv, lv⟩ := fb.walk (.go hi an r o t)
    exact ⟨v ++ [b], by simpa using fv, by simp [lv]⟩
/-- known: where some fitting walk is; both forth and back -/
theorem known_iff {i b : Nat} (hi : i ≤ m) : (∃ w, Fit n m S R O w ∧ w[i]? = some b) ↔ ForthP n S R O i b ∧ BackP n m R O (m - i) b := by
  constructor
  · rintro ⟨w, f, e⟩
    cases w with
    | nil => exact f.elim
    | cons a w =>
      have := f.2.2.2.forth (S := S) (i := 0) ⟨f.1, f.2.1, f.2.2.1⟩ e
      simpa using this
  · rintro ⟨f, b'⟩
    obtain ⟨w, t⟩ := b'.tail (by omega)
    have e : m - (m - i) = i := by omega
    rw [e] at t
    obtain ⟨v, fv, lv⟩ := f.walk t
    refine ⟨_, fv, ?_⟩
    rw [List.getElem?_append_right (by omega), lv, Nat.sub_self]
    rfl
/-- no walk fits just where some lot forth is empty; where one is, all later ones are -/
theorem forth_none {i : Nat} (h : ∀ b, ¬ ForthP n S R O i b) : ∀ j, i ≤ j → ∀ b, ¬ ForthP n S R O j b
  | 0, hj, b => by
    have : i = 0 := by omega
    subst this
    exact h b
  | j + 1, hj, b => by
    rcases Nat.lt_or_ge j i with k | k
    · have : i = j + 1 := by omega
      subst this
      exact h b
    · rintro ⟨_, _, a, fa, _⟩
      exact forth_none h j k a fa
end RLM
/-! The walks that fit, as a list in their order; how many. Plain mathematics. -/
namespace RLM
/-- tuples of one length, in order -/
def lexL : List Nat → List Nat → Prop
  | a :: v, b :: w => a < b ∨ (a = b ∧ lexL v w)
  | _, _ => False
theorem lexL_irr : ∀ v, ¬ lexL v v
  | [] => id
  | a :: v => by
    rintro (h | ⟨_, h⟩)
    · omega
    · exact lexL_irr v h
theorem lexL_asym : ∀ {v w : List Nat}, lexL v w → ¬ lexL w v
  | [], _, h => fun _ => h.elim
  | _ :: _, [], h => fun _ => h.elim
  | a :: v, b :: w, h => by
    intro g
    rcases h with h | ⟨e, h⟩ <;> rcases g with g | ⟨e', g⟩
    · omega
    · omega
    · omega
    · exact lexL_asym h g
theorem lexL_trans : ∀ {u v w : List Nat}, lexL u v → lexL v w → lexL u w
  | [], _, _, h, _ => h.elim
  | _ :: _, [], _, h, _ => h.elim
  | _ :: _, _ :: _, [], _, g => g.elim
  | a :: u, b :: v, c :: w, h, g => by
    rcases h with h | ⟨e, h⟩ <;> rcases g with g | ⟨e', g⟩
    · exact .inl (by omega)
    · exact .inl (by omega)
    · exact .inl (by omega)
    · exact .inr ⟨by omega, lexL_trans h g⟩
theorem lexL_total : ∀ {v w : List Nat}, v.length = w.length → v ≠ w → lexL v w ∨ lexL w v
  | [], [], _, h => absurd rfl h
  | [], _ :: _, e, _ => by simp at e
  | _ :: _, [], e, _ => by simp at e
  | a :: v, b :: w, e, h => by
    rcases Nat.lt_trichotomy a b with k | k | k
    · exact .inl (.inl k)
    · subst k
      have h2 : v ≠ w := fun z => h (by rw [z])
      rcases lexL_total (by simpa using e) h2 with g | g
      · exact .inl (.inr ⟨rfl, g⟩)
      · exact .inr (.inr ⟨rfl, g⟩)
    · exact .inr (.inl k)
/-- rising lists with the same members are the same -/
theorem pw_eq {α : Type} {r : α → α → Prop} (irr : ∀ a, ¬ r a a) (asym : ∀ {a b}, r a b → ¬ r b a) : ∀ {xs ys : List α}, xs.Pairwise r → ys.Pairwise r → (∀ a, a ∈ xs ↔ a ∈ ys) → xs = ys
  | [], [], _, _, _ => rfl
  | [], y :: ys, _, _, h => absurd ((h y).2 List.mem_cons_self) (by simp)
  | x :: xs, [], _, _, h => absurd ((h x).1 List.mem_cons_self) (by simp)
  | x :: xs, y :: ys, hx, hy, h => by
    obtain ⟨hx1, hx2⟩ := List.pairwise_cons.mp hx
    obtain ⟨hy1, hy2⟩ := List.pairwise_cons.mp hy
    have e : x = y := by
      rcases List.mem_cons.mp ((h x).1 List.mem_cons_self) with e | m1
      · exact e
      · rcases List.mem_cons.mp ((h y).2 List.mem_cons_self) with e | m2
        · exact e.symm
        · exact absurd (hx1 y m2) (asym (hy1 x m1))
    subst e
    congr 1
    refine pw_eq irr asym hx2 hy2 fun a => ⟨fun m => ?_, fun m => ?_⟩
    · rcases List.mem_cons.mp ((h a).1 (List.mem_cons_of_mem _ m)) with e | k
      · subst e
        exact absurd (hx1 _ m) (irr _)
      · exact k
    · rcases List.mem_cons.mp ((h a).2 (List.mem_cons_of_mem _ m)) with e | k
      · subst e
        exact absurd (hy1 _ m) (irr _)
      · exact k
section
variable (n m : Nat) (S : Nat → Prop) (R : Nat → Nat → Nat → Prop) (O : Nat → Nat → Prop)
/-- what walks have behind a, k beats before the last -/
noncomputable def tails : Nat → Nat → List (List Nat)
  | 0, _ => [[]]
  | k + 1, a => (lotP n fun b => R (m - (k + 1)) a b ∧ O (m - k) b).flatMap fun b => (tails k b).map (b :: ·)
/-- the walks that fit, in their order -/
noncomputable def walks : List (List Nat) := (lotP n fun a => S a ∧ O 0 a).flatMap fun a => (tails n m R O m a).map (a :: ·)
end
variable {n m : Nat} {S : Nat → Prop} {R : Nat → Nat → Nat → Prop} {O : Nat → Nat → Prop}
theorem mem_tails : ∀ {k a : Nat} {w : List Nat}, k ≤ m → (w ∈ tails n m R O k a ↔ Tail n m R O (m - k) a w)
  | 0, a, w, _ => by
    unfold tails
    rw [List.mem_singleton]
    constructor
    · rintro rfl
      exact .stop a
    · intro h
      have := h.len
      have : w.length = 0 := by omega
      exact List.eq_nil_of_length_eq_zero this
  | k + 1, a, w, hk => by
    unfold tails
    have e : m - (k + 1) + 1 = m - k := by omega
    constructor
    · intro h
      obtain ⟨b, hb, hw⟩ := List.mem_flatMap.mp h
      obtain ⟨v, hv, rfl⟩ := List.mem_map.mp hw
      obtain ⟨bn, r, o⟩ := mem_lotP.mp hb
      have t := (mem_tails (by omega)).1 hv
      rw [← e] at o t
      exact .go (by omega) bn r o t
    · intro h
      generalize ei : m - (k + 1) = i at h e
      cases h with
      | stop => omega
      | @go _ _ b v hi hb r o t =>
        refine List.mem_flatMap.mpr ⟨b, mem_lotP.mpr ⟨hb, ?_, ?_⟩, List.mem_map.mpr ⟨v, ?_, rfl⟩⟩
        · exact r
        · rw [← e]; exact o
        · refine (mem_tails (by omega)).2 ?_
          rw [← e]; exact t
theorem mem_walks {w : List Nat} : w ∈ walks n m S R O ↔ Fit n m S R O w := by
  unfold walks
  constructor
  · intro h
    obtain ⟨a, ha, hw⟩ := List.mem_flatMap.mp h
    obtain ⟨v, hv, rfl⟩ := List.mem_map.mp hw
    obtain ⟨an, s, o⟩ := mem_lotP.mp ha
    have t := (mem_tails (Nat.le_refl m)).1 hv
    rw [Nat.sub_self] at t
    exact ⟨an, s, o, t⟩
  · intro h
    cases w with
    | nil => exact h.elim
    | cons a v =>
      refine List.mem_flatMap.mpr ⟨a, mem_lotP.mpr ⟨h.1, h.2.1, h.2.2.1⟩, List.mem_map.mpr ⟨v, (mem_tails (Nat.le_refl m)).2 ?_, rfl⟩⟩
      rw [Nat.sub_self]
      exact h.2.2.2
theorem grow_sorted {xs : List Nat} {f : Nat → List (List Nat)} (hx : xs.Pairwise (· < ·)) (hf : ∀ a ∈ xs, (f a).Pairwise lexL) : (xs.flatMap fun a => (f a).map (a :: ·)).Pairwise lexL := by
  rw [List.pairwise_flatMap]
  refine ⟨fun a ha => ?_, hx.imp fun {a b} hab x hx y hy => ?_⟩
  · rw [List.pairwise_map]
    exact (hf a ha).imp fun h => .inr ⟨rfl, h⟩
  · obtain ⟨v, _, rfl⟩ := List.mem_map.mp hx
    obtain ⟨u, _, rfl⟩ := List.mem_map.mp hy
    exact .inl hab
theorem tails_sorted : ∀ {k a : Nat}, (tails n m R O k a).Pairwise lexL
  | 0, _ => List.pairwise_singleton _ _
  | k + 1, a => grow_sorted (lotP_sorted _ _) fun b _ => tails_sorted
theorem walks_sorted : (walks n m S R O).Pairwise lexL := grow_sorted (lotP_sorted _ _) fun b _ => tails_sorted
/-- any rising list of just the fitting walks is this one -/
theorem walks_of {ws : List (List Nat)} (h : ws.Pairwise lexL) (hm : ∀ w, w ∈ ws ↔ Fit n m S R O w) : ws = walks n m S R O :=
  pw_eq lexL_irr (fun h => lexL_asym h) h walks_sorted fun w => (hm w).trans mem_walks.symm
/-- how many: by the next places -/
theorem tails_many (k a : Nat) : (tails n m R O (k + 1) a).length = ((lotP n fun b => R (m - (k + 1)) a b ∧ O (m - k) b).map fun b => (tails n m R O k b).length).sum := by
  conv => lhs; unfold tails
  rw [List.length_flatMap]
  congr 1
  exact List.map_congr_left fun b _ => List.length_map _
theorem walks_many : (walks n m S R O).length = ((lotP n fun a => S a ∧ O 0 a).map fun a => (tails n m R O m a).length).sum := by
  unfold walks
  rw [List.length_flatMap]
  congr 1
  exact List.map_congr_left fun b _ => List.length_map _
/-- there is none just where the lot back lacks the place -/
theorem tails_none {k a : Nat} (hk : k ≤ m) (ha : a < n) (o : O (m - k) a) : (tails n m R O k a).length = 0 ↔ ¬ BackP n m R O k a := by
  constructor
  · intro h b
    obtain ⟨w, t⟩ := b.tail hk
    have := (mem_tails hk).2 t
    rw [List.eq_nil_of_length_eq_zero h] at this
    cases this
  · intro h
    cases e : tails n m R O k a with
    | nil => rfl
    | cons w ws =>
      exfalso
      have t := (mem_tails hk).1 (show w ∈ tails n m R O k a by rw [e]; exact List.mem_cons_self)
      have := t.back ha o
      have e2 : m - (m - k) = k := by omega
      rw [e2] at this
      exact h this
end RLM
/-! All walks of a story by growing rows at their ends, those that fit taken out of them. Plain mathematics. -/
namespace RLM
theorem lexL_app : ∀ {v w : List Nat} (x y : List Nat), lexL v w → lexL (v ++ x) (w ++ y)
  | [], _, _, _, h => h.elim
  | _ :: _, [], _, _, h => h.elim
  | a :: v, b :: w, x, y, h => by
    rcases h with h | ⟨e, h⟩
    · exact .inl h
    · exact .inr ⟨e, lexL_app x y h⟩
theorem lexL_end : ∀ (v : List Nat) {a b : Nat}, a < b → lexL (v ++ [a]) (v ++ [b])
  | [], _, _, h => .inl h
  | _ :: v, _, _, h => .inr ⟨rfl, lexL_end v h⟩
section
variable (n : Nat) (S : Nat → Prop) (R : Nat → Nat → Nat → Prop)
/-- the rows of i steps -/
noncomputable def rows : Nat → List (List Nat)
  | 0 => (lotP n S).map fun a => [a]
  | i + 1 => (rows i).flatMap fun v => (lotP n (R i (v.getLastD 0))).map fun b => v ++ [b]
/-- such a row: from the beginning on, its steps are let -/
def Goes : Nat → List Nat → Prop
  | 0, w => ∃ a, a < n ∧ S a ∧ w = [a]
  | i + 1, w => ∃ v b, Goes i v ∧ b < n ∧ R i (v.getLastD 0) b ∧ w = v ++ [b]
end
variable {n m : Nat} {S : Nat → Prop} {R : Nat → Nat → Nat → Prop} {O : Nat → Nat → Prop}
theorem Goes.len : ∀ {i : Nat} {w : List Nat}, Goes n S R i w → w.length = i + 1
  | 0, w, ⟨a, _, _, e⟩ => by rw [e]; rfl
  | i + 1, w, ⟨v, b, g, _, _, e⟩ => by rw [e, List.length_append, g.len]; rfl
theorem mem_rows : ∀ {i : Nat} {w : List Nat}, w ∈ rows n S R i ↔ Goes n S R i w
  | 0, w => by
    unfold rows Goes
    rw [List.mem_map]
    constructor
    · rintro ⟨a, ha, rfl⟩
      exact ⟨a, (mem_lotP.mp ha).1, (mem_lotP.mp ha).2, rfl⟩
    · rintro ⟨a, h1, h2, rfl⟩
      exact ⟨a, mem_lotP.mpr ⟨h1, h2⟩, rfl⟩
  | i + 1, w => by
    unfold rows Goes
    rw [List.mem_flatMap]
    constructor
    · rintro ⟨v, hv, hw⟩
      obtain ⟨b, hb, rfl⟩ := List.mem_map.mp hw
      exact ⟨v, b, mem_rows.1 hv, (mem_lotP.mp hb).1, (mem_lotP.mp hb).2, rfl⟩
    · rintro ⟨v, b, g, h1, h2, rfl⟩
      exact ⟨v, mem_rows.2 g, List.mem_map.mpr ⟨b, mem_lotP.mpr ⟨h1, h2⟩, rfl⟩⟩
theorem rows_sorted : ∀ i : Nat, (rows n S R i).Pairwise lexL
  | 0 => by
    unfold rows
    rw [List.pairwise_map]
    exact (lotP_sorted _ _).imp fun h => .inl h
  | i + 1 => by
    unfold rows
    rw [List.pairwise_flatMap]
    refine ⟨fun v _ => ?_, (rows_sorted i).imp fun {v w} h x hx y hy => ?_⟩
    · rw [List.pairwise_map]
      exact (lotP_sorted _ _).imp fun h => lexL_end v h
    · obtain ⟨a, _, rfl⟩ := List.mem_map.mp hx
      obtain ⟨b, _, rfl⟩ := List.mem_map.mp hy
      exact lexL_app _ _ h
/-- a row followed by a tail -/
theorem Goes.fit : ∀ {i : Nat} {v t : List Nat}, Goes n S R i v → (∀ (j b : Nat), v[j]? = some b → O j b) → Tail n m R O i (v.getLastD 0) t → Fit n m S R O (v ++ t)
  | 0, v, t, ⟨a, an, s, e⟩, o, h => by
    subst e
    exact ⟨an, s, o 0 a rfl, h⟩
  | i + 1, w, t, ⟨v, b, g, bn, r, e⟩, o, h => by
    subst e
    have lb : (v ++ [b]).getLastD 0 = b := by simp
    rw [lb] at h
    have ob : O (i + 1) b := o (i + 1) b (by rw [List.getElem?_append_right (by rw [g.len]; omega), g.len, Nat.sub_self]; rfl)
    have hi : i < m := by have := h.len; omega
    have := g.fit (t := b :: t) (fun j c e => o j c (by rw [List.getElem?_append_left ((List.getElem?_eq_some_iff.mp e).1)]; exact e)) (.go hi bn r ob h)
    simpa using this
theorem Tail.goes {i a : Nat} {w : List Nat} (h : Tail n m R O i a w) : ∀ {v : List Nat}, Goes n S R i v → v.getLastD 0 = a → (∀ (j b : Nat), v[j]? = some b → O j b) → Goes n S R m (v ++ w) ∧ ∀ (j b : Nat), (v ++ w)[j]? = some b → O j b := by
  induction h with
  | stop a =>
    intro v g e o
    rw [List.append_nil]
    exact ⟨g, o⟩
  | @go i a b w hi hb r o2 t ih =>
    intro v g e o
    have := ih (v := v ++ [b]) ⟨v, b, g, hb, by rw [e]; exact r, rfl⟩ (by simp) (fun j c ej => by
      by_cases hj : j < v.length
      · rw [List.getElem?_append_left hj] at ej
        exact o j c ej
      · rw [List.getElem?_append_right (by omega)] at ej
        have hj2 : j - v.length = 0 := by
          have := (List.getElem?_eq_some_iff.mp ej).1
          simp at this
          omega
        rw [hj2] at ej
        have ec : b = c := by simpa using ej
        have ejj : j = i + 1 := by have := g.len; omega
        rw [← ec, ejj]
        exact o2)
    simpa using this
/-- those rows that fit what was seen are the walks that fit -/
theorem fit_iff {w : List Nat} : Fit n m S R O w ↔ Goes n S R m w ∧ ∀ (j b : Nat), w[j]? = some b → O j b := by
  constructor
  · intro h
    cases w with
    | nil => exact h.elim
    | cons a w =>
      have := h.2.2.2.goes (S := S) (v := [a]) ⟨a, h.1, h.2.1, rfl⟩ rfl (fun j b e => by
        cases j with
        | zero => have : a = b := by simpa using e
                  rw [← this]; exact h.2.2.1
        | succ j => simp at e)
      simpa using this
  · rintro ⟨g, o⟩
    have := g.fit (t := []) o (.stop _)
    simpa using this
open Classical in
theorem rows_fit : ((rows n S R m).filter fun w => decide (∀ (j b : Nat), w[j]? = some b → O j b)) = walks n m S R O := by
  refine walks_of ((rows_sorted m).filter _) fun w => ?_
  rw [List.mem_filter, mem_rows, decide_eq_true_iff]
  exact fit_iff.symm
end RLM
/-! The numbers of walks: where a walk stands in the list of walks, which stands at a number. Plain mathematics. -/
namespace RLM
/-- lists grown at their beginning by the places xs -/
def grow (xs : List Nat) (f : Nat → List (List Nat)) : List (List Nat) := xs.flatMap fun b => (f b).map (b :: ·)
theorem grow_nil (f : Nat → List (List Nat)) : grow [] f = [] := rfl
theorem grow_cons (x : Nat) (xs : List Nat) (f : Nat → List (List Nat)) : grow (x :: xs) f = (f x).map (x :: ·) ++ grow xs f := rfl
theorem mem_grow {xs : List Nat} {f : Nat → List (List Nat)} {a : Nat} {v : List Nat} : (a :: v) ∈ grow xs f ↔ a ∈ xs ∧ v ∈ f a := by
  unfold grow
  rw [List.mem_flatMap]
  constructor
  · rintro ⟨b, hb, hw⟩
    obtain ⟨u, hu, e⟩ := List.mem_map.mp hw
    cases e
    exact ⟨hb, hu⟩
  · rintro ⟨h1, h2⟩
    exact ⟨a, h1, List.mem_map.mpr ⟨v, h2, rfl⟩⟩
theorem idx_map {a : Nat} {v : List Nat} : ∀ l : List (List Nat), (l.map (a :: ·)).idxOf (a :: v) = l.idxOf v
  | [] => rfl
  | u :: l => by
    rw [List.map_cons, List.idxOf_cons, List.idxOf_cons, idx_map l]
    by_cases e : u = v
    · subst e
      simp
    · have e2 : ¬ (a :: u = a :: v) := fun z => e (List.cons.inj z).2
      simp [e, e2]
/-- the number of a walk: those that begin lower, and where its rest stands among the rests -/
theorem idx_grow {f : Nat → List (List Nat)} {a : Nat} {v : List Nat} (hv : v ∈ f a) : ∀ {xs : List Nat}, xs.Pairwise (· < ·) → a ∈ xs →
    (grow xs f).idxOf (a :: v) = ((xs.filter fun b => decide (b < a)).map fun b => (f b).length).sum + (f a).idxOf v
  | [], _, h => by cases h
  | x :: xs, hx, h => by
    obtain ⟨h1, h2⟩ := List.pairwise_cons.mp hx
    rw [grow_cons, List.idxOf_append]
    by_cases e : x = a
    · subst e
      rw [if_pos (List.mem_map.mpr ⟨v, hv, rfl⟩), idx_map]
      have z : ((x :: xs).filter fun b => decide (b < x)) = [] := by
        rw [List.filter_eq_nil_iff]
        intro b hb
        rcases List.mem_cons.mp hb with e | hb
        · simp [e]
        · have := h1 b hb
          simp
          omega
      rw [z]
      simp
    · have ha : a ∈ xs := by
        rcases List.mem_cons.mp h with e2 | h
        · exact absurd e2.symm e
        · exact h
      have xa := h1 a ha
      rw [if_neg (fun z => by
        obtain ⟨u, _, e2⟩ := List.mem_map.mp z
        exact e (List.cons.inj e2).1), idx_grow hv h2 ha, List.filter_cons, if_pos (decide_eq_true xa), List.map_cons, List.sum_cons, List.length_map]
      omega
/-- the walk at a number: among those of the first place, or further on -/
theorem get_grow (x : Nat) (xs : List Nat) (f : Nat → List (List Nat)) (k : Nat) : (grow (x :: xs) f)[k]? = if k < (f x).length then ((f x)[k]?).map (x :: ·) else (grow xs f)[k - (f x).length]? := by
  rw [grow_cons]
  by_cases h : k < (f x).length
  · rw [if_pos h, List.getElem?_append_left (by rw [List.length_map]; exact h), List.getElem?_map]
  · rw [if_neg h, List.getElem?_append_right (by rw [List.length_map]; omega), List.length_map]
theorem len_grow (xs : List Nat) (f : Nat → List (List Nat)) : (grow xs f).length = (xs.map fun b => (f b).length).sum := by
  unfold grow
  rw [List.length_flatMap]
  congr 1
  exact List.map_congr_left fun b _ => List.length_map _
variable {n m : Nat} {S : Nat → Prop} {R : Nat → Nat → Nat → Prop} {O : Nat → Nat → Prop}
theorem tails_grow (k a : Nat) : tails n m R O (k + 1) a = grow (lotP n fun b => R (m - (k + 1)) a b ∧ O (m - k) b) (tails n m R O k) := by
  conv => lhs; unfold tails
  rfl
theorem walks_grow : walks n m S R O = grow (lotP n fun a => S a ∧ O 0 a) (tails n m R O m) := rfl
/-- numbers are ordered as the walks are -/
theorem num_lt {ws : List (List Nat)} (h : ws.Pairwise lexL) {i j : Nat} {v w : List Nat} (hi : ws[i]? = some v) (hj : ws[j]? = some w) : i < j ↔ lexL v w := by
  obtain ⟨i1, ei⟩ := List.getElem?_eq_some_iff.mp hi
  obtain ⟨j1, ej⟩ := List.getElem?_eq_some_iff.mp hj
  have key : ∀ (a b : Nat) (ha : a < ws.length) (hb : b < ws.length), a < b → lexL ws[a] ws[b] := fun a b ha hb hab => List.pairwise_iff_getElem.mp h a b ha hb hab
  constructor
  · intro k
    rw [← ei, ← ej]
    exact key i j i1 j1 k
  · intro l
    rcases Nat.lt_trichotomy i j with k | k | k
    · exact k
    · subst k
      rw [hi] at hj
      cases hj
      exact absurd l (lexL_irr _)
    · have := key j i j1 i1 k
      rw [ei, ej] at this
      exact absurd l (lexL_asym this)
theorem sorted_nodup {ws : List (List Nat)} (h : ws.Pairwise lexL) : ws.Nodup := h.imp fun {a b} r e => by
  subst e
  exact lexL_irr _ r
end RLM
namespace RL
open PySem PySem.Spec PyProof.Rows L2 RLM
/-- the steps that pace i lets -/
def stepR (E : List (Nat × Nat)) (PS : List (Addr × List Nat)) (i a b : Nat) : Prop := ∃ q, PS[i]? = some q ∧ Near E ((q.2.getD a 0 : Nat) : Int) a b
theorem forth_zero {n : Nat} {p : Nat → Prop} {R : Nat → Nat → Nat → Prop} {O : Nat → Nat → Prop} : lotP n (fun b => p b ∧ O 0 b) = lotP n (ForthP n p R O 0) := lotP_congr fun b hb => ⟨fun h => ⟨hb, h.1, h.2⟩, fun h => h.2⟩
theorem forth_next {n : Nat} {E : List (Nat × Nat)} {PS : List (Addr × List Nat)} {p : Nat → Prop} {O : Nat → Nat → Prop} {i : Nat} {q : Addr × List Nat} (hq : PS[i]? = some q) :
    lotP n (fun b => stepP n E q.2 (ForthP n p (stepR E PS) O i) b ∧ O (i + 1) b) = lotP n (ForthP n p (stepR E PS) O (i + 1)) := lotP_congr fun b hb => by
  constructor
  · rintro ⟨⟨a, an, fa, nr⟩, o⟩
    exact ⟨hb, o, a, fa, q, hq, nr⟩
  · rintro ⟨_, o, a, fa, q', hq', nr⟩
    rw [hq] at hq'
    cases hq'
    exact ⟨⟨a, fa.lt, fa, nr⟩, o⟩
theorem at1 {xs : List V} {j : Nat} {x : V} (h : xs[j + 1]? = some x) : atI xs (0 + (j : Int) + 1) = some x := by
  rw [Int.zero_add]
  exact atI_nat h
theorem at_last {us : List Addr} {u : Addr} : atI ((us ++ [u]).map V.ref) (-1) = some (V.ref u) := by
  rw [List.map_append]
  exact atI_last _ _
section
variable {P : Program} {w : World} {K : PySem.W.Frag} {mg : Str → Option Value} {base : Heap}
def spForth : Sp := fun vs H Q _ => ∃ (c D s : Addr) (n : Nat) (rs : List Addr) (M : Nat → Nat → Nat) (E : List (Nat × Nat)) (p : Nat → Prop) (PS : List (Addr × List Nat)) (SN : List (Addr × V × Triple)), vs = [.ref D, .ref s] ∧ n ≤ 8 ∧ TabAt c H D n rs M ∧ Spans n E M ∧ StoryAt n H s p PS SN ∧
  ∀ H' l, LotsAt n H' l (PS.length + 1) (ForthP n p (stepR E PS) (openP M SN)) → H l = none → Same H H' → Q (.ref l) H'
end
end RL
namespace RL
open PySem PySem.Spec PyProof.Rows L2 RLM
section
variable {P : Program} {w : World} {K : PySem.W.Frag} {mg : Str → Option Value} {base : Heap}
end
end RL
namespace RL
open PySem PySem.Spec PyProof.Rows L2 RLM
section
variable {P : Program} {w : World} {K : PySem.W.Frag} {mg : Str → Option Value} {base : Heap}
end
end RL
namespace RL
open PySem PySem.Spec PyProof.Rows L2 RLM
/-- any turns over a walk, whatever is done in a turn -/
theorem it_any {J : It} {n : Nat} {G : Hp → Prop} {Y : Nat → Hp → V → Hp → Prop} (w : Walk J n G Y) {B : (Hp → Prop) → V → Hp → Prop} {H0 : Hp} {Qd : Hp → Prop} (Pv : Nat → Hp → Prop) (h0 : Pv 0 H0) (hG : ∀ i H, i ≤ n → Pv i H → G H)
    (hs : ∀ i x H H', i < n → Pv i H → Y i H x H' → B (Pv (i + 1)) x H') (hd : ∀ H, Pv n H → Qd H) :
    ∃ W : Nat → Nat → Hp → Prop, (∃ m, W 0 m H0) ∧ ∀ i m H, W i m H → (J.stop i H ∧ Qd H) ∨ (J.go i H ∧ ∃ Nx : Hp → Prop, (∀ H', Nx H' → ∃ m', m' < m ∧ W (i + 1) m' H') ∧ ∀ x H', J.yld i H x H' → B Nx x H') := by
  refine ⟨fun i m H => m = n - i ∧ i ≤ n ∧ Pv i H, ⟨n, by simp, Nat.zero_le _, h0⟩, ?_⟩
  rintro i m H ⟨rfl, hi, p⟩
  have q := hG i H hi p
  by_cases lt : i < n
  · exact .inr ⟨w.goes i H lt q, Pv (i + 1), fun H' p' => ⟨n - (i + 1), by omega, rfl, lt, p'⟩, fun x H' y => hs i x H H' lt p (w.yields i H x H' lt q y)⟩
  · have e : i = n := by omega
    subst e
    exact .inl ⟨w.stops H q, hd H p⟩
theorem bf_far (n : Nat) (lp ll lf : Addr) : (bf n lp ll lf).lookup ("far" : Str) = none := by rfl
/-- spans and how far are one up to 8 -/
theorem min_far {n : Nat} {E : List (Nat × Nat)} {M : Nat → Nat → Nat} (S : Spans n E M) {a b k : Nat} (ha : a < n) (hb : b < n) (k7 : k ≤ 7) {d : Option Nat} (h : ∀ m : Int, (∃ j : Nat, d = some j ∧ (j : Int) ≤ m) ↔ Near E m a b) :
    min (M a b) (k + 1) = match d with
      | none => k + 1
      | some j => min j (k + 1) := by
  have key : ∀ m : Nat, m < 99 → (M a b ≤ m ↔ ∃ j, d = some j ∧ j ≤ m) := fun m hm => by
    have h1 := h (m : Int)
    have h2 := S.nr a b m ha hb (by omega)
    constructor
    · intro z
      obtain ⟨j, e, q⟩ := h1.2 (h2.1 (by omega))
      exact ⟨j, e, by omega⟩
    · rintro ⟨j, e, q⟩
      have := h2.2 (h1.1 ⟨j, e, by omega⟩)
      omega
  cases d with
  | none =>
    have : ¬ M a b ≤ k := fun z => by
      obtain ⟨j, e, _⟩ := (key k (by omega)).1 z
      cases e
    show min (M a b) (k + 1) = k + 1
    omega
  | some j =>
    show min (M a b) (k + 1) = min j (k + 1)
    have key2 : ∀ m : Nat, m < 99 → (M a b ≤ m ↔ j ≤ m) := fun m hm => by
      rw [key m hm]
      constructor
      · rintro ⟨i, e, q⟩
        cases e
        exact q
      · exact fun q => ⟨j, rfl, q⟩
    by_cases z : j ≤ k
    · have h1 := (key2 j (by omega)).2 (Nat.le_refl _)
      have h2 := (key2 (M a b) (by omega)).1 (Nat.le_refl _)
      omega
    · have h1 : ¬ M a b ≤ k := fun y => z ((key2 k (by omega)).1 y)
      omega
section
variable {P : Program} {w : World} {K : PySem.W.Frag} {mg : Str → Option Value} {base : Heap}
def spFar (K : PySem.W.Frag) : Sp := fun vs H Q _ => ∃ (c x : Addr) (n a b : Nat) (E : List (Nat × Nat)), vs = [.ref x, vI a, vI b] ∧ BoardAt K c H x n E ∧ a < n ∧ b < n ∧ ∀ d : Option Nat, (∀ m : Int, (∃ j : Nat, d = some j ∧ (j : Int) ≤ m) ↔ Near E m a b) → Q (vO d) H
theorem sc_Board_far : FnScope ["self", "one", "other"] ["self", "one", "other"] (defScope s_Board_far) := ⟨rfl, rfl, rfl, by decide +kernel, rfl, by decide +kernel, by decide +kernel⟩
theorem ok_far (T : Tx K mg) : Has P w K mg base (mB K "far") 4 ["self", "one", "other"] (spFar K) := by
  obtain ⟨⟨fd_check_place, F_check_place, b_check_place⟩, kp_check_place⟩ := ok_check (P := P) (w := w) (base := base) T
  obtain ⟨fd, F⟩ := T.d_Board_far
  refine ⟨⟨fd, F.ok sc_Board_far (fun vs H Q E h => ?_) (fun cdv A outer s H vs Q E hr h => ?_), F.bindsN fun _ _ _ _ _ _ us hl => match us, hl with | [_, _, _], _ => rfl⟩, F.kp⟩
  · obtain ⟨c, x, n, a, b, E, rfl, _⟩ := h
    rfl
  · obtain ⟨c, x, n, a, b, E, rfl, B, an, bn, h⟩ := h
    have hr_check_place : Room 3 _ := hr.mono (by decide)
    refine ⟨_, PSs.nox (pss_cons (ps_expr (pe_meth (pv 0) T.cl T.m_check_place F_check_place hr_check_place b_check_place .nil pass0 (pa_cons (pv 1) pa_nil)))
      (pss_cons (ps_expr (pe_meth (pv 0) T.cl T.m_check_place F_check_place hr_check_place b_check_place .nil pass0 (pa_cons (pv 2) pa_nil)))
      (pss_one (ps_ret (pe_ix (ixL (K := K)) (pe_ix (ixL (K := K)) (fldK (K := K) (pv 0) rfl) (pv 1) (fun _ _ => rfl)) (pv 2) (fun _ _ => rfl)))))), ?_⟩
    obtain ⟨dx, lp, ll, lf, L, ls, U, hx, h2, h3, h4, h5, h6, hlf, lfc, lU, eU⟩ := B.ex
    refine ⟨_, rfl, x, dx, _, rfl, hx, bf_check _ _ _ _, _, rfl, c, x, n, a, E, rfl, B, an, ?_⟩
    refine ⟨_, rfl, x, dx, _, rfl, hx, bf_check _ _ _ _, _, rfl, c, x, n, b, E, rfl, B, bn, ?_⟩
    obtain ⟨u, hu⟩ : ∃ u, U[a]? = some u := ⟨_, List.getElem?_eq_getElem (by rw [lU]; exact an)⟩
    obtain ⟨hul, uc, FF⟩ := eU a u hu
    have hb : u.2[b]? = some (u.2[b]'(by rw [FF.1]; exact bn)) := List.getElem?_eq_getElem _
    refine ⟨_, rfl, x, _, dx, _, _, rfl, hx, T.cl, T.n_fars, bf_fars _ _ _ _, _, rfl, lf, _, _, _, rfl, rfl, SqL.of hlf, atI_nat (get_map hu), ?_⟩
    exact ⟨_, rfl, u.1, _, _, _, rfl, rfl, SqL.of hul, atI_nat (get_map hb), h _ fun m => FF.2 b _ hb m⟩
def spNear (K : PySem.W.Frag) : Sp := fun vs H Q _ => ∃ (c x : Addr) (n a b k : Nat) (E : List (Nat × Nat)) (M : Nat → Nat → Nat), vs = [.ref x, vI a, vI b, vI k] ∧ BoardAt K c H x n E ∧ Spans n E M ∧ a < n ∧ b < n ∧ k ≤ 7 ∧ Q (vI (min (M a b) (k + 1))) H
theorem sc_near_answer : FnScope ["board", "place", "goal", "most", "far"] ["board", "place", "goal", "most"] (defScope s_near_answer) := ⟨rfl, rfl, rfl, by decide +kernel, rfl, by decide +kernel, by decide +kernel⟩
theorem ok_near (T : Tx K mg) : Has P w K mg base (He.ga K "near_answer") 5 ["board", "place", "goal", "most"] (spNear K) := by
  obtain ⟨⟨fd_far, F_far, b_far⟩, kp_far⟩ := ok_far (P := P) (w := w) (base := base) T
  obtain ⟨fd, F⟩ := T.d_near_answer
  refine ⟨⟨fd, F.ok sc_near_answer (fun vs H Q E h => ?_) (fun cdv A outer s H vs Q E hr h => ?_), F.bindsN fun _ _ _ _ _ _ us hl => match us, hl with | [_, _, _, _], _ => rfl⟩, F.kp⟩
  · obtain ⟨c, x, n, a, b, k, E, M, rfl, _⟩ := h
    rfl
  · obtain ⟨c, x, n, a, b, k, E, M, rfl, B, S, an, bn, k7, h⟩ := h
    have hr_far : Room 4 _ := hr.mono (by decide)
    refine ⟨_, PSs.nox (pss_cons (ps_set (i := 4) sc_near_answer.nd rfl (Or.inl rfl) (pe_meth (pv 0) T.cl T.m_far F_far hr_far b_far .nil pass0 (pa_cons (pv 1) (pa_cons (pv 2) pa_nil))))
      (pss_one (ps_ret (pe_ifExp (pt_cmpR op_isN (pv 4) pe_non (nomark _)) (pe_op op_add (pv 3) pe_int) (pe_callB (call_min2 rfl) (by rfl) T.free_min (by decide +kernel) (pa_cons (pv 4) (pa_cons (pe_op op_add (pv 3) pe_int) pa_nil))))))), ?_⟩
    obtain ⟨dx, lp, ll, lf, hx⟩ := B.obj
    refine ⟨_, rfl, x, dx, _, rfl, hx, bf_far _ _ _ _, _, rfl, _, rfl, c, x, n, a, b, E, rfl, B, an, bn, fun d hd => ?_⟩
    have e := min_far S an bn k7 hd
    rw [e] at h
    cases d with
    | none =>
      refine ⟨_, rfl, rfl, _, rfl, iteT ?_⟩
      exact ⟨_, rfl, _, _, rfl, rfl, h⟩
    | some j =>
      refine ⟨_, rfl, rfl, _, rfl, iteF ?_⟩
      refine ⟨_, rfl, _, rfl, _, _, rfl, rfl, _, _, rfl, ?_⟩
      have e2 : V.int (if ((k : Nat) : Int) + 1 < ((j : Nat) : Int) then ((k : Nat) : Int) + 1 else ((j : Nat) : Int)) = vI (min j (k + 1)) := by
        unfold vI
        congr 1
        split <;> omega
      show Q (V.int (if ((k : Nat) : Int) + 1 < ((j : Nat) : Int) then ((k : Nat) : Int) + 1 else ((j : Nat) : Int))) H
      rw [e2]
      exact h
end
end RL
namespace RL
open PySem PySem.Spec PyProof.Rows L2 RLM
/-- the places of all parts, in a row -/
noncomputable def allP (n : Nat) (ps : List (Nat → Prop)) : List Nat := ps.flatMap (lotP n)
theorem allP_perm {n : Nat} {ps : List (Nat → Prop)} (h : LookOk n (.parts ps)) : (allP n ps).Perm (List.range n) := by
  obtain ⟨_, cov, dis, _⟩ := h
  have nd : (allP n ps).Nodup := by
    unfold allP
    refine List.pairwise_flatMap.mpr ⟨fun p _ => (lotP_sorted n p).imp fun z => Nat.ne_of_lt z, ?_⟩
    rw [List.pairwise_iff_getElem]
    intro i j hi hj ij a ha b hb e
    subst e
    have h1 := mem_lotP.mp ha
    have h2 := mem_lotP.mp hb
    have := dis i j _ _ a (List.getElem?_eq_getElem hi) (List.getElem?_eq_getElem hj) h1.1 h1.2 h2.2
    omega
  refine (List.perm_ext_iff_of_nodup nd List.nodup_range).mpr fun b => ?_
  rw [List.mem_range]
  unfold allP
  rw [List.mem_flatMap]
  constructor
  · rintro ⟨p, _, hb⟩
    exact (mem_lotP.mp hb).1
  · intro bn
    obtain ⟨k, p, e, pb⟩ := cov b bn
    exact ⟨p, List.mem_of_getElem? e, mem_lotP.mpr ⟨bn, pb⟩⟩
theorem allP_take {n : Nat} {ps : List (Nat → Prop)} {i : Nat} {p : Nat → Prop} (h : ps[i]? = some p) : allP n (ps.take (i + 1)) = allP n (ps.take i) ++ lotP n p := by
  rw [List.take_add_one, h]
  unfold allP
  rw [List.flatMap_append]
  simp
theorem allP_len {n : Nat} {ps : List (Nat → Prop)} (h : LookOk n (.parts ps)) (i : Nat) : (allP n (ps.take i)).length ≤ n := by
  have e := (allP_perm h).length_eq
  rw [List.length_range] at e
  have : allP n ps = allP n (ps.take i) ++ allP n (ps.drop i) := by
    unfold allP
    rw [← List.flatMap_append, List.take_append_drop]
  rw [this, List.length_append] at e
  omega
section
variable {P : Program} {w : World} {K : PySem.W.Frag} {mg : Str → Option Value} {base : Heap}
def spFilled (K : PySem.W.Frag) : Sp := fun vs H Q _ => ∃ (c x t : Addr) (n : Nat) (E : List (Nat × Nat)) (p : Nat → Prop), vs = [.ref x, .ref t] ∧ BoardAt K c H x n E ∧ H t = some (.tup ((lotP n p).map vI)) ∧ (∃ b, b < n ∧ p b) ∧ ∀ H', Same H H' → Q (.bl true) H'
theorem sc_is_filled_lot : FnScope ["board", "lot"] ["board", "lot"] (defScope s_is_filled_lot) := ⟨rfl, rfl, rfl, by decide +kernel, rfl, by decide +kernel, by decide +kernel⟩
theorem ok_filled (T : Tx K mg) : Has P w K mg base (He.ga K "is_filled_lot") 4 ["board", "lot"] (spFilled K) := by
  obtain ⟨⟨fd_is_lot, F_is_lot, b_is_lot⟩, kp_is_lot⟩ := ok_is_lot (P := P) (w := w) (base := base) T
  obtain ⟨fd, F⟩ := T.d_is_filled_lot
  refine ⟨⟨fd, F.ok sc_is_filled_lot (fun vs H Q E h => ?_) (fun cdv A outer s H vs Q E hr h => ?_), F.bindsN fun _ _ _ _ _ _ us hl => match us, hl with | [_, _], _ => rfl⟩, F.kp⟩
  · obtain ⟨c, x, t, n, E, p, rfl, _⟩ := h
    rfl
  · obtain ⟨c, x, t, n, E, p, rfl, B, ht, ⟨b, bn, pb⟩, h⟩ := h
    have hr_is_lot : Room 3 _ := hr.mono (by decide)
    refine ⟨_, PSs.nox (pss_one (ps_ret (pe_and (pe_call F_is_lot hr_is_lot rfl T.glo_is_lot kp_is_lot b_is_lot .nil pass0 (pa_cons (pv 0) (pa_cons (pv 1) pa_nil))) (pe_one (pe_cmpR op_gt (pe_callB (lenK (K := K)) (by rfl) T.free_len (by decide +kernel) (pa_cons (pv 1) pa_nil)) pe_int (nomark _)))))), ?_⟩
    refine ⟨_, rfl, _, rfl, c, x, t, n, E, p, rfl, B, ht, fun H1 s1 => ⟨true, rfl, iteT ?_⟩⟩
    refine ⟨_, rfl, t, _, rfl, .inr (SqT.of (s1 _ _ ht)), _, _, rfl, rfl, ?_⟩
    have pos : 0 < ((lotP n p).map vI).length := by
      rw [List.length_map]
      exact List.length_pos_of_mem (mem_lotP.mpr ⟨bn, pb⟩)
    show Q (V.bl (decide ((0 : Int) < _))) H1
    rw [decide_eq_true (by omega)]
    exact h _ s1
def spParts (K : PySem.W.Frag) : Sp := fun vs H Q _ => ∃ (c x u : Addr) (n : Nat) (E : List (Nat × Nat)) (us : List Addr) (ps : List (Nat → Prop)), vs = [.ref x, .ref u] ∧ BoardAt K c H x n E ∧ H u = some (.tup (us.map V.ref)) ∧ us.length = ps.length ∧ (∀ (k : Nat) (a : Addr) (p : Nat → Prop), us[k]? = some a → ps[k]? = some p → H a = some (.tup ((lotP n p).map vI))) ∧ LookOk n (.parts ps) ∧ ∀ H', Same H H' → Q (.bl true) H'
theorem sc_are_parts : FnScope ["board", "lots", "lot", "place"] ["board", "lots"] (defScope s_are_parts) := ⟨rfl, rfl, rfl, by decide +kernel, rfl, by decide +kernel, by decide +kernel⟩
theorem ok_parts (T : Tx K mg) : Has P w K mg base (He.ga K "are_parts") 5 ["board", "lots"] (spParts K) := by
  obtain ⟨⟨fd_is_filled_lot, F_is_filled_lot, b_is_filled_lot⟩, kp_is_filled_lot⟩ := ok_filled (P := P) (w := w) (base := base) T
  obtain ⟨⟨fd_len, F_len, b_len⟩, kp_len⟩ := ok_len (P := P) (w := w) (base := base) T
  obtain ⟨fd, F⟩ := T.d_are_parts
  refine ⟨⟨fd, F.ok sc_are_parts (fun vs H Q E h => ?_) (fun cdv A outer s H vs Q E hr h => ?_), F.bindsN fun _ _ _ _ _ _ us hl => match us, hl with | [_, _], _ => rfl⟩, F.kp⟩
  · obtain ⟨c, x, u, n, E, us, ps, rfl, _⟩ := h
    rfl
  · obtain ⟨c, x, u, n, E, us, ps, rfl, B, hu, lu, hus, LO, h⟩ := h
    have hr_is_filled_lot : Room 4 _ := hr.mono (by decide)
    have hr_len : Room 2 _ := hr.mono (by decide)
    refine ⟨_, PSs.nox (pss_cons (ps_if (pt_not (pt_val (pe_callB (isiK (K := K)) (by rfl) T.free_isinstance (by decide +kernel) (pa_cons (pv 1) (pa_cons (pe_bltn (v := .ty "tuple") (u := .type "tuple") (by rfl) T.free_tuple (by decide +kernel) rfl) pa_nil))))) (pss_one (ps_ret pe_bl)) pss_nil)
      (pss_cons (ps_if (pt_not (pt_val (pe_callB (allK (K := K)) (by rfl) T.free_all (by decide +kernel) (pa_cons (pe_lc (own := [("lot", 2)]) (g := (gName 2)) (tt := tYes) rfl sc_are_parts.nd (piT (K := K) (pv 1)) (blkOk_by (by kernel_rfl)) (fun _ _ _ _ _ => (pg_name (i := 2) sc_are_parts.nd rfl (Or.inl rfl))) (fun _ _ _ _ _ => pts_nil) (fun _ _ _ _ _ => (pe_call F_is_filled_lot hr_is_filled_lot rfl T.glo_is_filled_lot kp_is_filled_lot b_is_filled_lot .nil pass0 (pa_cons (pv 0) (pa_cons (pv 2) pa_nil))))) pa_nil)))) (pss_one (ps_ret pe_bl)) pss_nil)
      (pss_one (ps_ret (pe_cmpR (eqD (K := K) hr.units) (pe_callB (sortLK (K := K)) (by rfl) T.free_sorted (by decide +kernel) (pa_cons (pe_lc2 (own := [("lot", 2), ("place", 3)]) (vs1 := [3]) (g := (gName 2)) (tt := tYes) (g1 := (gName 3)) (tt1 := tYes) rfl sc_are_parts.nd (piT (K := K) (pv 1)) (blkOk_by (by kernel_rfl)) (by decide) (fun _ _ _ _ _ => (pg_name (i := 2) sc_are_parts.nd rfl (Or.inl rfl))) (fun _ _ _ _ _ => pts_nil) (fun _ _ _ _ _ => (piT (K := K) (pv 2))) (fun _ _ _ _ _ => (pg_name (i := 3) sc_are_parts.nd rfl (Or.inl rfl))) (fun _ _ _ _ _ => pts_nil) (fun _ _ _ _ _ => (pv 3))) pa_nil)) (pe_listRg rfl (by rfl) T.free_list (prg_1 (by rfl) T.free_range (pe_callB (call_lenOwn T.m_len F_len b_len hr_len) (by rfl) T.free_len (by decide +kernel) (pa_cons (pv 0) pa_nil)))) (nomark _)))))), ?_⟩
    have n8 := B.hi
    obtain ⟨lps, cov, dis, non⟩ := id LO
    refine ⟨_, rfl, _, _, _, _, true, rfl, .ty _, .base (.tup hu), kit_ty (by decide +kernel), true, rfl, iteF ?_⟩
    refine ⟨_, rfl, u, rfl, ⟨_, SqT.of hu⟩, fun D hD => ?_⟩
    refine lc_val (walk_tup (K := K) (a := u) (xs := us.map V.ref)) (fun _ => .bl true) (by rw [List.length_map]; omega) hD (fun H1 s1 => SqT.of (s1 _ _ hu)) ?_ ?_
    · rintro i y H1 H2 Nx hi s1 ⟨rfl, hy⟩ k
      obtain ⟨a, ha, rfl⟩ := get_mapV hy
      have il : i < ps.length := by
        have := (List.getElem?_eq_some_iff.mp ha).1
        omega
      have hp : ps[i]? = some ps[i] := List.getElem?_eq_getElem il
      have hl := s1 _ _ (hus i a _ ha hp)
      obtain ⟨b, bn, pb⟩ := non _ (List.mem_of_getElem? hp)
      exact ⟨rfl, _, rfl, _, rfl, c, x, a, n, E, _, rfl, B.same s1, hl, ⟨b, bn, pb⟩, fun H3 s3 => k _ s3⟩
    · intro H1 h1 s1
      refine ⟨D, (List.range (us.map V.ref).length).map fun _ => true, rfl, SqL.of (by rw [h1, List.map_map]; rfl), _, rfl, ?_⟩
      rw [all_true (by simp)]
      refine iteF ?_
      have hu1 := s1 _ _ hu
      refine ⟨_, rfl, u, rfl, ⟨_, SqT.of hu1⟩, fun D2 hD2 => ?_⟩
      refine it_any (walk_tup (K := K) (a := u) (xs := us.map V.ref)) (fun i H2 => H2 D2 = some (.lst ((allP n (ps.take i)).map vI)) ∧ Same H1 H2) ⟨upd_same, same_upd hD2⟩ (fun i H2 _ ⟨_, s2⟩ => SqT.of (s2 _ _ hu1)) ?_ ?_
      · rintro i y H2 _ hi ⟨h2, s2⟩ ⟨rfl, hy⟩
        obtain ⟨a, ha, rfl⟩ := get_mapV hy
        have il : i < ps.length := by
          have := (List.getElem?_eq_some_iff.mp ha).1
          omega
        have hp : ps[i]? = some ps[i] := List.getElem?_eq_getElem il
        have s12 := s1.trans s2
        have hl := s12 _ _ (hus i a _ ha hp)
        refine ⟨rfl, yesT ?_⟩
        refine ⟨_, rfl, a, rfl, ⟨_, SqT.of hl⟩, ?_⟩
        refine it_any (walk_tup (K := K) (a := a) (xs := (lotP n ps[i]).map vI)) (fun j H3 => H3 D2 = some (.lst ((allP n (ps.take i) ++ (lotP n ps[i]).take j).map vI)) ∧ Same H1 H3 ∧ H3 a = some (.tup ((lotP n ps[i]).map vI))) ⟨by rw [List.take_zero, List.append_nil]; exact h2, s2, hl⟩ (fun j H3 _ z => SqT.of z.2.2) ?_ ?_
        · rintro j z H3 _ hj ⟨h3, s3, ha3⟩ ⟨rfl, hz⟩
          obtain ⟨b, hb, rfl⟩ := get_vI hz
          refine ⟨rfl, yesT ?_⟩
          have le := allP_len LO (i + 1)
          rw [allP_take hp, List.length_append] at le
          refine ⟨_, rfl, _, h3, ?_, ?_, same_mut s3 hD2, ?_⟩
          · rw [List.length_map, List.length_append, List.length_take]
            exact Nat.lt_of_le_of_lt (show _ ≤ 16 by omega) (by decide)
          · rw [upd_same, List.take_add_one, hb, ← List.append_assoc, List.map_append (l₁ := allP n (ps.take i) ++ (lotP n ps[i]).take j)]
            rfl
          · rw [upd_ne (ne_of ha3 h3 (by intro z; cases z))]
            exact ha3
        · rintro H3 ⟨h3, s3, _⟩
          rw [List.length_map, List.take_length, ← allP_take hp] at h3
          exact ⟨h3, s3⟩
      · rintro H2 ⟨h2, s2⟩
        rw [List.length_map, lu, List.take_length] at h2
        have pm := allP_perm LO
        have lp : (allP n ps).length = n := by rw [pm.length_eq, List.length_range]
        refine ⟨D2, (allP n ps).map nI, rfl, SqL.of (by rw [← vI_map]; exact h2), by rw [List.length_map]; omega, fun ms q pm2 so hq => ?_⟩
        have em := sorted_order pm pm2 so
        subst em
        have s3 := same_upd (o := HO.lst (((List.range n).map nI).map V.int)) hq
        have hq3 : (upd H2 q (.lst (((List.range n).map nI).map V.int))) q = some (.lst (((List.range n).map nI).map V.int)) := upd_same
        generalize upd H2 q (.lst (((List.range n).map nI).map V.int)) = H3 at s3 hq3
        have s13 := (s1.trans s2).trans s3
        have B3 := B.same s13
        obtain ⟨dx, q1, q2, q3, hx⟩ := B3.obj
        refine ⟨_, rfl, x, dx, _, rfl, hx, c, x, n, E, rfl, B3, (n : Int), rfl, by omega, by omega, (n : Int), rfl, RgOk.of_le (by decide) (by omega) (by decide) (by omega), fun r hr => ?_⟩
        have s4 := same_upd (o := HO.lst (rgV 0 (n : Int))) hr
        have er : rgV 0 (n : Int) = ((List.range n).map nI).map V.int := by rw [rg_range, vI_map]
        refine ⟨.list (((List.range n).map nI).map .int), .list (((List.range n).map nI).map .int), .lst (SqL.of (s4 _ _ hq3)) (dp_ints _), .lst (SqL.of (by rw [upd_same, er])) (dp_ints _), shaped_ints _, shaped_ints _, ?_⟩
        rw [SeqAt.eqv_refl _ (SeqAt.canLay_of_shaped (shaped_ints _))]
        exact h _ (s13.trans s4)
end
end RL
namespace RL
open PySem PySem.Spec PyProof.Rows L2 RLM
section
variable {P : Program} {w : World} {K : PySem.W.Frag} {mg : Str → Option Value} {base : Heap}
def spIsLook (K : PySem.W.Frag) : Sp := fun vs H Q _ => ∃ (c x : Addr) (v : V) (n : Nat) (E : List (Nat × Nat)) (L : Look), vs = [.ref x, v] ∧ BoardAt K c H x n E ∧ LookAt n H v L ∧ LookOk n L ∧ ∀ H', Same H H' → Q (.bl true) H'
theorem sc_is_look : FnScope ["board", "look"] ["board", "look"] (defScope s_is_look) := ⟨rfl, rfl, rfl, by decide +kernel, rfl, by decide +kernel, by decide +kernel⟩
theorem ok_is_look (T : Tx K mg) : Has P w K mg base (He.ga K "is_look") 6 ["board", "look"] (spIsLook K) := by
  obtain ⟨⟨fd_is_lot, F_is_lot, b_is_lot⟩, kp_is_lot⟩ := ok_is_lot (P := P) (w := w) (base := base) T
  obtain ⟨⟨fd_are_parts, F_are_parts, b_are_parts⟩, kp_are_parts⟩ := ok_parts (P := P) (w := w) (base := base) T
  obtain ⟨⟨fd_is_between, F_is_between, b_is_between⟩, kp_is_between⟩ := ok_is_between (P := P) (w := w) (base := base) T
  obtain ⟨⟨fd_len, F_len, b_len⟩, kp_len⟩ := ok_len (P := P) (w := w) (base := base) T
  obtain ⟨fd, F⟩ := T.d_is_look
  refine ⟨⟨fd, F.ok sc_is_look (fun vs H Q E h => ?_) (fun cdv A outer s H vs Q E hr h => ?_), F.bindsN fun _ _ _ _ _ _ us hl => match us, hl with | [_, _], _ => rfl⟩, F.kp⟩
  · obtain ⟨c, x, v, n, E, L, rfl, _⟩ := h
    rfl
  · obtain ⟨c, x, v, n, E, L, rfl, B, LA, LO, h⟩ := h
    have hr_is_lot : Room 3 _ := hr.mono (by decide)
    have hr_are_parts : Room 5 _ := hr.mono (by decide)
    have hr_is_between : Room 2 _ := hr.mono (by decide)
    have hr_len : Room 2 _ := hr.mono (by decide)
    refine ⟨_, PSs.nox (pss_cons (ps_if (PW.pt (pw_or (pt_not (pt_val (pe_callB (isiK (K := K)) (by rfl) T.free_isinstance (by decide +kernel) (pa_cons (pv 1) (pa_cons (pe_bltn (v := .ty "tuple") (u := .type "tuple") (by rfl) T.free_tuple (by decide +kernel) rfl) pa_nil))))) (pw_or1 (pt_cmpR op_eq (pe_callB (lenK (K := K)) (by rfl) T.free_len (by decide +kernel) (pa_cons (pv 1) pa_nil)) pe_int (nomark _))))) (pss_one (ps_ret pe_bl)) pss_nil)
      (pss_cons (ps_if (pt_cmpR op_eq (pe_ix (ixT (K := K)) (pv 1) pe_int (fun _ _ => rfl)) pe_str (nomark _)) (pss_one (ps_ret (pe_and (pe_cmpR op_eq (pe_callB (lenK (K := K)) (by rfl) T.free_len (by decide +kernel) (pa_cons (pv 1) pa_nil)) pe_int (nomark _)) (pe_one (pe_call F_is_lot hr_is_lot rfl T.glo_is_lot kp_is_lot b_is_lot .nil pass0 (pa_cons (pv 0) (pa_cons (pe_ix (ixT (K := K)) (pv 1) pe_int (fun _ _ => rfl)) pa_nil))))))) pss_nil)
      (pss_cons (ps_if (pt_cmpR op_eq (pe_ix (ixT (K := K)) (pv 1) pe_int (fun _ _ => rfl)) pe_str (nomark _)) (pss_one (ps_ret (pe_and (pe_cmpR op_eq (pe_callB (lenK (K := K)) (by rfl) T.free_len (by decide +kernel) (pa_cons (pv 1) pa_nil)) pe_int (nomark _)) (pe_one (pe_call F_are_parts hr_are_parts rfl T.glo_are_parts kp_are_parts b_are_parts .nil pass0 (pa_cons (pv 0) (pa_cons (pe_ix (ixT (K := K)) (pv 1) pe_int (fun _ _ => rfl)) pa_nil))))))) pss_nil)
      (pss_cons (ps_if (pt_cmpR op_eq (pe_ix (ixT (K := K)) (pv 1) pe_int (fun _ _ => rfl)) pe_str (nomark _)) (pss_one (ps_ret (pe_and (pe_cmpR op_eq (pe_callB (lenK (K := K)) (by rfl) T.free_len (by decide +kernel) (pa_cons (pv 1) pa_nil)) pe_int (nomark _)) (pe_and (pe_call F_is_between hr_is_between rfl T.glo_is_between kp_is_between b_is_between .nil pass0 (pa_cons (pe_ix (ixT (K := K)) (pv 1) pe_int (fun _ _ => rfl)) (pa_cons pe_int (pa_cons (pe_op op_sub (pe_callB (call_lenOwn T.m_len F_len b_len hr_len) (by rfl) T.free_len (by decide +kernel) (pa_cons (pv 0) pa_nil)) pe_int) pa_nil)))) (pe_one (pe_call F_is_between hr_is_between rfl T.glo_is_between kp_is_between b_is_between .nil pass0 (pa_cons (pe_ix (ixT (K := K)) (pv 1) pe_int (fun _ _ => rfl)) (pa_cons pe_int (pa_cons (pe_glob (v := .int 7) rfl T.glob_MOST_NEAR.choose_spec ⟨_, rfl⟩) pa_nil))))))))) pss_nil)
      (pss_one (ps_ret pe_bl)))))), ?_⟩
    have n8 := B.hi
    have n1 := B.lo
    cases L with
    | lot p =>
      obtain ⟨t, u, rfl, ht, hu⟩ := LA
      refine ⟨_, rfl, _, _, _, _, true, rfl, .ty _, .base (.tup ht), kit_ty (by decide +kernel), true, rfl, iteF ?_⟩
      refine ⟨_, rfl, t, _, rfl, .inr (SqT.of ht), rfl, _, rfl, iteF ?_⟩
      refine ⟨_, rfl, t, _, 0, _, rfl, rfl, SqT.of ht, rfl, rfl, _, rfl, iteT ?_⟩
      refine ⟨_, rfl, t, _, rfl, .inr (SqT.of ht), rfl, _, rfl, iteT ?_⟩
      exact ⟨_, rfl, _, rfl, t, _, 1, _, rfl, rfl, SqT.of ht, rfl, c, x, u, n, E, p, rfl, B, hu, h⟩
    | parts ps =>
      obtain ⟨t, u, us, rfl, ht, hu, lu, hus⟩ := LA
      refine ⟨_, rfl, _, _, _, _, true, rfl, .ty _, .base (.tup ht), kit_ty (by decide +kernel), true, rfl, iteF ?_⟩
      refine ⟨_, rfl, t, _, rfl, .inr (SqT.of ht), rfl, _, rfl, iteF ?_⟩
      refine ⟨_, rfl, t, _, 0, _, rfl, rfl, SqT.of ht, rfl, rfl, _, rfl, iteF ?_⟩
      refine ⟨_, rfl, t, _, 0, _, rfl, rfl, SqT.of ht, rfl, rfl, _, rfl, iteT ?_⟩
      refine ⟨_, rfl, t, _, rfl, .inr (SqT.of ht), rfl, _, rfl, iteT ?_⟩
      exact ⟨_, rfl, _, rfl, t, _, 1, _, rfl, rfl, SqT.of ht, rfl, c, x, u, n, E, us, ps, rfl, B, hu, lu, hus, LO, h⟩
    | near d k =>
      obtain ⟨t, rfl, ht⟩ := LA
      refine ⟨_, rfl, _, _, _, _, true, rfl, .ty _, .base (.tup ht), kit_ty (by decide +kernel), true, rfl, iteF ?_⟩
      refine ⟨_, rfl, t, _, rfl, .inr (SqT.of ht), rfl, _, rfl, iteF ?_⟩
      refine ⟨_, rfl, t, _, 0, _, rfl, rfl, SqT.of ht, rfl, rfl, _, rfl, iteF ?_⟩
      refine ⟨_, rfl, t, _, 0, _, rfl, rfl, SqT.of ht, rfl, rfl, _, rfl, iteF ?_⟩
      refine ⟨_, rfl, t, _, 0, _, rfl, rfl, SqT.of ht, rfl, rfl, _, rfl, iteT ?_⟩
      refine ⟨_, rfl, t, _, rfl, .inr (SqT.of ht), rfl, _, rfl, iteT ?_⟩
      obtain ⟨dx, q1, q2, q3, hx⟩ := B.obj
      have k1 := LO.1
      have k2 := LO.2
      refine ⟨_, rfl, t, _, 1, _, rfl, rfl, SqT.of ht, rfl, _, rfl, x, dx, _, rfl, hx, c, x, n, E, rfl, B, (n : Int), rfl, by omega, by omega, _, _, rfl, rfl, _, _, _, rfl, _, rfl, ?_⟩
      show if decide ((0 : Int) ≤ (d : Nat) ∧ ((d : Nat) : Int) ≤ (n : Int) - 1) = true then _ else _
      rw [decide_eq_true (show (0 : Int) ≤ (d : Nat) ∧ ((d : Nat) : Int) ≤ (n : Int) - 1 from ⟨by omega, by omega⟩)]
      refine iteT ?_
      refine ⟨_, rfl, t, _, 2, _, rfl, rfl, SqT.of ht, rfl, _, _, _, rfl, ?_⟩
      rw [decide_eq_true (show (0 : Int) ≤ (k : Nat) ∧ ((k : Nat) : Int) ≤ 7 from ⟨by omega, by omega⟩)]
      exact h H fun _ _ e => e
def spAnswers (K : PySem.W.Frag) : Sp := fun vs H Q _ => ∃ (c x : Addr) (v : V) (n : Nat) (E : List (Nat × Nat)) (M : Nat → Nat → Nat) (L : Look), vs = [.ref x, v] ∧ BoardAt K c H x n E ∧ Spans n E M ∧ LookAt n H v L ∧ LookOk n L ∧ ∀ H' t, H' t = some (.tup (((List.range n).map (ans M L)).map vI)) → Same H H' → Q (.ref t) H'
theorem sc_answers : FnScope ["board", "look", "places", "place", "number", "lot"] ["board", "look"] (defScope s_answers) := ⟨rfl, rfl, rfl, by decide +kernel, rfl, by decide +kernel, by decide +kernel⟩
theorem ok_answers (T : Tx K mg) : Has P w K mg base (He.ga K "answers") 7 ["board", "look"] (spAnswers K) := by
  obtain ⟨⟨fd_is_look, F_is_look, b_is_look⟩, kp_is_look⟩ := ok_is_look (P := P) (w := w) (base := base) T
  obtain ⟨⟨fd_near_answer, F_near_answer, b_near_answer⟩, kp_near_answer⟩ := ok_near (P := P) (w := w) (base := base) T
  obtain ⟨⟨fd_len, F_len, b_len⟩, kp_len⟩ := ok_len (P := P) (w := w) (base := base) T
  obtain ⟨fd, F⟩ := T.d_answers
  refine ⟨⟨fd, F.ok sc_answers (fun vs H Q E h => ?_) (fun cdv A outer s H vs Q E hr h => ?_), F.bindsN fun _ _ _ _ _ _ us hl => match us, hl with | [_, _], _ => rfl⟩, F.kp⟩
  · obtain ⟨c, x, v, n, E, M, L, rfl, _⟩ := h
    rfl
  · obtain ⟨c, x, v, n, E, M, L, rfl, B0, S, LA0, LO, h0⟩ := h
    have hr_is_look : Room 6 _ := hr.mono (by decide)
    have hr_near_answer : Room 5 _ := hr.mono (by decide)
    have hr_len : Room 2 _ := hr.mono (by decide)
    refine ⟨_, PSs.nox (pss_cons (ps_if (pt_not (pt_val (pe_call F_is_look hr_is_look rfl T.glo_is_look kp_is_look b_is_look .nil pass0 (pa_cons (pv 0) (pa_cons (pv 1) pa_nil))))) (pss_one ps_never) pss_nil)
      (pss_cons (ps_set (i := 2) sc_answers.nd rfl (Or.inl rfl) (pe_listRg rfl (by rfl) T.free_list (prg_1 (by rfl) T.free_range (pe_callB (call_lenOwn T.m_len F_len b_len hr_len) (by rfl) T.free_len (by decide +kernel) (pa_cons (pv 0) pa_nil)))))
      (pss_cons (ps_if (pt_cmpR op_eq (pe_ix (ixT (K := K)) (pv 1) pe_int (fun _ _ => rfl)) pe_str (nomark _)) (pss_one (ps_ret (pe_callTy (tupK (K := K)) (by rfl) T.free_tuple (by decide +kernel) (pa_cons (pe_lc (own := [("place", 3)]) (g := (gName 3)) (tt := tYes) rfl sc_answers.nd (piL (K := K) (pv 2)) (blkOk_by (by kernel_rfl)) (fun _ _ _ _ _ => (pg_name (i := 3) sc_answers.nd rfl (Or.inl rfl))) (fun _ _ _ _ _ => pts_nil) (fun _ _ _ _ _ => (pe_ifExp (pt_cmpR (inSq (K := K)) (pv 3) (pe_ix (ixT (K := K)) (pv 1) pe_int (fun _ _ => rfl)) (by rfl)) pe_int pe_int))) pa_nil)))) pss_nil)
      (pss_cons (ps_if (pt_cmpR op_eq (pe_ix (ixT (K := K)) (pv 1) pe_int (fun _ _ => rfl)) pe_str (nomark _)) (pss_one (ps_ret (pe_callTy (tupK (K := K)) (by rfl) T.free_tuple (by decide +kernel) (pa_cons (pe_lc2 (own := [("place", 3), ("number", 4), ("lot", 5)]) (vs1 := [4, 5]) (g := (gName 3)) (tt := tYes) rfl sc_answers.nd (piL (K := K) (pv 2)) (blkOk_by (by kernel_rfl)) (by decide) (fun _ _ _ _ _ => (pg_name (i := 3) sc_answers.nd rfl (Or.inl rfl))) (fun _ _ _ _ _ => pts_nil) (fun _ _ _ _ _ => (piEnumT (K := K) (by rfl) T.free_enumerate (pa_cons (pe_ix (ixT (K := K)) (pv 1) pe_int (fun _ _ => rfl)) pa_nil))) (fun _ _ _ _ _ => (pgT (K := K) (n := 2) rfl (pgs_cons (pg_name (i := 4) sc_answers.nd rfl (Or.inl rfl)) (pgs_cons (pg_name (i := 5) sc_answers.nd rfl (Or.inl rfl)) pgs_nil)))) (fun _ _ _ _ _ => (pts_one (pt_cmpR (inSq (K := K)) (pv 3) (pv 5) (by rfl)))) (fun _ _ _ _ _ => (pv 4))) pa_nil)))) pss_nil)
      (pss_one (ps_ret (pe_callTy (tupK (K := K)) (by rfl) T.free_tuple (by decide +kernel) (pa_cons (pe_lc (own := [("place", 3)]) (g := (gName 3)) (tt := tYes) rfl sc_answers.nd (piL (K := K) (pv 2)) (blkOk_by (by kernel_rfl)) (fun _ _ _ _ _ => (pg_name (i := 3) sc_answers.nd rfl (Or.inl rfl))) (fun _ _ _ _ _ => pts_nil) (fun _ _ _ _ _ => (pe_call F_near_answer hr_near_answer rfl T.glo_near_answer kp_near_answer b_near_answer .nil pass0 (pa_cons (pv 0) (pa_cons (pv 3) (pa_cons (pe_ix (ixT (K := K)) (pv 1) pe_int (fun _ _ => rfl)) (pa_cons (pe_ix (ixT (K := K)) (pv 1) pe_int (fun _ _ => rfl)) pa_nil))))))) pa_nil)))))))), ?_⟩
    refine ⟨_, rfl, _, rfl, c, x, v, n, E, L, rfl, B0, LA0, LO, fun H1 s1 => ⟨_, rfl, iteF ?_⟩⟩
    have n8 := B0.hi
    have n1 := B0.lo
    have B1 := B0.same s1
    obtain ⟨dx, q1, q2, q3, hx⟩ := B1.obj
    refine ⟨_, rfl, x, dx, _, rfl, hx, c, x, n, E, rfl, B1, (n : Int), rfl, by omega, by omega, (n : Int), rfl, RgOk.of_le (by decide) (by omega) (by decide) (by omega), fun r hr => ?_⟩
    have s2 := same_upd (o := HO.lst (rgV 0 (n : Int))) hr
    have hr2 : (upd H1 r (.lst (rgV 0 (n : Int)))) r = some (.lst ((List.range n).map vI)) := by rw [upd_same, rg_range]
    generalize upd H1 r (.lst (rgV 0 (n : Int))) = H2 at s2 hr2
    have s12 := s1.trans s2
    have B := B0.same s12
    have LA := LA0.same s12
    have h : ∀ H' t, H' t = some (.tup (((List.range n).map (ans M L)).map vI)) → Same H2 H' → Q (.ref t) H' := fun H' t e s => h0 H' t e (s12.trans s)
    clear hx B1 h0
    cases L with
    | lot p =>
      obtain ⟨t, u, rfl, ht, hu⟩ := LA
      refine ⟨_, rfl, t, _, 0, _, rfl, rfl, SqT.of ht, rfl, rfl, _, rfl, iteT ?_⟩
      refine ⟨_, rfl, r, rfl, ⟨_, SqL.of hr2⟩, fun D hD => ?_⟩
      refine lc_val (walk_list (K := K) (a := r) (xs := (List.range n).map vI)) (fun i => vI (ans M (.lot p) i)) (by simp; omega) hD (fun H3 s3 => SqL.of (s3 _ _ hr2)) ?_ ?_
      · rintro i y H3 H4 Nx hi s3 ⟨rfl, hy⟩ k
        obtain ⟨b, hb, rfl⟩ := get_vI hy
        obtain ⟨bn, rfl⟩ : i < n ∧ b = i := by
          have := List.getElem?_eq_some_iff.mp hb
          obtain ⟨z1, z2⟩ := this
          rw [List.getElem_range] at z2
          rw [List.length_range] at z1
          exact ⟨z1, z2.symm⟩
        refine ⟨rfl, _, rfl, _, rfl, t, _, 1, _, rfl, rfl, SqT.of (s3 _ _ ht), rfl, u, _, rfl, .inr (SqT.of (s3 _ _ hu)), rfl, flat_vI _, _, rfl, ?_⟩
        show if inV (vI b) ((lotP n p).map vI) = true then _ else _
        rw [in_lot]
        refine ite2 (fun z => ?_) (fun z => ?_)
        · have := k H4 fun _ _ e => e
          rw [ans_in (mem_lotP.mp (of_decide_eq_true z)).2] at this
          exact this
        · have := k H4 fun _ _ e => e
          rw [ans_out fun pb => z (decide_eq_true (mem_lotP.mpr ⟨bn, pb⟩))] at this
          exact this
      · intro H3 h3 s3
        rw [List.length_map, List.length_range] at h3
        refine ⟨D, _, rfl, .inl ⟨SqL.of h3, fun q hq => ?_⟩⟩
        exact h _ q (by rw [upd_same, range_vI]) (s3.trans (same_upd hq))
    | parts ps =>
      obtain ⟨t, u, us, rfl, ht, hu, lu, hus⟩ := LA
      refine ⟨_, rfl, t, _, 0, _, rfl, rfl, SqT.of ht, rfl, rfl, _, rfl, iteF ?_⟩
      refine ⟨_, rfl, t, _, 0, _, rfl, rfl, SqT.of ht, rfl, rfl, _, rfl, iteT ?_⟩
      refine ⟨_, rfl, r, rfl, ⟨_, SqL.of hr2⟩, fun D hD => ?_⟩
      obtain ⟨lps, cov, dis, non⟩ := id LO
      refine it_any (walk_list (K := K) (a := r) (xs := (List.range n).map vI)) (fun i H3 => H3 D = some (.lst (((List.range i).map (ans M (.parts ps))).map vI)) ∧ Same H2 H3) ⟨upd_same, same_upd hD⟩ (fun i H3 _ ⟨_, s3⟩ => SqL.of (s3 _ _ hr2)) ?_ ?_
      · rintro i y H3 _ hi ⟨h3, s3⟩ ⟨rfl, hy⟩
        obtain ⟨b, hb, rfl⟩ := get_vI hy
        obtain ⟨bn, rfl⟩ : i < n ∧ b = i := by
          have := List.getElem?_eq_some_iff.mp hb
          obtain ⟨z1, z2⟩ := this
          rw [List.getElem_range] at z2
          rw [List.length_range] at z1
          exact ⟨z1, z2.symm⟩
        obtain ⟨k0, p0, e0, pb0⟩ := cov b bn
        have fe : ps.findIdx (fun p => decB (p b)) = k0 := by
          have k0l : k0 < ps.length := (List.getElem?_eq_some_iff.mp e0).1
          have fl : ps.findIdx (fun p => decB (p b)) < ps.length := List.findIdx_lt_length_of_exists ⟨p0, List.mem_of_getElem? e0, decB_true.mpr pb0⟩
          have ft := List.findIdx_getElem (p := fun p : Nat → Prop => decB (p b)) (w := fl)
          exact dis _ _ _ _ b (List.getElem?_eq_getElem fl) e0 bn (decB_true.mp ft) pb0
        refine ⟨rfl, yesT ?_⟩
        refine ⟨_, rfl, t, _, 1, _, rfl, rfl, SqT.of (s3 _ _ ht), rfl, u, _, rfl, SqT.of (s3 _ _ hu), ?_⟩
        refine it_any (walk_enumT (K := K) (a := u) (xs := us.map V.ref)) (fun j H4 => H4 D = some (.lst (((List.range b).map (ans M (.parts ps)) ++ (if k0 < j then [k0] else [])).map vI)) ∧ Same H2 H4) ⟨by rw [if_neg (Nat.not_lt_zero _), List.append_nil]; exact h3, s3⟩ (fun j H4 _ z => SqT.of (z.2 _ _ hu)) ?_ ?_
        · rintro j z H4 H5 hj ⟨h4, s4⟩ ⟨T1, y1, y2, rfl, hT, rfl, e1, e2⟩
          cases (Option.some.inj e1)
          obtain ⟨a, ha, rfl⟩ := get_mapV (show (us.map V.ref)[j]? = some y2 from e2)
          have jl : j < ps.length := by
            have := (List.getElem?_eq_some_iff.mp ha).1
            omega
          have hp : ps[j]? = some ps[j] := List.getElem?_eq_getElem jl
          have s5 : Same H4 (upd H4 T1 (.tup [.int (j : Nat), .ref a])) := same_upd hT
          have h5 := s5 _ _ h4
          have s25 := s4.trans s5
          have hT5 : (upd H4 T1 (.tup [.int (j : Nat), .ref a])) T1 = some (.tup [.int (j : Nat), .ref a]) := upd_same
          generalize upd H4 T1 (.tup [.int (j : Nat), .ref a]) = H5 at h5 s25 hT5
          refine ⟨T1, _, rfl, SqT.of hT5, rfl, _, _, rfl, _, _, rfl, rfl, rfl, ?_⟩
          refine ⟨_, rfl, _, rfl, a, _, rfl, .inr (SqT.of (s25 _ _ (hus j a _ ha hp))), rfl, flat_vI _, _, rfl, ?_⟩
          show if inV (vI b) ((lotP n ps[j]).map vI) = true then _ else _
          rw [in_lot]
          refine ite2 (fun z => ?_) (fun z => ?_)
          · have ej : j = k0 := dis _ _ _ _ b hp e0 bn (mem_lotP.mp (of_decide_eq_true z)).2 pb0
            subst ej
            rw [if_neg (Nat.lt_irrefl _), List.append_nil] at h5
            refine ⟨_, rfl, _, h5, ?_, ?_, same_mut s25 hD⟩
            · rw [List.length_map, List.length_map, List.length_range]
              exact Nat.lt_of_le_of_lt (show b ≤ 8 by omega) (by decide)
            · rw [upd_same, if_pos (Nat.lt_succ_self _), List.map_append]
              rfl
          · have nj : j ≠ k0 := fun e => z (decide_eq_true (mem_lotP.mpr ⟨bn, by
              subst e
              rw [hp] at e0
              cases e0
              exact pb0⟩))
            refine ⟨?_, s25⟩
            rw [h5]
            by_cases lt : k0 < j
            · rw [if_pos lt, if_pos (by omega)]
            · rw [if_neg lt, if_neg (by omega)]
        · rintro H4 ⟨h4, s4⟩
          have k0l : k0 < ps.length := (List.getElem?_eq_some_iff.mp e0).1
          rw [List.length_map, if_pos (by omega)] at h4
          refine ⟨?_, s4⟩
          rw [h4, List.range_succ, List.map_append (f := ans M (.parts ps)), ← fe]
          rfl
      · rintro H3 ⟨h3, s3⟩
        rw [List.length_map, List.length_range] at h3
        refine ⟨D, _, rfl, .inl ⟨SqL.of h3, fun q hq => ?_⟩⟩
        exact h _ q upd_same (s3.trans (same_upd hq))
    | near d k =>
      obtain ⟨t, rfl, ht⟩ := LA
      refine ⟨_, rfl, t, _, 0, _, rfl, rfl, SqT.of ht, rfl, rfl, _, rfl, iteF ?_⟩
      refine ⟨_, rfl, t, _, 0, _, rfl, rfl, SqT.of ht, rfl, rfl, _, rfl, iteF ?_⟩
      refine ⟨_, rfl, r, rfl, ⟨_, SqL.of hr2⟩, fun D hD => ?_⟩
      refine lc_val (walk_list (K := K) (a := r) (xs := (List.range n).map vI)) (fun i => vI (ans M (.near d k) i)) (by simp; omega) hD (fun H3 s3 => SqL.of (s3 _ _ hr2)) ?_ ?_
      · rintro i y H3 H4 Nx hi s3 ⟨rfl, hy⟩ kk
        obtain ⟨b, hb, rfl⟩ := get_vI hy
        obtain ⟨bn, rfl⟩ : i < n ∧ b = i := by
          have := List.getElem?_eq_some_iff.mp hb
          obtain ⟨z1, z2⟩ := this
          rw [List.getElem_range] at z2
          rw [List.length_range] at z1
          exact ⟨z1, z2.symm⟩
        refine ⟨rfl, _, rfl, _, rfl, _, rfl, t, _, 1, _, rfl, rfl, SqT.of (s3 _ _ ht), rfl, _, rfl, t, _, 2, _, rfl, rfl, SqT.of (s3 _ _ ht), rfl, ?_⟩
        exact ⟨c, x, n, b, d, k, E, M, rfl, B.same s3, S, bn, LO.1, LO.2, kk _ fun _ _ e => e⟩
      · intro H3 h3 s3
        rw [List.length_map, List.length_range] at h3
        refine ⟨D, _, rfl, .inl ⟨SqL.of h3, fun q hq => ?_⟩⟩
        exact h _ q (by rw [upd_same, range_vI]) (s3.trans (same_upd hq))
def spLotOf (K : PySem.W.Frag) : Sp := fun vs H Q _ => ∃ (c x : Addr) (v : V) (n a : Nat) (E : List (Nat × Nat)) (M : Nat → Nat → Nat) (L : Look), vs = [.ref x, v, vI a] ∧ BoardAt K c H x n E ∧ Spans n E M ∧ LookAt n H v L ∧ LookOk n L ∧ ∀ H' t, H' t = some (.tup ((lotP n fun b => ans M L b = a).map vI)) → Same H H' → Q (.ref t) H'
theorem sc_lot_of : FnScope ["board", "look", "answer", "place", "given"] ["board", "look", "answer"] (defScope s_lot_of) := ⟨rfl, rfl, rfl, by decide +kernel, rfl, by decide +kernel, by decide +kernel⟩
theorem ok_lot_of (T : Tx K mg) : Has P w K mg base (He.ga K "lot_of") 8 ["board", "look", "answer"] (spLotOf K) := by
  obtain ⟨⟨fd_answers, F_answers, b_answers⟩, kp_answers⟩ := ok_answers (P := P) (w := w) (base := base) T
  obtain ⟨fd, F⟩ := T.d_lot_of
  refine ⟨⟨fd, F.ok sc_lot_of (fun vs H Q E h => ?_) (fun cdv A outer s H vs Q E hr h => ?_), F.bindsN fun _ _ _ _ _ _ us hl => match us, hl with | [_, _, _], _ => rfl⟩, F.kp⟩
  · obtain ⟨c, x, v, n, a, E, M, L, rfl, _⟩ := h
    rfl
  · obtain ⟨c, x, v, n, a, E, M, L, rfl, B, S, LA, LO, h⟩ := h
    have hr_answers : Room 7 _ := hr.mono (by decide)
    refine ⟨_, PSs.nox (pss_one (ps_ret (pe_callTy (tupK (K := K)) (by rfl) T.free_tuple (by decide +kernel) (pa_cons (pe_lc (own := [("place", 3), ("given", 4)]) rfl sc_lot_of.nd (piEnumT (K := K) (by rfl) T.free_enumerate (pa_cons (pe_call F_answers hr_answers rfl T.glo_answers kp_answers b_answers .nil pass0 (pa_cons (pv 0) (pa_cons (pv 1) pa_nil))) pa_nil)) (blkOk_by (by kernel_rfl)) (fun _ _ _ _ _ => (pgT (K := K) (n := 2) rfl (pgs_cons (pg_name (i := 3) sc_lot_of.nd rfl (Or.inl rfl)) (pgs_cons (pg_name (i := 4) sc_lot_of.nd rfl (Or.inl rfl)) pgs_nil)))) (fun _ _ _ _ _ => (pts_one (pt_cmpR op_eq (pv 4) (pv 2) (nomark _)))) (fun _ _ _ _ _ => (pv 3))) pa_nil)))), ?_⟩
    have n8 := B.hi
    refine ⟨_, rfl, _, rfl, c, x, v, n, E, M, L, rfl, B, S, LA, LO, fun H1 t ht s1 => ?_⟩
    refine ⟨t, _, rfl, SqT.of ht, fun D hD => ?_⟩
    refine lc_filt (walk_enumT (K := K) (a := t) (xs := ((List.range n).map (ans M L)).map vI)) (List.range n) (fun b => decide (ans M L b = a)) (by simp) (by simp; omega) hD (fun H2 s2 => SqT.of (s2 _ _ ht)) ?_ ?_
    · rintro i b y H2 H3 N1 N0 hb s2 ⟨T1, y1, y2, rfl, hT, rfl, e1, e2⟩ k1 k0
      cases (Option.some.inj e1)
      obtain ⟨bn, rfl⟩ : i < n ∧ b = i := by
        have := List.getElem?_eq_some_iff.mp hb
        obtain ⟨z1, z2⟩ := this
        rw [List.getElem_range] at z2
        rw [List.length_range] at z1
        exact ⟨z1, z2.symm⟩
      have ey : y2 = vI (ans M L b) := by
        have e3 : (((List.range n).map (ans M L)).map vI)[b]? = some y2 := e2
        rw [List.getElem?_map, List.getElem?_map, List.getElem?_range bn] at e3
        exact (Option.some.inj e3).symm
      subst ey
      have s3 : Same H2 (upd H2 T1 (.tup [.int (b : Nat), vI (ans M L b)])) := same_upd hT
      refine ⟨T1, _, rfl, SqT.of upd_same, rfl, _, _, rfl, _, _, rfl, rfl, rfl, ?_⟩
      refine ⟨_, rfl, _, rfl, rfl, _, rfl, ?_⟩
      have eb : decide (vI (ans M L b) = vI a) = decide (ans M L b = a) := by
        rw [decide_eq_decide]
        unfold vI
        exact ⟨fun z => by have := V.int.inj z; omega, fun z => by rw [z]⟩
      show if decide (vI (ans M L b) = vI a) = true then _ else _
      rw [eb]
      refine ite2 (fun z => ⟨_, rfl, k1 _ z s3⟩) (fun z => k0 _ (by simpa using z) s3)
    · intro H2 h2 s2
      refine ⟨D, _, rfl, .inl ⟨SqL.of h2, fun q hq => ?_⟩⟩
      refine h _ q ?_ ((s1.trans s2).trans (same_upd hq))
      rw [upd_same, filter_lot (p := fun b => ans M L b = a) (range_sorted n) fun b => by rw [List.mem_range, decide_eq_true_iff]]
end
end RL
namespace RL
open PySem PySem.Spec PyProof.Rows L2 RLM
section
variable {P : Program} {w : World} {K : PySem.W.Frag} {mg : Str → Option Value} {base : Heap}
def spPaces (K : PySem.W.Frag) : Sp := fun vs H Q _ => ∃ (c x t : Addr) (n : Nat) (E : List (Nat × Nat)) (PS : List (Addr × List Nat)), vs = [.ref x, .ref t] ∧ BoardAt K c H x n E ∧ H t = some (.tup (PS.map fun q => V.ref q.1)) ∧ (∀ q ∈ PS, H q.1 = some (.tup (q.2.map vI)) ∧ PaceOk n q.2) ∧ PS.length ≤ 12 ∧ ∀ H', Same H H' → Q (.bl true) H'
theorem sc_are_paces : FnScope ["board", "paces", "pace"] ["board", "paces"] (defScope s_are_paces) := ⟨rfl, rfl, rfl, by decide +kernel, rfl, by decide +kernel, by decide +kernel⟩
theorem ok_paces (T : Tx K mg) : Has P w K mg base (He.ga K "are_paces") 4 ["board", "paces"] (spPaces K) := by
  obtain ⟨⟨fd_is_pace, F_is_pace, b_is_pace⟩, kp_is_pace⟩ := ok_is_pace (P := P) (w := w) (base := base) T
  obtain ⟨fd, F⟩ := T.d_are_paces
  refine ⟨⟨fd, F.ok sc_are_paces (fun vs H Q E h => ?_) (fun cdv A outer s H vs Q E hr h => ?_), F.bindsN fun _ _ _ _ _ _ us hl => match us, hl with | [_, _], _ => rfl⟩, F.kp⟩
  · obtain ⟨c, x, t, n, E, PS, rfl, _⟩ := h
    rfl
  · obtain ⟨c, x, t, n, E, PS, rfl, B, ht, hp, lp, h⟩ := h
    have hr_is_pace : Room 3 _ := hr.mono (by decide)
    refine ⟨_, PSs.nox (pss_cons (ps_if (PW.pt (pw_or (pt_not (pt_val (pe_callB (isiK (K := K)) (by rfl) T.free_isinstance (by decide +kernel) (pa_cons (pv 1) (pa_cons (pe_bltn (v := .ty "tuple") (u := .type "tuple") (by rfl) T.free_tuple (by decide +kernel) rfl) pa_nil))))) (pw_or1 (pt_cmpR op_gt (pe_callB (lenK (K := K)) (by rfl) T.free_len (by decide +kernel) (pa_cons (pv 1) pa_nil)) (pe_glob (v := .int 12) rfl T.glob_MOST_BEATS.choose_spec ⟨_, rfl⟩) (nomark _))))) (pss_one (ps_ret pe_bl)) pss_nil)
      (pss_one (ps_ret (pe_callB (allK (K := K)) (by rfl) T.free_all (by decide +kernel) (pa_cons (pe_lc (own := [("pace", 2)]) (g := (gName 2)) (tt := tYes) rfl sc_are_paces.nd (piT (K := K) (pv 1)) (blkOk_by (by kernel_rfl)) (fun _ _ _ _ _ => (pg_name (i := 2) sc_are_paces.nd rfl (Or.inl rfl))) (fun _ _ _ _ _ => pts_nil) (fun _ _ _ _ _ => (pe_call F_is_pace hr_is_pace rfl T.glo_is_pace kp_is_pace b_is_pace .nil pass0 (pa_cons (pv 0) (pa_cons (pv 2) pa_nil))))) pa_nil))))), ?_⟩
    refine ⟨_, rfl, _, _, _, _, true, rfl, .ty _, .base (.tup ht), kit_ty (by decide +kernel), true, rfl, iteF ?_⟩
    refine ⟨_, rfl, t, _, rfl, .inr (SqT.of ht), _, _, rfl, rfl, _, rfl, ?_⟩
    show if decide ((12 : Int) < (((PS.map fun q => V.ref q.1).length : Nat) : Int)) = true then _ else _
    rw [decide_eq_false (by rw [List.length_map]; omega)]
    refine iteF ?_
    refine ⟨_, rfl, t, rfl, ⟨_, SqT.of ht⟩, fun D hD => ?_⟩
    refine lc_val (walk_tup (K := K) (a := t) (xs := PS.map fun q => V.ref q.1)) (fun _ => .bl true) (by rw [List.length_map]; omega) hD (fun H1 s1 => SqT.of (s1 _ _ ht)) ?_ ?_
    · rintro i y H1 H2 Nx hi s1 ⟨rfl, hy⟩ k
      obtain ⟨q, hq, rfl⟩ := get_mapV hy
      have hm := hp q (List.mem_of_getElem? hq)
      exact ⟨rfl, _, rfl, _, rfl, c, x, q.1, n, E, q.2, rfl, B.same s1, s1 _ _ hm.1, hm.2, k⟩
    · intro H1 h1 s1
      refine ⟨D, (List.range (PS.map fun q => V.ref q.1).length).map fun _ => true, rfl, SqL.of (by rw [h1, List.map_map]; rfl), ?_⟩
      rw [all_true (by simp)]
      exact h H1 s1
def spTriple (K : PySem.W.Frag) : Sp := fun vs H Q _ => ∃ (c x : Addr) (n m : Nat) (E : List (Nat × Nat)) (q : Addr × V × Triple), vs = [.ref x, vI m, .ref q.1] ∧ BoardAt K c H x n E ∧ TripAt n H q ∧ q.2.2.beat ≤ m ∧ ∀ H', Same H H' → Q (.bl true) H'
theorem sc_is_triple : FnScope ["board", "last", "triple", "beat", "look", "answer"] ["board", "last", "triple"] (defScope s_is_triple) := ⟨rfl, rfl, rfl, by decide +kernel, rfl, by decide +kernel, by decide +kernel⟩
theorem ok_triple (T : Tx K mg) : Has P w K mg base (He.ga K "is_triple") 7 ["board", "last", "triple"] (spTriple K) := by
  obtain ⟨⟨fd_is_between, F_is_between, b_is_between⟩, kp_is_between⟩ := ok_is_between (P := P) (w := w) (base := base) T
  obtain ⟨⟨fd_is_look, F_is_look, b_is_look⟩, kp_is_look⟩ := ok_is_look (P := P) (w := w) (base := base) T
  obtain ⟨⟨fd_is_number, F_is_number, b_is_number⟩, kp_is_number⟩ := ok_is_number (P := P) (w := w) (base := base) T
  obtain ⟨fd, F⟩ := T.d_is_triple
  refine ⟨⟨fd, F.ok sc_is_triple (fun vs H Q E h => ?_) (fun cdv A outer s H vs Q E hr h => ?_), F.bindsN fun _ _ _ _ _ _ us hl => match us, hl with | [_, _, _], _ => rfl⟩, F.kp⟩
  · obtain ⟨c, x, n, m, E, q, rfl, _⟩ := h
    rfl
  · obtain ⟨c, x, n, m, E, q, rfl, B, TR, le, h⟩ := h
    have hr_is_between : Room 2 _ := hr.mono (by decide)
    have hr_is_look : Room 6 _ := hr.mono (by decide)
    have hr_is_number : Room 1 _ := hr.mono (by decide)
    refine ⟨_, PSs.nox (pss_cons (ps_if (PW.pt (pw_or (pt_not (pt_val (pe_callB (isiK (K := K)) (by rfl) T.free_isinstance (by decide +kernel) (pa_cons (pv 2) (pa_cons (pe_bltn (v := .ty "tuple") (u := .type "tuple") (by rfl) T.free_tuple (by decide +kernel) rfl) pa_nil))))) (pw_or1 (pt_cmpR op_ne (pe_callB (lenK (K := K)) (by rfl) T.free_len (by decide +kernel) (pa_cons (pv 2) pa_nil)) pe_int (nomark _))))) (pss_one (ps_ret pe_bl)) pss_nil)
      (pss_cons (ps_asg (pv 2) (pgT (K := K) (n := 3) rfl (pgs_cons (pg_name (i := 3) sc_is_triple.nd rfl (Or.inl rfl)) (pgs_cons (pg_name (i := 4) sc_is_triple.nd rfl (Or.inl rfl)) (pgs_cons (pg_name (i := 5) sc_is_triple.nd rfl (Or.inl rfl)) pgs_nil)))))
      (pss_one (ps_ret (pe_and (pe_call F_is_between hr_is_between rfl T.glo_is_between kp_is_between b_is_between .nil pass0 (pa_cons (pv 3) (pa_cons pe_int (pa_cons (pv 1) pa_nil)))) (pe_and (pe_call F_is_look hr_is_look rfl T.glo_is_look kp_is_look b_is_look .nil pass0 (pa_cons (pv 0) (pa_cons (pv 4) pa_nil))) (pe_one (pe_call F_is_number hr_is_number rfl T.glo_is_number kp_is_number b_is_number .nil pass0 (pa_cons (pv 5) pa_nil))))))))), ?_⟩
    refine ⟨_, rfl, _, _, _, _, true, rfl, .ty _, .base (.tup TR.1), kit_ty (by decide +kernel), true, rfl, iteF ?_⟩
    refine ⟨_, rfl, q.1, _, rfl, .inr (SqT.of TR.1), rfl, _, rfl, iteF ?_⟩
    refine ⟨_, rfl, q.1, _, rfl, SqT.of TR.1, rfl, _, _, rfl, _, _, rfl, _, _, rfl, rfl, ?_⟩
    refine ⟨_, rfl, _, rfl, _, _, _, rfl, _, rfl, ?_⟩
    show if decide ((0 : Int) ≤ (q.2.2.beat : Nat) ∧ ((q.2.2.beat : Nat) : Int) ≤ (m : Int)) = true then _ else _
    rw [decide_eq_true (show (0 : Int) ≤ (q.2.2.beat : Nat) ∧ ((q.2.2.beat : Nat) : Int) ≤ (m : Int) from ⟨by omega, by omega⟩)]
    refine iteT ?_
    refine ⟨_, rfl, _, rfl, c, x, q.2.1, n, E, _, rfl, B, TR.2.1, TR.2.2, fun H1 s1 => ⟨true, rfl, iteT ?_⟩⟩
    exact ⟨_, rfl, _, rfl, h H1 s1⟩
def spTriples (K : PySem.W.Frag) : Sp := fun vs H Q _ => ∃ (c x t : Addr) (n m : Nat) (E : List (Nat × Nat)) (SN : List (Addr × V × Triple)), vs = [.ref x, vI m, .ref t] ∧ BoardAt K c H x n E ∧ H t = some (.tup (SN.map fun q => V.ref q.1)) ∧ (∀ q ∈ SN, TripAt n H q ∧ q.2.2.beat ≤ m) ∧ SN.length ≤ 24 ∧ ∀ H', Same H H' → Q (.bl true) H'
theorem sc_are_triples : FnScope ["board", "last", "seen", "triple"] ["board", "last", "seen"] (defScope s_are_triples) := ⟨rfl, rfl, rfl, by decide +kernel, rfl, by decide +kernel, by decide +kernel⟩
theorem ok_triples (T : Tx K mg) : Has P w K mg base (He.ga K "are_triples") 8 ["board", "last", "seen"] (spTriples K) := by
  obtain ⟨⟨fd_is_triple, F_is_triple, b_is_triple⟩, kp_is_triple⟩ := ok_triple (P := P) (w := w) (base := base) T
  obtain ⟨fd, F⟩ := T.d_are_triples
  refine ⟨⟨fd, F.ok sc_are_triples (fun vs H Q E h => ?_) (fun cdv A outer s H vs Q E hr h => ?_), F.bindsN fun _ _ _ _ _ _ us hl => match us, hl with | [_, _, _], _ => rfl⟩, F.kp⟩
  · obtain ⟨c, x, t, n, m, E, SN, rfl, _⟩ := h
    rfl
  · obtain ⟨c, x, t, n, m, E, SN, rfl, B, ht, hp, lp, h⟩ := h
    have hr_is_triple : Room 7 _ := hr.mono (by decide)
    refine ⟨_, PSs.nox (pss_cons (ps_if (PW.pt (pw_or (pt_not (pt_val (pe_callB (isiK (K := K)) (by rfl) T.free_isinstance (by decide +kernel) (pa_cons (pv 2) (pa_cons (pe_bltn (v := .ty "tuple") (u := .type "tuple") (by rfl) T.free_tuple (by decide +kernel) rfl) pa_nil))))) (pw_or1 (pt_cmpR op_gt (pe_callB (lenK (K := K)) (by rfl) T.free_len (by decide +kernel) (pa_cons (pv 2) pa_nil)) (pe_glob (v := .int 24) rfl T.glob_MOST_TRIPLES.choose_spec ⟨_, rfl⟩) (nomark _))))) (pss_one (ps_ret pe_bl)) pss_nil)
      (pss_one (ps_ret (pe_callB (allK (K := K)) (by rfl) T.free_all (by decide +kernel) (pa_cons (pe_lc (own := [("triple", 3)]) (g := (gName 3)) (tt := tYes) rfl sc_are_triples.nd (piT (K := K) (pv 2)) (blkOk_by (by kernel_rfl)) (fun _ _ _ _ _ => (pg_name (i := 3) sc_are_triples.nd rfl (Or.inl rfl))) (fun _ _ _ _ _ => pts_nil) (fun _ _ _ _ _ => (pe_call F_is_triple hr_is_triple rfl T.glo_is_triple kp_is_triple b_is_triple .nil pass0 (pa_cons (pv 0) (pa_cons (pv 1) (pa_cons (pv 3) pa_nil)))))) pa_nil))))), ?_⟩
    refine ⟨_, rfl, _, _, _, _, true, rfl, .ty _, .base (.tup ht), kit_ty (by decide +kernel), true, rfl, iteF ?_⟩
    refine ⟨_, rfl, t, _, rfl, .inr (SqT.of ht), _, _, rfl, rfl, _, rfl, ?_⟩
    show if decide ((24 : Int) < (((SN.map fun q => V.ref q.1).length : Nat) : Int)) = true then _ else _
    rw [decide_eq_false (by rw [List.length_map]; omega)]
    refine iteF ?_
    refine ⟨_, rfl, t, rfl, ⟨_, SqT.of ht⟩, fun D hD => ?_⟩
    refine lc_val (walk_tup (K := K) (a := t) (xs := SN.map fun q => V.ref q.1)) (fun _ => .bl true) (by rw [List.length_map]; omega) hD (fun H1 s1 => SqT.of (s1 _ _ ht)) ?_ ?_
    · rintro i y H1 H2 Nx hi s1 ⟨rfl, hy⟩ k
      obtain ⟨q, hq, rfl⟩ := get_mapV hy
      have hm := hp q (List.mem_of_getElem? hq)
      exact ⟨rfl, _, rfl, _, rfl, _, rfl, c, x, n, m, E, q, rfl, B.same s1, hm.1.same s1, hm.2, k⟩
    · intro H1 h1 s1
      refine ⟨D, (List.range (SN.map fun q => V.ref q.1).length).map fun _ => true, rfl, SqL.of (by rw [h1, List.map_map]; rfl), ?_⟩
      rw [all_true (by simp)]
      exact h H1 s1
def spLookStory (K : PySem.W.Frag) : Sp := fun vs H Q _ => ∃ (c x s : Addr) (n : Nat) (E : List (Nat × Nat)) (p : Nat → Prop) (PS : List (Addr × List Nat)) (SN : List (Addr × V × Triple)), vs = [.ref x, .ref s] ∧ BoardAt K c H x n E ∧ StoryAt n H s p PS SN ∧ (∃ a, a < n ∧ p a) ∧ ∀ H', Same H H' → Q .non H'
theorem sc_look_story : FnScope ["board", "story", "lot", "paces", "seen"] ["board", "story"] (defScope s_look_story) := ⟨rfl, rfl, rfl, by decide +kernel, rfl, by decide +kernel, by decide +kernel⟩
theorem ok_look_story (T : Tx K mg) : Has P w K mg base (He.ga K "look_story") 9 ["board", "story"] (spLookStory K) := by
  obtain ⟨⟨fd_is_filled_lot, F_is_filled_lot, b_is_filled_lot⟩, kp_is_filled_lot⟩ := ok_filled (P := P) (w := w) (base := base) T
  obtain ⟨⟨fd_are_paces, F_are_paces, b_are_paces⟩, kp_are_paces⟩ := ok_paces (P := P) (w := w) (base := base) T
  obtain ⟨⟨fd_are_triples, F_are_triples, b_are_triples⟩, kp_are_triples⟩ := ok_triples (P := P) (w := w) (base := base) T
  obtain ⟨fd, F⟩ := T.d_look_story
  refine ⟨⟨fd, F.ok sc_look_story (fun vs H Q E h => ?_) (fun cdv A outer s H vs Q E hr h => ?_), F.bindsN fun _ _ _ _ _ _ us hl => match us, hl with | [_, _], _ => rfl⟩, F.kp⟩
  · obtain ⟨c, x, s, n, E, p, PS, SN, rfl, _⟩ := h
    rfl
  · obtain ⟨c, x, sa, n, E, p, PS, SN, rfl, B, SA, ⟨a0, an, pa⟩, h⟩ := h
    have hr_is_filled_lot : Room 4 _ := hr.mono (by decide)
    have hr_are_paces : Room 4 _ := hr.mono (by decide)
    have hr_are_triples : Room 8 _ := hr.mono (by decide)
    refine ⟨_, PSs.nox (pss_cons (ps_asg (pv 1) (pgT (K := K) (n := 3) rfl (pgs_cons (pg_name (i := 2) sc_look_story.nd rfl (Or.inl rfl)) (pgs_cons (pg_name (i := 3) sc_look_story.nd rfl (Or.inl rfl)) (pgs_cons (pg_name (i := 4) sc_look_story.nd rfl (Or.inl rfl)) pgs_nil)))))
      (pss_cons (ps_if (pt_not (pt_val (pe_call F_is_filled_lot hr_is_filled_lot rfl T.glo_is_filled_lot kp_is_filled_lot b_is_filled_lot .nil pass0 (pa_cons (pv 0) (pa_cons (pv 2) pa_nil))))) (pss_one ps_never) pss_nil)
      (pss_cons (ps_if (pt_not (pt_val (pe_call F_are_paces hr_are_paces rfl T.glo_are_paces kp_are_paces b_are_paces .nil pass0 (pa_cons (pv 0) (pa_cons (pv 3) pa_nil))))) (pss_one ps_never) pss_nil)
      (pss_one (ps_if (pt_not (pt_val (pe_call F_are_triples hr_are_triples rfl T.glo_are_triples kp_are_triples b_are_triples .nil pass0 (pa_cons (pv 0) (pa_cons (pe_callB (lenK (K := K)) (by rfl) T.free_len (by decide +kernel) (pa_cons (pv 3) pa_nil)) (pa_cons (pv 4) pa_nil)))))) (pss_one ps_never) pss_nil))))), ?_⟩
    obtain ⟨tl, tp, ts, hs, htl, htp, hts⟩ := SA.ex
    refine ⟨_, rfl, sa, _, rfl, SqT.of hs, rfl, _, _, rfl, _, _, rfl, _, _, rfl, rfl, ?_⟩
    refine ⟨_, rfl, _, rfl, c, x, tl, n, E, p, rfl, B, htl, ⟨a0, an, pa⟩, fun H1 s1 => ⟨_, rfl, iteF ?_⟩⟩
    refine ⟨_, rfl, _, rfl, c, x, tp, n, E, PS, rfl, B.same s1, s1 _ _ htp, fun q hq => ⟨s1 _ _ (SA.pc q hq).1, (SA.pc q hq).2⟩, SA.lp, fun H2 s2 => ⟨_, rfl, iteF ?_⟩⟩
    have s12 := s1.trans s2
    refine ⟨_, rfl, _, rfl, tp, _, rfl, .inr (SqT.of (s12 _ _ htp)), _, rfl, ?_⟩
    rw [List.length_map]
    exact ⟨c, x, ts, n, PS.length, E, SN, rfl, B.same s12, s12 _ _ hts, fun q hq => ⟨(SA.sn q hq).1.same s12, (SA.sn q hq).2⟩, SA.ls, fun H3 s3 => ⟨_, rfl, iteF (h H3 (s12.trans s3))⟩⟩
def spLast : Sp := fun vs H Q _ => ∃ (s : Addr) (n : Nat) (p : Nat → Prop) (PS : List (Addr × List Nat)) (SN : List (Addr × V × Triple)), vs = [.ref s] ∧ StoryAt n H s p PS SN ∧ Q (vI PS.length) H
theorem sc_last_beat : FnScope ["story"] ["story"] (defScope s_last_beat) := ⟨rfl, rfl, rfl, by decide +kernel, rfl, by decide +kernel, by decide +kernel⟩
theorem ok_last (T : Tx K mg) : Has P w K mg base (He.ga K "last_beat") 1 ["story"] spLast := by
  obtain ⟨fd, F⟩ := T.d_last_beat
  refine ⟨⟨fd, F.ok sc_last_beat (fun vs H Q E h => ?_) (fun cdv A outer s H vs Q E hr h => ?_), F.bindsN fun _ _ _ _ _ _ us hl => match us, hl with | [_], _ => rfl⟩, F.kp⟩
  · obtain ⟨s, n, p, PS, SN, rfl, _⟩ := h
    rfl
  · obtain ⟨sa, n, p, PS, SN, rfl, SA, h⟩ := h
    refine ⟨_, PSs.nox (pss_one (ps_ret (pe_callB (lenK (K := K)) (by rfl) T.free_len (by decide +kernel) (pa_cons (pe_ix (ixT (K := K)) (pv 0) pe_int (fun _ _ => rfl)) pa_nil)))), ?_⟩
    obtain ⟨tl, tp, ts, hs, htl, htp, hts⟩ := SA.ex
    refine ⟨_, rfl, sa, _, 1, _, rfl, rfl, SqT.of hs, rfl, tp, _, rfl, .inr (SqT.of htp), ?_⟩
    rw [List.length_map]
    exact h
theorem sc_meet : FnScope ["one", "other", "place"] ["one", "other"] (defScope s_meet) := ⟨rfl, rfl, rfl, by decide +kernel, rfl, by decide +kernel, by decide +kernel⟩
theorem ok_meet (T : Tx K mg) : Has P w K mg base (He.ga K "meet") 1 ["one", "other"] spBoth := by
  obtain ⟨fd, F⟩ := T.d_meet
  refine ⟨⟨fd, F.ok sc_meet (fun vs H Q E h => ?_) (fun cdv A outer s H vs Q E hr h => ?_), F.bindsN fun _ _ _ _ _ _ us hl => match us, hl with | [_, _], _ => rfl⟩, F.kp⟩
  · obtain ⟨s, t, n, p, q, rfl, _⟩ := h
    rfl
  · obtain ⟨s, t, n, p, q, rfl, n8, hs, ht, h⟩ := h
    refine ⟨_, PSs.nox (pss_one (ps_ret (pe_callTy (tupK (K := K)) (by rfl) T.free_tuple (by decide +kernel) (pa_cons (pe_lc (own := [("place", 2)]) (g := (gName 2)) rfl sc_meet.nd (piT (K := K) (pv 0)) (blkOk_by (by kernel_rfl)) (fun _ _ _ _ _ => (pg_name (i := 2) sc_meet.nd rfl (Or.inl rfl))) (fun _ _ _ _ _ => (pts_one (pt_cmpR (inSq (K := K)) (pv 2) (pv 1) (by rfl)))) (fun _ _ _ _ _ => (pv 2))) pa_nil)))), ?_⟩
    refine ⟨_, rfl, s, rfl, ⟨_, SqT.of hs⟩, fun D hD => ?_⟩
    have lp := lotP_len n p
    refine lc_filt (walk_tup (K := K) (a := s) (xs := (lotP n p).map vI)) (lotP n p) (fun b => decide (b ∈ lotP n q)) (by simp) (by simp; omega) hD (fun H1 s1 => SqT.of (s1 _ _ hs)) ?_ ?_
    · rintro i b y H1 H2 N1 N0 hb s1 ⟨rfl, hy⟩ k1 k0
      rw [List.getElem?_map, hb] at hy
      cases hy
      refine ⟨rfl, _, rfl, _, rfl, t, _, rfl, .inr (SqT.of (s1 _ _ ht)), rfl, flat_vI _, _, rfl, ?_⟩
      show if inV (vI b) ((lotP n q).map vI) = true then _ else _
      rw [in_lot]
      exact ite2 (fun z => ⟨_, rfl, k1 _ z fun _ _ e => e⟩) (fun z => k0 _ (by simpa using z) fun _ _ e => e)
    · intro H1 h1 s1
      refine ⟨D, _, rfl, .inl ⟨SqL.of h1, fun u hu => ?_⟩⟩
      refine h _ u ?_ (s1.trans (same_upd hu))
      rw [upd_same, filter_lot (p := fun b => p b ∧ q b) (lotP_sorted n p) fun b => by
        rw [mem_lotP, decide_eq_true_iff, mem_lotP]
        exact ⟨fun z => ⟨z.1.1, z.1.2, z.2.2⟩, fun z => ⟨⟨z.1, z.2.1⟩, z.1, z.2.2⟩⟩]
end
end RL
namespace RL
open PySem PySem.Spec PyProof.Rows L2 RLM
/-- what the first k triples let -/
def openT (M : Nat → Nat → Nat) (SN : List (Addr × V × Triple)) (k i b : Nat) : Prop := openP M (SN.take k) i b
theorem openT_all {M : Nat → Nat → Nat} {SN : List (Addr × V × Triple)} : openT M SN SN.length = openP M SN := by
  unfold openT
  rw [List.take_length]
theorem openT_next {M : Nat → Nat → Nat} {SN : List (Addr × V × Triple)} {k i b : Nat} {q : Addr × V × Triple} (hq : SN[k]? = some q) : openT M SN (k + 1) i b ↔ openT M SN k i b ∧ (q.2.2.beat = i → ans M q.2.2.look b = q.2.2.told) := by
  unfold openT openP
  rw [List.take_add_one, hq]
  constructor
  · intro h
    exact ⟨fun x hx => h x (List.mem_append_left _ hx), h q (List.mem_append_right _ (by simp))⟩
  · rintro ⟨h1, h2⟩ x hx
    rcases List.mem_append.mp hx with z | z
    · exact h1 x z
    · have : x = q := by simpa using z
      rw [this]
      exact h2
theorem StoryAt.get {n : Nat} {H : Hp} {s : Addr} {p : Nat → Prop} {PS : List (Addr × List Nat)} {SN : List (Addr × V × Triple)} (h : StoryAt n H s p PS SN) : ∃ tl tp ts : Addr, H s = some (.tup [.ref tl, .ref tp, .ref ts]) ∧ H tl = some (.tup ((lotP n p).map vI)) ∧ H tp = some (.tup (PS.map fun q => V.ref q.1)) ∧ H ts = some (.tup (SN.map fun q => V.ref q.1)) := h.ex
theorem cut_from (k : Nat) {xs : List V} : cutV xs (some (k : Int)) none = xs.drop k := by
  unfold cutV
  rw [HT.sIx_none, HT.sIx_nat, List.take_of_length_le (by rw [List.length_drop]; exact Nat.le_refl _)]
  rcases Nat.le_total k xs.length with z | z
  · rw [Nat.min_eq_left z]
  · rw [Nat.min_eq_right z, List.drop_of_length_le z, List.drop_of_length_le (Nat.le_refl _)]
section
variable {P : Program} {w : World} {K : PySem.W.Frag} {mg : Str → Option Value} {base : Heap}
def spAnswering (K : PySem.W.Frag) : Sp := fun vs H Q _ => ∃ (c x s : Addr) (n : Nat) (E : List (Nat × Nat)) (M : Nat → Nat → Nat) (p : Nat → Prop) (PS : List (Addr × List Nat)) (SN : List (Addr × V × Triple)), vs = [.ref x, .ref s] ∧ BoardAt K c H x n E ∧ Spans n E M ∧ StoryAt n H s p PS SN ∧
  ∀ H' l, LotsAt n H' l (PS.length + 1) (openP M SN) → H l = none → Same H H' → Q (.ref l) H'
theorem sc_answering : FnScope ["board", "story", "lots", "beat", "look", "answer"] ["board", "story"] (defScope s_answering) := ⟨rfl, rfl, rfl, by decide +kernel, rfl, by decide +kernel, by decide +kernel⟩
theorem ok_answering (T : Tx K mg) : Has P w K mg base (He.ga K "answering") 9 ["board", "story"] (spAnswering K) := by
  obtain ⟨⟨fd_last_beat, F_last_beat, b_last_beat⟩, kp_last_beat⟩ := ok_last (P := P) (w := w) (base := base) T
  obtain ⟨⟨fd_meet, F_meet, b_meet⟩, kp_meet⟩ := ok_meet (P := P) (w := w) (base := base) T
  obtain ⟨⟨fd_lot_of, F_lot_of, b_lot_of⟩, kp_lot_of⟩ := ok_lot_of (P := P) (w := w) (base := base) T
  obtain ⟨⟨fd_len, F_len, b_len⟩, kp_len⟩ := ok_len (P := P) (w := w) (base := base) T
  obtain ⟨fd, F⟩ := T.d_answering
  refine ⟨⟨fd, F.ok sc_answering (fun vs H Q E h => ?_) (fun cdv A outer s H vs Q E hr h => ?_), F.bindsN fun _ _ _ _ _ _ us hl => match us, hl with | [_, _], _ => rfl⟩, F.kp⟩
  · obtain ⟨c, x, s, n, E, M, p, PS, SN, rfl, _⟩ := h
    rfl
  · obtain ⟨c, x, sa, n, E, M, p, PS, SN, rfl, B, S, SA, h⟩ := h
    have hr_last_beat : Room 1 _ := hr.mono (by decide)
    have hr_meet : Room 1 _ := hr.mono (by decide)
    have hr_lot_of : Room 8 _ := hr.mono (by decide)
    have hr_len : Room 2 _ := hr.mono (by decide)
    refine ⟨_, PSs.nox (pss_cons (ps_set (i := 2) sc_answering.nd rfl (Or.inl rfl) (pe_op op_rep (pe_lst (pa_cons (pe_tupRg rfl (by rfl) T.free_tuple (prg_1 (by rfl) T.free_range (pe_callB (call_lenOwn T.m_len F_len b_len hr_len) (by rfl) T.free_len (by decide +kernel) (pa_cons (pv 0) pa_nil)))) pa_nil)) (pe_op op_add (pe_call F_last_beat hr_last_beat rfl T.glo_last_beat kp_last_beat b_last_beat .nil pass0 (pa_cons (pv 1) pa_nil)) pe_int)))
      (pss_cons (ps_for PassesOwn.never rfl (piT (K := K) (pe_ix (ixT (K := K)) (pv 1) pe_int (fun _ _ => rfl))) (pgT (K := K) (n := 3) rfl (pgs_cons (pg_name (i := 3) sc_answering.nd rfl (Or.inl rfl)) (pgs_cons (pg_name (i := 4) sc_answering.nd rfl (Or.inl rfl)) (pgs_cons (pg_name (i := 5) sc_answering.nd rfl (Or.inl rfl)) pgs_nil)))) (pss_one (ps_asg (pe_call F_meet hr_meet rfl T.glo_meet kp_meet b_meet .nil pass0 (pa_cons (pe_ix (ixL (K := K)) (pv 2) (pv 3) (fun _ _ => rfl)) (pa_cons (pe_call F_lot_of hr_lot_of rfl T.glo_lot_of kp_lot_of b_lot_of .nil pass0 (pa_cons (pv 0) (pa_cons (pv 4) (pa_cons (pv 5) pa_nil)))) pa_nil))) (pg_sub (pv 2) (pv 3) set_list))))
      (pss_one (ps_ret (pv 2))))), ?_⟩
    have n8 := B.hi
    have lp := SA.lp
    have ls := SA.ls
    obtain ⟨tl, tp, ts, hs, htl, htp, hts⟩ := SA.ex
    obtain ⟨dx, q1, q2, q3, hx⟩ := B.obj
    refine ⟨_, rfl, x, dx, _, rfl, hx, c, x, n, E, rfl, B, (n : Int), rfl, by omega, by omega, (n : Int), rfl, RgOk.of_le (by decide) (by omega) (by decide) (by omega), fun r hr => ?_⟩
    have s1 := same_upd (o := HO.tup (rgV 0 (n : Int))) hr
    have hr1 : (upd H r (.tup (rgV 0 (n : Int)))) r = some (.tup ((lotP n fun _ => True).map vI)) := by rw [upd_same, rg_range, lotP_true]
    generalize upd H r (.tup (rgV 0 (n : Int))) = H1 at s1 hr1
    refine ⟨(by show 1 ≤ sizeLine; decide), fun l0 hl0 => ?_⟩
    have s2 := same_upd (o := HO.lst [V.ref r]) hl0
    have hl2 : (upd H1 l0 (.lst [V.ref r])) l0 = some (.lst [V.ref r]) := upd_same
    generalize upd H1 l0 (.lst [V.ref r]) = H2 at s2 hl2
    have s12 := s1.trans s2
    refine ⟨_, rfl, sa, n, p, PS, SN, rfl, SA.same s12, _, _, rfl, rfl, l0, _, _, rfl, rfl, hl2, by omega, by omega, ?_, fun l hl => ?_⟩
    · show 1 * (((PS.length : Nat) : Int) + 1).toNat ≤ sizeLine
      exact Nat.le_trans (show 1 * (((PS.length : Nat) : Int) + 1).toNat ≤ 13 by omega) (by decide)
    have el : (List.replicate (((PS.length : Nat) : Int) + 1).toNat [V.ref r]).flatten = (List.replicate (PS.length + 1) r).map V.ref := by
      rw [rep_flat, List.map_replicate]
      congr 1
    rw [el]
    have s3 := same_upd (o := HO.lst ((List.replicate (PS.length + 1) r).map V.ref)) hl
    have hl3 : (upd H2 l (.lst ((List.replicate (PS.length + 1) r).map V.ref))) l = some (.lst ((List.replicate (PS.length + 1) r).map V.ref)) := upd_same
    have Hl : H l = none := s12.free hl
    generalize upd H2 l (.lst ((List.replicate (PS.length + 1) r).map V.ref)) = H3 at s3 hl3
    have s13 := s12.trans s3
    refine ⟨_, rfl, sa, _, 2, _, rfl, rfl, SqT.of (s13 _ _ hs), rfl, ts, rfl, ⟨_, SqT.of (s13 _ _ hts)⟩, ?_⟩
    refine for_it (walk_tup (K := K) (a := ts) (xs := SN.map fun q => V.ref q.1)) (fun k σ H4 => (∃ v3 v4 v5 : Option V, σ = [some (.ref x), some (.ref sa), some (.ref l), v3, v4, v5]) ∧ LotsAt n H4 l (PS.length + 1) (openT M SN k) ∧ Same H H4)
      ⟨⟨none, none, none, rfl⟩, ⟨⟨_, hl3, by simp, fun i u e => ?_⟩⟩, s13⟩ (fun k σ H4 _ z => SqT.of (z.2.2 _ _ hts)) ?_ ?_
    · rw [List.getElem?_replicate] at e
      split at e
      · cases e
        rw [lotP_congr (q := fun _ => True) fun b _ => ⟨fun _ => trivial, fun _ q hq => by simp [List.take_zero] at hq⟩]
        exact s3 _ _ (s2 _ _ hr1)
      · cases e
    · rintro k y σ H4 H5 hk ⟨⟨v3, v4, v5, rfl⟩, LA, s4⟩ ⟨rfl, hy⟩
      obtain ⟨q, hq, rfl⟩ := get_mapV hy
      obtain ⟨us, hus, lus, rus⟩ := LA.ex
      have mq := SA.sn q (List.mem_of_getElem? hq)
      have TR := mq.1.same s4
      have bl : q.2.2.beat < us.length := by
        have := mq.2
        omega
      have hu : us[q.2.2.beat]? = some us[q.2.2.beat] := List.getElem?_eq_getElem bl
      refine ⟨q.1, _, rfl, SqT.of TR.1, rfl, _, _, rfl, _, _, rfl, _, _, rfl, rfl, ?_⟩
      refine ⟨_, rfl, _, rfl, l, _, _, _, rfl, rfl, SqL.of hus, atI_nat (get_map hu), ?_⟩
      refine ⟨_, rfl, _, rfl, _, rfl, c, x, q.2.1, n, _, E, M, _, rfl, B.same s4, S, TR.2.1, TR.2.2, fun H6 t ht s6 => ?_⟩
      refine ⟨_, t, n, openT M SN k q.2.2.beat, _, rfl, n8, s6 _ _ (rus _ _ hu), ht, fun H7 t7 ht7 s7 => ?_⟩
      have s67 := s6.trans s7
      have hus7 := s67 _ _ hus
      refine ⟨_, rfl, _, rfl, l, _, _, q.2.2.beat, rfl, rfl, hus7, ixN_nat (by simpa using bl), ?_⟩
      refine ⟨⟨_, _, _, rfl⟩, ⟨⟨us.set q.2.2.beat t7, ?_, by rw [List.length_set]; exact lus, fun i u e => ?_⟩⟩, same_mut (s4.trans s67) Hl⟩
      · rw [upd_same, List.map_set]
      · rw [List.getElem?_set] at e
        by_cases ei : q.2.2.beat = i
        · rw [if_pos ei, if_pos bl] at e
          cases e
          rw [upd_ne (ne_of ht7 hus7 (by intro z; cases z)), ht7, lotP_congr fun b _ => ?_]
          rw [openT_next hq, ← ei]
          exact ⟨fun z => ⟨z.1, fun _ => z.2⟩, fun z => ⟨z.1, z.2 rfl⟩⟩
        · rw [if_neg ei] at e
          have g := s67 _ _ (rus i u e)
          rw [upd_ne (ne_of g hus7 (by intro z; cases z)), g, lotP_congr fun b _ => ?_]
          rw [openT_next hq]
          exact ⟨fun z => ⟨z, fun w => absurd w ei⟩, fun z => z.1⟩
    · rintro σ H4 ⟨⟨v3, v4, v5, rfl⟩, LA, s4⟩
      rw [List.length_map, openT_all] at LA
      exact ⟨_, rfl, h H4 l LA Hl s4⟩
end
end RL
namespace RL
open PySem PySem.Spec PyProof.Rows L2 RLM
theorem back_next {n : Nat} {E : List (Nat × Nat)} {PS : List (Addr × List Nat)} {O : Nat → Nat → Prop} {i : Nat} {q : Addr × List Nat} (hq : PS[PS.length - (i + 1)]? = some q) :
    lotP n (fun a => beforeP n E q.2 (BackP n PS.length (stepR E PS) O i) a ∧ O (PS.length - (i + 1)) a) = lotP n (BackP n PS.length (stepR E PS) O (i + 1)) := lotP_congr fun a ha => by
  constructor
  · rintro ⟨⟨b, bn, fb, nr⟩, o⟩
    exact ⟨ha, o, b, fb, q, hq, nr⟩
  · rintro ⟨_, o, b, fb, q', hq', nr⟩
    rw [hq] at hq'
    cases hq'
    have bn : b < n := by
      cases i with
      | zero => exact fb.1
      | succ i => exact fb.1
    exact ⟨⟨b, bn, fb, nr⟩, o⟩
theorem back_zero {n m : Nat} {R : Nat → Nat → Nat → Prop} {O : Nat → Nat → Prop} : lotP n (O m) = lotP n (BackP n m R O 0) := lotP_congr fun b hb => ⟨fun h => ⟨hb, h⟩, fun h => h.2⟩
/-- a row of lots that grows at its end -/
theorem grow_lots {n : Nat} {H : Hp} {f t : Addr} {vs : List Addr} {xs : List V} {p : Nat → Nat → Prop} (hf : H f = some (.lst xs)) (rv : ∀ (k : Nat) (u : Addr), vs[k]? = some u → H u = some (.tup ((lotP n (p k)).map vI))) (ht : H t = some (.tup ((lotP n (p vs.length)).map vI))) {ys : List V} :
    ∀ (k : Nat) (u : Addr), (vs ++ [t])[k]? = some u → (upd H f (.lst ys)) u = some (.tup ((lotP n (p k)).map vI)) := fun k u e => by
  by_cases hk : k < vs.length
  · rw [List.getElem?_append_left hk] at e
    have g := rv k u e
    rw [upd_ne (ne_of g hf (by intro z; cases z))]
    exact g
  · rw [List.getElem?_append_right (by omega)] at e
    have ek : k = vs.length := by
      obtain ⟨h1, _⟩ := List.getElem?_eq_some_iff.mp e
      have h1 : k - vs.length < 1 := h1
      omega
    rw [ek, Nat.sub_self] at e
    cases e
    rw [upd_ne (ne_of ht hf (by intro z; cases z)), ek]
    exact ht
section
variable {P : Program} {w : World} {K : PySem.W.Frag} {mg : Str → Option Value} {base : Heap}
def spProgBack (K : PySem.W.Frag) : Sp := fun vs H Q _ => ∃ (c x s : Addr) (n : Nat) (E : List (Nat × Nat)) (M : Nat → Nat → Nat) (p : Nat → Prop) (PS : List (Addr × List Nat)) (SN : List (Addr × V × Triple)), vs = [.ref x, .ref s] ∧ BoardAt K c H x n E ∧ Spans n E M ∧ StoryAt n H s p PS SN ∧ (∃ a, a < n ∧ p a) ∧
  ∀ H' l, LotsAt n H' l (PS.length + 1) (fun i => BackP n PS.length (stepR E PS) (openP M SN) (PS.length - i)) → H l = none → Same H H' → Q (.ref l) H'
theorem sc_back : FnScope ["board", "story", "fitting", "lots", "pace", "fit"] ["board", "story"] (defScope s_back) := ⟨rfl, rfl, rfl, by decide +kernel, rfl, by decide +kernel, by decide +kernel⟩
theorem ok_pback (T : Tx K mg) : Has P w K mg base (He.ga K "back") 10 ["board", "story"] (spProgBack K) := by
  obtain ⟨⟨fd_look_story, F_look_story, b_look_story⟩, kp_look_story⟩ := ok_look_story (P := P) (w := w) (base := base) T
  obtain ⟨⟨fd_answering, F_answering, b_answering⟩, kp_answering⟩ := ok_answering (P := P) (w := w) (base := base) T
  obtain ⟨⟨fd_meet, F_meet, b_meet⟩, kp_meet⟩ := ok_meet (P := P) (w := w) (base := base) T
  obtain ⟨⟨fd_before, F_before, b_before⟩, kp_before⟩ := ok_before (P := P) (w := w) (base := base) T
  obtain ⟨fd, F⟩ := T.d_back
  refine ⟨⟨fd, F.ok sc_back (fun vs H Q E h => ?_) (fun cdv A outer s H vs Q E hr h => ?_), F.bindsN fun _ _ _ _ _ _ us hl => match us, hl with | [_, _], _ => rfl⟩, F.kp⟩
  · obtain ⟨c, x, s, n, E, M, p, PS, SN, rfl, _⟩ := h
    rfl
  · obtain ⟨c, x, sa, n, E, M, p, PS, SN, rfl, B, S, SA, ex, h⟩ := h
    have hr_look_story : Room 9 _ := hr.mono (by decide)
    have hr_answering : Room 9 _ := hr.mono (by decide)
    have hr_meet : Room 1 _ := hr.mono (by decide)
    have hr_before : Room 5 _ := hr.mono (by decide)
    refine ⟨_, PSs.nox (pss_cons (ps_expr (pe_call F_look_story hr_look_story rfl T.glo_look_story kp_look_story b_look_story .nil pass0 (pa_cons (pv 0) (pa_cons (pv 1) pa_nil))))
      (pss_cons (ps_set (i := 2) sc_back.nd rfl (Or.inl rfl) (pe_revLK (K := K) (pe_call F_answering hr_answering rfl T.glo_answering kp_answering b_answering .nil pass0 (pa_cons (pv 0) (pa_cons (pv 1) pa_nil)))))
      (pss_cons (ps_set (i := 3) sc_back.nd rfl (Or.inl rfl) (pe_lst (pa_cons (pe_ix (ixL (K := K)) (pv 2) pe_int (fun _ _ => rfl)) pa_nil)))
      (pss_cons (ps_for PassesOwn.never rfl (pi_zh true false (K := K) (by rfl) T.free_zip (pa_cons (pe_revT (K := K) (pe_ix (ixT (K := K)) (pv 1) pe_int (fun _ _ => rfl))) (pa_cons (pe_slice (slL (K := K)) (pv 2) (po_some pe_int) po_none) pa_nil))) (pgT (K := K) (n := 2) rfl (pgs_cons (pg_name (i := 4) sc_back.nd rfl (Or.inl rfl)) (pgs_cons (pg_name (i := 5) sc_back.nd rfl (Or.inl rfl)) pgs_nil))) (pss_one (ps_expr (bmK (K := K) PySem.F.plainAttrs_list PySem.F.slot_list_append PySem.F.type_list_append mt_append (pv 3) (pa_cons (pe_call F_meet hr_meet rfl T.glo_meet kp_meet b_meet .nil pass0 (pa_cons (pe_call F_before hr_before rfl T.glo_before kp_before b_before .nil pass0 (pa_cons (pv 0) (pa_cons (pv 4) (pa_cons (pe_ix (ixL (K := K)) (pv 3) (pe_un un_neg pe_int) (fun _ _ => rfl)) pa_nil)))) (pa_cons (pv 5) pa_nil))) pa_nil)))))
      (pss_one (ps_ret (pe_revLK (K := K) (pv 3)))))))), ?_⟩
    have n8 := B.hi
    have lp := SA.lp
    obtain ⟨tl, tp, ts, hs, htl, htp, hts⟩ := SA.ex
    refine ⟨_, rfl, _, rfl, c, x, sa, n, E, p, PS, SN, rfl, B, SA, ex, fun H1 s1 => ?_⟩
    refine ⟨_, rfl, _, rfl, c, x, sa, n, E, M, p, PS, SN, rfl, B.same s1, S, SA.same s1, fun H2 l2 LA _ s2 => ?_⟩
    obtain ⟨us, hus, lus, rus⟩ := LA.ex
    refine ⟨l2, _, rfl, SqL.of hus, fun l3 hl3 => ?_⟩
    have s3 := same_upd (o := HO.lst (us.map V.ref).reverse) hl3
    have h3 : (upd H2 l3 (.lst (us.map V.ref).reverse)) l3 = some (.lst (us.reverse.map V.ref)) := by rw [upd_same, List.map_reverse]
    have rus3 : ∀ (i : Nat) (u : Addr), us[i]? = some u → (upd H2 l3 (.lst (us.map V.ref).reverse)) u = some (.tup ((lotP n (openP M SN i)).map vI)) := fun i u e => s3 _ _ (rus i u e)
    have s13 := (s1.trans s2).trans s3
    generalize upd H2 l3 (.lst (us.map V.ref).reverse) = H3 at s3 h3 rus3 s13
    have rev : ∀ i, i ≤ PS.length → us.reverse[i]? = us[PS.length - i]? := fun i hi => by
      rw [List.getElem?_reverse (by omega), lus]
      congr 1
    have hm : us[PS.length]? = some (us[PS.length]'(by omega)) := List.getElem?_eq_getElem _
    generalize us[PS.length]'(by omega) = um at hm
    refine ⟨_, rfl, l3, _, 0, _, rfl, rfl, SqL.of h3, atI_nat (j := 0) (get_map ((rev 0 (Nat.zero_le _)).trans hm)), ?_⟩
    refine ⟨(by show 1 ≤ sizeLine; decide), fun f hf => ?_⟩
    have s4 := same_upd (o := HO.lst [V.ref um]) hf
    have hf4 : (upd H3 f (.lst [V.ref um])) f = some (.lst [V.ref um]) := upd_same
    have s14 := s13.trans s4
    have h4 := s4 _ _ h3
    have Hf : H f = none := s13.free hf
    have H3f := hf
    generalize upd H3 f (.lst [V.ref um]) = H4 at s4 hf4 s14 h4
    refine ⟨_, rfl, sa, _, 1, _, rfl, rfl, SqT.of (s14 _ _ hs), rfl, tp, _, rfl, SqT.of (s14 _ _ htp), fun tr htr => ?_⟩
    have s5 := same_upd (o := HO.tup (PS.map fun q => V.ref q.1).reverse) htr
    have hr5 : (upd H4 tr (.tup (PS.map fun q => V.ref q.1).reverse)) tr = some (.tup (PS.reverse.map fun q => V.ref q.1)) := by rw [upd_same, List.map_reverse]
    have s15 := s14.trans s5
    have hf5 := s5 _ _ hf4
    have h5 := s5 _ _ h4
    have s35 := s4.trans s5
    generalize upd H4 tr (.tup (PS.map fun q => V.ref q.1).reverse) = H5 at s5 hr5 s15 hf5 h5 s35
    refine ⟨_, rfl, 1, rfl, l3, _, rfl, SqL.of h5, fun lc hlc => ?_⟩
    have s6 := same_upd (o := HO.lst (cutV (us.reverse.map V.ref) (some 1) none)) hlc
    have hc6 : (upd H5 lc (.lst (cutV (us.reverse.map V.ref) (some 1) none))) lc = some (.lst ((us.reverse.drop 1).map V.ref)) := by rw [upd_same, show cutV (us.reverse.map V.ref) (some 1) none = (us.reverse.map V.ref).drop 1 from cut_from 1, List.map_drop]
    have s36 := s35.trans s6
    have hf6 := s6 _ _ hf5
    have hr6 := s6 _ _ hr5
    have nfl : f ≠ lc := fun z => by
      rw [z] at hf5
      rw [hf5] at hlc
      cases hlc
    generalize upd H5 lc (.lst (cutV (us.reverse.map V.ref) (some 1) none)) = H6 at s6 hc6 s36 hf6 hr6
    refine ⟨tr, lc, PS.reverse.map (fun q => V.ref q.1), (us.reverse.drop 1).map V.ref, rfl, SqT.of hr6, SqL.of hc6, ?_⟩
    refine for_it (walk_zh (u1 := true) (u2 := false) (K := K) (a := tr) (b := lc) (xs := PS.reverse.map fun q => V.ref q.1) (ys := (us.reverse.drop 1).map V.ref) (n := PS.length) (by simp [lus])) (fun i σ H7 => ∃ (v4 v5 : Option V) (vs : List Addr) (v : Addr), σ = [some (.ref x), some (.ref sa), some (.ref l3), some (.ref f), v4, v5] ∧ H7 f = some (.lst ((vs ++ [v]).map V.ref)) ∧ vs.length = i ∧ (∀ (k : Nat) (u : Addr), (vs ++ [v])[k]? = some u → H7 u = some (.tup ((lotP n (BackP n PS.length (stepR E PS) (openP M SN) k)).map vI))) ∧ Same H3 H7 ∧ H7 lc = some (.lst ((us.reverse.drop 1).map V.ref)) ∧ H7 tr = some (.tup (PS.reverse.map fun q => V.ref q.1)))
      ⟨none, none, [], um, rfl, hf6, rfl, fun k u e => ?_, s36, hc6, hr6⟩ (fun i σ H7 _ ⟨_, _, _, _, _, _, _, _, _, z1, z2⟩ => ⟨SqT.of z2, SqL.of z1⟩) ?_ ?_
    · cases k with
      | zero =>
        cases e
        rw [← back_zero]
        exact s36 _ _ (rus3 _ _ hm)
      | succ k => simp at e
    · rintro i y σ H7 H8 hi ⟨v4, v5, vs, v, rfl, h7, lv, rv, s7, hc7, hr7⟩ ⟨T1, y1, y2, rfl, hT, rfl, e1, e2⟩
      have hq : PS[PS.length - (i + 1)]? = some (PS[PS.length - (i + 1)]'(by omega)) := List.getElem?_eq_getElem _
      generalize PS[PS.length - (i + 1)]'(by omega) = q at hq
      have ey1 : y1 = V.ref q.1 := by
        have e3 : (PS.reverse.map fun q => V.ref q.1)[i]? = some y1 := e1
        rw [List.getElem?_map, List.getElem?_reverse (by omega), show PS.length - 1 - i = PS.length - (i + 1) by omega, hq] at e3
        exact (Option.some.inj e3).symm
      have hu1 : us[PS.length - (i + 1)]? = some (us[PS.length - (i + 1)]'(by omega)) := List.getElem?_eq_getElem _
      generalize us[PS.length - (i + 1)]'(by omega) = u1 at hu1
      have ey2 : y2 = V.ref u1 := by
        have e3 : ((us.reverse.drop 1).map V.ref)[i]? = some y2 := e2
        rw [List.getElem?_map, List.getElem?_drop, Nat.add_comm, rev _ (by omega), hu1] at e3
        exact (Option.some.inj e3).symm
      subst ey1 ey2
      have s8 : Same H7 (upd H7 T1 (.tup [.ref q.1, .ref u1])) := same_upd hT
      have hT8 : (upd H7 T1 (.tup [.ref q.1, .ref u1])) T1 = some (.tup [.ref q.1, .ref u1]) := upd_same
      generalize upd H7 T1 (.tup [.ref q.1, .ref u1]) = H8 at s8 hT8
      have s38 := s7.trans s8
      have s18 := s13.trans s38
      have h8 := s8 _ _ h7
      have hv : H8 v = some (.tup ((lotP n (BackP n PS.length (stepR E PS) (openP M SN) i)).map vI)) := s8 _ _ (rv i v (by rw [List.getElem?_append_right (by omega), lv, Nat.sub_self]; rfl))
      have PQ := SA.pc q (List.mem_of_getElem? hq)
      refine ⟨T1, _, rfl, SqT.of hT8, rfl, _, _, rfl, _, _, rfl, rfl, ?_⟩
      refine ⟨_, rfl, .inl ⟨rfl, _, SqL.of h8⟩, _, rfl, _, rfl, _, rfl, 1, rfl, f, _, _, _, rfl, rfl, SqL.of h8, at_last, ?_⟩
      refine ⟨c, x, q.1, v, n, E, q.2, _, rfl, B.same s18, s18 _ _ PQ.1, PQ.2, hv, fun H9 t9 ht9 s9 => ?_⟩
      refine ⟨_, rfl, t9, u1, n, _, openP M SN (PS.length - (i + 1)), rfl, n8, ht9, s9 _ _ (s38 _ _ (rus3 _ u1 hu1)), fun H10 t10 ht10 s10 => ?_⟩
      have s810 := s9.trans s10
      have h10 := s810 _ _ h8
      have ht10' : H10 t10 = some (.tup ((lotP n (BackP n PS.length (stepR E PS) (openP M SN) (vs ++ [v]).length)).map vI)) := by
        rw [show (vs ++ [v]).length = i + 1 by simp [lv], ← back_next hq]
        exact ht10
      refine ⟨f, _, _, rfl, rfl, h10, ?_, ?_⟩
      · rw [List.length_map, List.length_append]
        exact Nat.lt_of_le_of_lt (show vs.length + 1 ≤ 13 by omega) (by decide)
      refine ⟨_, _, vs ++ [v], t10, rfl, ?_, by simp [lv], grow_lots h10 (fun k u e => s810 _ _ (s8 _ _ (rv k u e))) ht10', same_mut (s38.trans s810) H3f, ?_, ?_⟩
      · rw [upd_same, List.map_append (l₁ := vs ++ [v])]
        rfl
      · rw [upd_ne nfl.symm]
        exact s810 _ _ (s8 _ _ hc7)
      · have g := s810 _ _ (s8 _ _ hr7)
        rw [upd_ne (ne_of g h10 (by intro z; cases z))]
        exact g
    · rintro σ H7 ⟨v4, v5, vs, v, rfl, h7, lv, rv, s7, hc7, hr7⟩
      refine ⟨_, rfl, f, _, rfl, SqL.of h7, fun l9 hl9 => ?_⟩
      have s9 := same_upd (o := HO.lst ((vs ++ [v]).map V.ref).reverse) hl9
      refine h _ l9 ⟨⟨(vs ++ [v]).reverse, by rw [upd_same, List.map_reverse], by simp [lv], fun i u e => ?_⟩⟩ ((s13.trans s7).free hl9) ((s13.trans s7).trans s9)
      have il : i < (vs ++ [v]).length := by
        have := (List.getElem?_eq_some_iff.mp e).1
        simpa using this
      rw [List.getElem?_reverse il, show (vs ++ [v]).length - 1 - i = PS.length - i by simp [lv]] at e
      exact s9 _ _ (rv _ u e)
end
end RL
namespace RL
open PySem PySem.Spec PyProof.Rows L2 RLM
theorem range_get {α : Type} (xs : List Nat) (g : Nat → α) : (List.range xs.length).map (fun i => g (xs.getD i 0)) = xs.map g := by
  refine List.ext_getElem? fun k => ?_
  rw [List.getElem?_map, List.getElem?_map]
  by_cases hk : k < xs.length
  · rw [List.getElem?_range hk, List.getElem?_eq_getElem hk]
    show some (g (xs.getD k 0)) = some (g xs[k])
    rw [List.getD_eq_getElem?_getD, List.getElem?_eq_getElem hk]
    rfl
  · rw [List.getElem?_eq_none (by simpa using hk), List.getElem?_eq_none (by simpa using hk)]
    rfl
theorem into_any {n : Nat} {E : List (Nat × Nat)} {M : Nat → Nat → Nat} {ps : List Nat} {p : Nat → Prop} (S : Spans n E M) (PO : PaceOk n ps) {a : Nat} (ha : a < n) :
    (((lotP n p).map fun b => decide (M a b ≤ ps.getD a 0)).any id = true) ↔ beforeP n E ps p a := by
  have h7 : ps.getD a 0 ≤ 7 := PO.2 _ (List.mem_of_getElem? (pace_get PO ha))
  have key : ∀ b, b < n → (M a b ≤ ps.getD a 0 ↔ Near E ((ps.getD a 0 : Nat) : Int) a b) := fun b hb => by
    rw [← S.nr a b _ ha hb (by omega)]
    omega
  rw [List.any_eq_true]
  constructor
  · rintro ⟨v, hv, ev⟩
    obtain ⟨b, hb, rfl⟩ := List.mem_map.mp hv
    have m := mem_lotP.mp hb
    exact ⟨b, m.1, m.2, (key b m.1).1 (of_decide_eq_true ev)⟩
  · rintro ⟨b, h1, h2, h3⟩
    exact ⟨true, List.mem_map.mpr ⟨b, mem_lotP.mpr ⟨h1, h2⟩, decide_eq_true ((key b h1).2 h3)⟩, rfl⟩
section
variable {P : Program} {w : World} {K : PySem.W.Frag} {mg : Str → Option Value} {base : Heap}
def spInto (K : PySem.W.Frag) : Sp := fun vs H Q _ => ∃ (c D tp tl : Addr) (rs : List Addr) (M : Nat → Nat → Nat) (n : Nat) (E : List (Nat × Nat)) (ps : List Nat) (p : Nat → Prop), vs = [.ref D, .ref tp, .ref tl] ∧ TabAt c H D n rs M ∧ Spans n E M ∧ n ≤ 8 ∧ H tp = some (.tup (ps.map vI)) ∧ PaceOk n ps ∧ H tl = some (.tup ((lotP n p).map vI)) ∧
  ∀ H' t, H' t = some (.tup ((lotP n (beforeP n E ps p)).map vI)) → Same H H' → Q (.ref t) H'
theorem sc__law_into : FnScope ["_law_spans_here", "_law_pace_here", "_law_lot_here", "_law_one", "_law_to"] ["_law_spans_here", "_law_pace_here", "_law_lot_here"] (defScope s__law_into) := ⟨rfl, rfl, rfl, by decide +kernel, rfl, by decide +kernel, by decide +kernel⟩
theorem ok_into (T : Tx K mg) : Has P w K mg base (He.ga K "_law_into") 1 ["_law_spans_here", "_law_pace_here", "_law_lot_here"] (spInto K) := by
  obtain ⟨fd, F⟩ := T.d__law_into
  refine ⟨⟨fd, F.ok sc__law_into (fun vs H Q E h => ?_) (fun cdv A outer s H vs Q E hr h => ?_), F.bindsN fun _ _ _ _ _ _ us hl => match us, hl with | [_, _, _], _ => rfl⟩, F.kp⟩
  · obtain ⟨c, D, tp, tl, rs, M, n, E, ps, p, rfl, _⟩ := h
    rfl
  · obtain ⟨c, D, tp, tl, rs, M, n, E, ps, p, rfl, TA, S, n8, htp, PO, htl, h⟩ := h
    refine ⟨_, PSs.nox (pss_one (ps_ret (pe_callTy (tupK (K := K)) (by rfl) T.free_tuple (by decide +kernel) (pa_cons (pe_lc (own := [("_law_one", 3)]) (g := (gName 3)) rfl sc__law_into.nd (pi_range1 (by rfl) T.free_range (pa_cons (pe_callB (lenK (K := K)) (by rfl) T.free_len (by decide +kernel) (pa_cons (pv 0) pa_nil)) pa_nil)) (blkOk_by (by kernel_rfl)) (fun _ _ _ _ _ => (pg_name (i := 3) sc__law_into.nd rfl (Or.inr rfl))) (fun _ _ _ _ _ => (pts_one (pt_val (pe_callB (anyK (K := K)) (by rfl) T.free_any (by decide +kernel) (pa_cons (pe_lc (own := [("_law_to", 4)]) (g := (gName 4)) (tt := tYes) rfl sc__law_into.nd (piT (K := K) (pv 2)) (blkOk_by (by kernel_rfl)) (fun _ _ _ _ _ => (pg_name (i := 4) sc__law_into.nd rfl (Or.inl rfl))) (fun _ _ _ _ _ => pts_nil) (fun _ _ _ _ _ => (pe_cmpR op_le (pe_ix (ixL (K := K)) (pe_ix (ixL (K := K)) (pv 0) (pv 3) (fun _ _ => rfl)) (pv 4) (fun _ _ => rfl)) (pe_ix (ixT (K := K)) (pv 1) (pv 3) (fun _ _ => rfl)) (nomark _)))) pa_nil))))) (fun _ _ _ _ _ => (pv 3))) pa_nil)))), ?_⟩
    refine ⟨_, rfl, D, _, rfl, .inl (SqL.of TA.at_), _, rfl, ?_⟩
    rw [List.length_map, TA.len]
    refine ⟨by omega, by omega, fun D1 hD1 => ?_⟩
    have lW : (lotP n p).length ≤ n := lotP_len _ _
    refine lc_filt (walk_range (lo := 0) (n := ((n : Nat) : Int).toNat)) (List.range n) (fun a => ((lotP n p).map fun b => decide (M a b ≤ ps.getD a 0)).any id) (by simp) (by omega) hD1 (fun _ _ => trivial) ?_ ?_
    · rintro i a x H1 H2 N1 N0 ha s1 ⟨rfl, rfl⟩ k1 k0
      obtain ⟨an, rfl⟩ : i < n ∧ a = i := by
        obtain ⟨z1, z2⟩ := List.getElem?_eq_some_iff.mp ha
        rw [List.getElem_range] at z2
        rw [List.length_range] at z1
        exact ⟨z1, z2.symm⟩
      refine ⟨rfl, _, rfl, tl, rfl, ⟨_, SqT.of (s1 _ _ htl)⟩, fun D2 hD2 => ?_⟩
      refine lc_val (walk_tup (K := K) (a := tl) (xs := (lotP n p).map vI)) (fun i => V.bl (decide (M a ((lotP n p).getD i 0) ≤ ps.getD a 0))) (by rw [List.length_map]; omega) hD2 (fun H3 s3 => SqT.of (s3 _ _ (s1 _ _ htl))) ?_ ?_
      · rintro k z H3 H4 Nx hk s3 ⟨rfl, hz⟩ kk
        obtain ⟨b, hb, rfl⟩ := get_vI hz
        have bn := (mem_lotP.mp (List.mem_of_getElem? hb)).1
        have s13 := s1.trans s3
        obtain ⟨r, hr1, hr2⟩ := (TA.same s13).get an
        refine ⟨rfl, _, rfl, _, rfl, D, _, _, _, rfl, rfl, SqL.of (s13 _ _ TA.at_), at0 (get_map hr1), _, rfl, r, _, _, _, rfl, rfl, SqL.of hr2, atI_nat (row_get bn), ?_⟩
        refine ⟨_, rfl, _, rfl, tp, _, _, _, rfl, rfl, SqT.of (s13 _ _ htp), at0 (get_map (pace_get PO an)), ?_⟩
        refine ⟨_, _, rfl, rfl, ?_⟩
        have := kk _ fun _ _ e => e
        rw [List.getD_eq_getElem?_getD (l := lotP n p), hb] at this
        have e : decide (((M a b : Nat) : Int) ≤ ((ps.getD a 0 : Nat) : Int)) = decide (M a b ≤ ps.getD a 0) := decide_eq_decide.mpr Int.ofNat_le
        show Nx (V.bl (decide (((M a b : Nat) : Int) ≤ ((ps.getD a 0 : Nat) : Int)))) _
        rw [e]
        exact this
      · intro H3 h3 s3
        rw [List.length_map, range_get (lotP n p) (fun b => V.bl (decide (M a b ≤ ps.getD a 0)))] at h3
        refine ⟨D2, (lotP n p).map fun b => decide (M a b ≤ ps.getD a 0), rfl, SqL.of (by rw [h3, List.map_map]; rfl), _, rfl, ?_⟩
        refine ite2 (fun z => ⟨_, rfl, ?_⟩) (fun z => k0 _ (by simpa using z) s3)
        have := k1 _ z s3
        show N1 (V.int (0 + ((a : Nat) : Int))) _
        rw [Int.zero_add]
        exact this
    · intro H1 h1 s1
      refine ⟨D1, _, rfl, .inl ⟨SqL.of h1, fun t ht => ?_⟩⟩
      refine h _ t ?_ (s1.trans (same_upd ht))
      rw [upd_same, filter_lot (p := beforeP n E ps p) (range_sorted n) fun b => ?_]
      rw [List.mem_range]
      exact and_congr_right fun bn => into_any S PO bn
def spBack (K : PySem.W.Frag) : Sp := fun vs H Q _ => ∃ (c D s : Addr) (n : Nat) (rs : List Addr) (M : Nat → Nat → Nat) (E : List (Nat × Nat)) (p : Nat → Prop) (PS : List (Addr × List Nat)) (SN : List (Addr × V × Triple)), vs = [.ref D, .ref s] ∧ n ≤ 8 ∧ TabAt c H D n rs M ∧ Spans n E M ∧ StoryAt n H s p PS SN ∧
  ∀ H' l, LotsAt n H' l (PS.length + 1) (fun i => BackP n PS.length (stepR E PS) (openP M SN) (PS.length - i)) → H l = none → Same H H' → Q (.ref l) H'
end
end RL
namespace RL
open PySem PySem.Spec PyProof.Rows L2 RLM
section
variable {P : Program} {w : World} {K : PySem.W.Frag} {mg : Str → Option Value} {base : Heap}
def spProgForth (K : PySem.W.Frag) : Sp := fun vs H Q _ => ∃ (c x s : Addr) (n : Nat) (E : List (Nat × Nat)) (M : Nat → Nat → Nat) (p : Nat → Prop) (PS : List (Addr × List Nat)) (SN : List (Addr × V × Triple)), vs = [.ref x, .ref s] ∧ BoardAt K c H x n E ∧ Spans n E M ∧ StoryAt n H s p PS SN ∧ (∃ a, a < n ∧ p a) ∧
  ∀ H' l, LotsAt n H' l (PS.length + 1) (ForthP n p (stepR E PS) (openP M SN)) → H l = none → Same H H' → Q (.ref l) H'
def spNextLot (K : PySem.W.Frag) : Sp := fun vs H Q _ => ∃ (c x s l f : Addr) (n : Nat) (E : List (Nat × Nat)) (O : Nat → Nat → Prop) (p : Nat → Prop) (PS : List (Addr × List Nat)) (SN : List (Addr × V × Triple)) (us : List Addr), vs = [.ref x, .ref s, .ref l, .ref f] ∧ BoardAt K c H x n E ∧ StoryAt n H s p PS SN ∧ LotsAt n H l (PS.length + 1) O ∧ H f = some (.lst (us.map V.ref)) ∧ us.length ≤ PS.length ∧ (∀ (k : Nat) (u : Addr), us[k]? = some u → H u = some (.tup ((lotP n (ForthP n p (stepR E PS) O k)).map vI))) ∧
  ∀ H' t, H' t = some (.tup ((lotP n (ForthP n p (stepR E PS) O us.length)).map vI)) → Same H H' → Q (.ref t) H'
theorem sc_next_lot : FnScope ["board", "story", "fitting", "lots", "beat"] ["board", "story", "fitting", "lots"] (defScope s_next_lot) := ⟨rfl, rfl, rfl, by decide +kernel, rfl, by decide +kernel, by decide +kernel⟩
theorem ok_next_lot (T : Tx K mg) : Has P w K mg base (He.ga K "next_lot") 6 ["board", "story", "fitting", "lots"] (spNextLot K) := by
  obtain ⟨⟨fd_meet, F_meet, b_meet⟩, kp_meet⟩ := ok_meet (P := P) (w := w) (base := base) T
  obtain ⟨⟨fd_step, F_step, b_step⟩, kp_step⟩ := ok_step (P := P) (w := w) (base := base) T
  obtain ⟨fd, F⟩ := T.d_next_lot
  refine ⟨⟨fd, F.ok sc_next_lot (fun vs H Q E h => ?_) (fun cdv A outer s H vs Q E hr h => ?_), F.bindsN fun _ _ _ _ _ _ us hl => match us, hl with | [_, _, _, _], _ => rfl⟩, F.kp⟩
  · obtain ⟨c, x, s, l, f, n, E, O, p, PS, SN, us, rfl, _⟩ := h
    rfl
  · obtain ⟨c, x, sa, l2, f, n, E, O, p, PS, SN, vs, rfl, B, SA, LA, hf, lv, rv, h⟩ := h
    have hr_meet : Room 1 _ := hr.mono (by decide)
    have hr_step : Room 5 _ := hr.mono (by decide)
    refine ⟨_, PSs.nox (pss_cons (ps_set (i := 4) sc_next_lot.nd rfl (Or.inl rfl) (pe_callB (lenK (K := K)) (by rfl) T.free_len (by decide +kernel) (pa_cons (pv 3) pa_nil)))
      (pss_cons (ps_if (pt_cmpR op_eq (pv 4) pe_int (nomark _)) (pss_one (ps_ret (pe_call F_meet hr_meet rfl T.glo_meet kp_meet b_meet .nil pass0 (pa_cons (pe_ix (ixT (K := K)) (pv 1) pe_int (fun _ _ => rfl)) (pa_cons (pe_ix (ixL (K := K)) (pv 2) pe_int (fun _ _ => rfl)) pa_nil))))) pss_nil)
      (pss_one (ps_ret (pe_call F_meet hr_meet rfl T.glo_meet kp_meet b_meet .nil pass0 (pa_cons (pe_call F_step hr_step rfl T.glo_step kp_step b_step .nil pass0 (pa_cons (pv 0) (pa_cons (pe_ix (ixT (K := K)) (pe_ix (ixT (K := K)) (pv 1) pe_int (fun _ _ => rfl)) (pe_op op_sub (pv 4) pe_int) (fun _ _ => rfl)) (pa_cons (pe_ix (ixL (K := K)) (pv 3) (pe_un un_neg pe_int) (fun _ _ => rfl)) pa_nil)))) (pa_cons (pe_ix (ixL (K := K)) (pv 2) (pv 4) (fun _ _ => rfl)) pa_nil))))))), ?_⟩
    have n8 := B.hi
    have lp := SA.lp
    obtain ⟨tl, tp, ts, hs, htl, htp, hts⟩ := SA.ex
    obtain ⟨us, hus, lus, rus⟩ := LA.ex
    refine ⟨_, rfl, f, _, rfl, .inl (SqL.of hf), ?_⟩
    rw [List.length_map]
    rcases List.eq_nil_or_concat vs with z | ⟨ws, v, z⟩
    · subst z
      refine ⟨_, rfl, rfl, _, rfl, iteT ?_⟩
      have hu0 : us[0]? = some (us[0]'(by omega)) := List.getElem?_eq_getElem _
      refine ⟨_, rfl, sa, _, 0, _, rfl, rfl, SqT.of hs, rfl, _, rfl, l2, _, 0, _, rfl, rfl, SqL.of hus, atI_nat (j := 0) (get_map hu0), ?_⟩
      refine ⟨tl, _, n, p, O 0, rfl, n8, htl, rus 0 _ hu0, fun H3 t0 ht0 s3 => h H3 t0 ?_ s3⟩
      rw [ht0, forth_zero]
      rfl
    · rw [List.concat_eq_append] at z
      subst z
      have lw : (ws ++ [v]).length = ws.length + 1 := by simp
      refine ⟨_, rfl, rfl, _, rfl, ?_⟩
      rw [decide_eq_false (by rw [lw]; intro z; have z := V.int.inj z; omega)]
      refine iteF ?_
      have hi : ws.length < PS.length := by omega
      have hq : PS[ws.length]? = some PS[ws.length] := List.getElem?_eq_getElem hi
      generalize PS[ws.length] = q at hq
      have hu1 : us[ws.length + 1]? = some (us[ws.length + 1]'(by omega)) := List.getElem?_eq_getElem _
      generalize us[ws.length + 1]'(by omega) = u1 at hu1
      have hv : H v = some (.tup ((lotP n (ForthP n p (stepR E PS) O ws.length)).map vI)) := rv ws.length v (by rw [List.getElem?_append_right (by omega), Nat.sub_self]; rfl)
      have PQ := SA.pc q (List.mem_of_getElem? hq)
      have em : ((((ws ++ [v]).length : Nat) : Int) - 1) = ((ws.length : Nat) : Int) := by rw [lw]; omega
      refine ⟨_, rfl, _, rfl, sa, _, 1, _, rfl, rfl, SqT.of hs, rfl, _, rfl, _, _, rfl, rfl, tp, _, _, _, rfl, rfl, SqT.of htp, by rw [em]; exact atI_nat (get_map hq), ?_⟩
      refine ⟨_, rfl, 1, rfl, f, _, _, _, rfl, rfl, SqL.of hf, at_last, ?_⟩
      refine ⟨c, x, q.1, v, n, E, q.2, _, rfl, B, PQ.1, PQ.2, hv, fun H8 t8 ht8 s8 => ?_⟩
      refine ⟨_, rfl, _, rfl, l2, _, _, _, rfl, rfl, SqL.of (s8 _ _ hus), atI_nat (by rw [lw]; exact get_map hu1), ?_⟩
      refine ⟨t8, u1, n, _, O (ws.length + 1), rfl, n8, ht8, s8 _ _ (rus _ u1 hu1), fun H9 t9 ht9 s9 => h H9 t9 ?_ (s8.trans s9)⟩
      rw [ht9, lw, ← forth_next hq]
theorem sc_forth : FnScope ["board", "story", "fitting", "lots"] ["board", "story"] (defScope s_forth) := ⟨rfl, rfl, rfl, by decide +kernel, rfl, by decide +kernel, by decide +kernel⟩
theorem ok_pforth (T : Tx K mg) : Has P w K mg base (He.ga K "forth") 10 ["board", "story"] (spProgForth K) := by
  obtain ⟨⟨fd_look_story, F_look_story, b_look_story⟩, kp_look_story⟩ := ok_look_story (P := P) (w := w) (base := base) T
  obtain ⟨⟨fd_answering, F_answering, b_answering⟩, kp_answering⟩ := ok_answering (P := P) (w := w) (base := base) T
  obtain ⟨⟨fd_last_beat, F_last_beat, b_last_beat⟩, kp_last_beat⟩ := ok_last (P := P) (w := w) (base := base) T
  obtain ⟨⟨fd_next_lot, F_next_lot, b_next_lot⟩, kp_next_lot⟩ := ok_next_lot (P := P) (w := w) (base := base) T
  obtain ⟨fd, F⟩ := T.d_forth
  refine ⟨⟨fd, F.ok sc_forth (fun vs H Q E h => ?_) (fun cdv A outer s H vs Q E hr h => ?_), F.bindsN fun _ _ _ _ _ _ us hl => match us, hl with | [_, _], _ => rfl⟩, F.kp⟩
  · obtain ⟨c, x, s, n, E, M, p, PS, SN, rfl, _⟩ := h
    rfl
  · obtain ⟨c, x, sa, n, E, M, p, PS, SN, rfl, B, S, SA, ex, h⟩ := h
    have hr_look_story : Room 9 _ := hr.mono (by decide)
    have hr_answering : Room 9 _ := hr.mono (by decide)
    have hr_last_beat : Room 1 _ := hr.mono (by decide)
    have hr_next_lot : Room 6 _ := hr.mono (by decide)
    refine ⟨_, PSs.nox (pss_cons (ps_expr (pe_call F_look_story hr_look_story rfl T.glo_look_story kp_look_story b_look_story .nil pass0 (pa_cons (pv 0) (pa_cons (pv 1) pa_nil))))
      (pss_cons (ps_set (i := 2) sc_forth.nd rfl (Or.inl rfl) (pe_call F_answering hr_answering rfl T.glo_answering kp_answering b_answering .nil pass0 (pa_cons (pv 0) (pa_cons (pv 1) pa_nil))))
      (pss_cons (ps_set (i := 3) sc_forth.nd rfl (Or.inl rfl) (pe_lst pa_nil))
      (pss_cons (ps_while PassesOwn.never (pt_cmpR op_le (pe_callB (lenK (K := K)) (by rfl) T.free_len (by decide +kernel) (pa_cons (pv 3) pa_nil)) (pe_call F_last_beat hr_last_beat rfl T.glo_last_beat kp_last_beat b_last_beat .nil pass0 (pa_cons (pv 1) pa_nil)) (nomark _)) (pss_one (ps_expr (bmK (K := K) PySem.F.plainAttrs_list PySem.F.slot_list_append PySem.F.type_list_append mt_append (pv 3) (pa_cons (pe_call F_next_lot hr_next_lot rfl T.glo_next_lot kp_next_lot b_next_lot .nil pass0 (pa_cons (pv 0) (pa_cons (pv 1) (pa_cons (pv 2) (pa_cons (pv 3) pa_nil))))) pa_nil)))))
      (pss_one (ps_ret (pv 3))))))), ?_⟩
    have lp := SA.lp
    refine ⟨_, rfl, _, rfl, c, x, sa, n, E, p, PS, SN, rfl, B, SA, ex, fun H1 s1 => ?_⟩
    refine ⟨_, rfl, _, rfl, c, x, sa, n, E, M, p, PS, SN, rfl, B.same s1, S, SA.same s1, fun H2 l2 LA _ s2 => ?_⟩
    have s12 := s1.trans s2
    obtain ⟨as, has, las, ras⟩ := LA.ex
    refine ⟨Nat.zero_le _, fun f hf => ?_⟩
    have s3 := same_upd (o := HO.lst []) hf
    have Hf : H f = none := s12.free hf
    refine ⟨fun m σ H4 => ∃ us : List Addr, σ = [some (.ref x), some (.ref sa), some (.ref l2), some (.ref f)] ∧ H4 f = some (.lst (us.map V.ref)) ∧ us.length + m = PS.length + 1 ∧ (∀ (k : Nat) (u : Addr), us[k]? = some u → H4 u = some (.tup ((lotP n (ForthP n p (stepR E PS) (openP M SN) k)).map vI))) ∧ Same H2 H4,
      ⟨PS.length + 1, [], rfl, upd_same, by simp, fun k u e => by simp at e, s3⟩, ?_⟩
    rintro m σ H4 ⟨us, rfl, hf4, lu, ru, s4⟩
    have s14 := s12.trans s4
    refine ⟨_, rfl, f, _, rfl, .inl (SqL.of hf4), _, rfl, sa, n, p, PS, SN, rfl, SA.same s14, _, _, rfl, rfl, ?_⟩
    rw [List.length_map]
    refine ⟨decide (((us.length : Nat) : Int) ≤ ((PS.length : Nat) : Int)), rfl, ?_⟩
    cases m with
    | zero =>
      rw [decide_eq_false (by omega)]
      exact iteF ⟨_, rfl, h H4 f ⟨⟨us, hf4, by omega, ru⟩⟩ Hf s14⟩
    | succ m =>
      rw [decide_eq_true (by omega)]
      refine iteT ?_
      refine ⟨fun σ' H' => ∃ us' : List Addr, σ' = [some (.ref x), some (.ref sa), some (.ref l2), some (.ref f)] ∧ H' f = some (.lst (us'.map V.ref)) ∧ us'.length + m = PS.length + 1 ∧ (∀ (k : Nat) (u : Addr), us'[k]? = some u → H' u = some (.tup ((lotP n (ForthP n p (stepR E PS) (openP M SN) k)).map vI))) ∧ Same H2 H', fun σ' H' z => ⟨m, Nat.lt_succ_self m, z⟩, ?_⟩
      refine ⟨_, rfl, .inl ⟨rfl, _, SqL.of hf4⟩, _, rfl, _, rfl, _, rfl, _, rfl, c, x, sa, l2, f, n, E, openP M SN, p, PS, SN, us, rfl, B.same s14, SA.same s14, ⟨⟨as, s4 _ _ has, las, fun k u e => s4 _ _ (ras k u e)⟩⟩, hf4, by omega, ru, fun H5 t ht s5 => ?_⟩
      have hf5 := s5 _ _ hf4
      refine ⟨f, _, _, rfl, rfl, hf5, ?_, ?_⟩
      · rw [List.length_map]
        exact Nat.lt_of_le_of_lt (show us.length ≤ 13 by omega) (by decide)
      refine ⟨us ++ [t], rfl, ?_, by simp; omega, fun k u e => ?_, same_mut (s4.trans s5) hf⟩
      · rw [upd_same, List.map_append]
        rfl
      · by_cases hk : k < us.length
        · rw [List.getElem?_append_left hk] at e
          have g := s5 _ _ (ru k u e)
          rw [upd_ne (ne_of g hf5 (by intro z; cases z))]
          exact g
        · rw [List.getElem?_append_right (by omega)] at e
          have ek : k = us.length := by
            obtain ⟨h1, _⟩ := List.getElem?_eq_some_iff.mp e
            have h1 : k - us.length < 1 := h1
            omega
          rw [ek, Nat.sub_self] at e
          cases e
          rw [upd_ne (ne_of ht hf5 (by intro z; cases z)), ek]
          exact ht
end
end RL
namespace RL
open PySem PySem.Spec PyProof.Rows L2 RLM
/-- a comprehension in whose turns numbers are drawn -/
theorem lc_relK {J : It} {n : Nat} {G : Hp → Prop} {Y : Nat → Hp → V → Hp → Prop} {g : TG} {te : TE} {vs : List Nat} {σ : L2.St} {H : Hp} {D b c : Addr} {Qd : Hp → Prop} (w : Walk J n G Y) (R : Nat → V → Hp → Prop) (hn : n ≤ 100000) (B : Box b c H) (hD : H D = none) (tk : ∀ k v H1 H2, R k v H1 → TK H1 H2 → R k v H2) (hG : ∀ H1, Kc c H H1 → Box b c H1 → G H1)
    (hs : ∀ i x H1 H2 (Nx : V → Hp → Prop), i < n → Kc c H H1 → Box b c H1 → Y i H1 x H2 → (∀ y H4, R i y H4 → Kc c H1 H4 → Box b c H4 → Nx y H4) → g x (wipe σ vs) H2 fun σ2 H3 => wipe σ2 vs = wipe σ vs ∧ te σ2 H3 Nx)
    (hd : ∀ H1 ys, H1 D = some (.lst ys) → ys.length = n → (∀ k y, ys[k]? = some y → R k y H1) → Kc c H H1 → Box b c H1 → D ≠ c → Qd H1) :
    ∃ W : Nat → Nat → Hp → Prop, (∃ m, W 0 m (L2.upd H D (.lst []))) ∧ ∀ i m H, W i m H →
      (J.stop i H ∧ Qd H) ∨ (J.go i H ∧ ∃ Nx : Hp → Prop, (∀ H', Nx H' → ∃ m', m' < m ∧ W (i + 1) m' H') ∧ ∀ x H', J.yld i H x H' → g x (wipe σ vs) H' fun σ2 H2 => wipe σ2 vs = wipe σ vs ∧ tYes σ2 H2 fun b H3 =>
        if b = true then te σ2 H3 fun y H4 => ∃ acc, H4 D = some (.lst acc) ∧ acc.length < sizeLine ∧ Nx (L2.upd H4 D (.lst (acc ++ [y]))) else Nx H3) := by
  obtain ⟨Dc, Db⟩ := B.new hD
  have s0 : Same H (L2.upd H D (.lst [])) := same_upd hD
  refine lc_it w (fun i H1 => ∃ ys, H1 D = some (.lst ys) ∧ ys.length = i ∧ (∀ k y, ys[k]? = some y → R k y H1) ∧ Kc c H H1 ∧ Box b c H1) ⟨[], upd_same, rfl, fun k y e => (by simp at e), kc_same s0, B.same s0⟩ (fun i H1 _ ⟨_, _, _, _, k1, B1⟩ => hG H1 k1 B1) ?_ (fun H1 ⟨ys, h1, h2, h3, h4, h5⟩ => hd H1 ys h1 h2 h3 h4 h5 Dc)
  rintro i x H1 H2 hi ⟨ys, h1, h2, h3, k1, B1⟩ hY
  refine hs i x H1 H2 (fun y H4 => ∃ acc, H4 D = some (.lst acc) ∧ acc.length < sizeLine ∧ ∃ zs, (L2.upd H4 D (.lst (acc ++ [y]))) D = some (.lst zs) ∧ zs.length = i + 1 ∧ (∀ k y', zs[k]? = some y' → R k y' (L2.upd H4 D (.lst (acc ++ [y])))) ∧ Kc c H (L2.upd H4 D (.lst (acc ++ [y]))) ∧ Box b c (L2.upd H4 D (.lst (acc ++ [y])))) hi k1 B1 hY fun y H4 r k4 B4 => ?_
  have h4 := k4 _ _ Dc (fun _ z => by cases z) h1
  refine ⟨ys, h4, ?_, ys ++ [y], upd_same, by simp [h2], fun k y' e => ?_, (k1.trans k4).upd hD, B4.upd Dc Db⟩
  · rw [h2]
    exact Nat.lt_of_lt_of_le hi (Nat.le_trans hn (by decide))
  · by_cases hk : k < ys.length
    · rw [List.getElem?_append_left hk] at e
      exact tk _ _ _ _ (h3 k y' e) ((k4.tk B1.lst).trans (tk_lst h4))
    · rw [List.getElem?_append_right (by omega)] at e
      have ek : k = ys.length := by
        obtain ⟨z1, _⟩ := List.getElem?_eq_some_iff.mp e
        simp at z1
        omega
      rw [ek, Nat.sub_self] at e
      cases e
      rw [ek, h2]
      exact tk _ _ _ _ r (tk_lst h4)
/-- what each of a list is, as a list beside -/
theorem beside {α : Type} {R : Nat → V → α → Prop} : ∀ (ys : List V) (i : Nat), (∀ (k : Nat) (y : V), ys[k]? = some y → ∃ a, R (i + k) y a) → ∃ as : List α, as.length = ys.length ∧ ∀ (k : Nat) (y : V) (a : α), ys[k]? = some y → as[k]? = some a → R (i + k) y a
  | [], i, _ => ⟨[], rfl, fun k y a e => by simp at e⟩
  | y :: ys, i, h => by
    obtain ⟨a, ha⟩ := h 0 y rfl
    obtain ⟨as, l, h2⟩ := beside ys (i + 1) fun k y e => by
      have := h (k + 1) y e
      rw [← Nat.add_assoc, Nat.add_right_comm] at this
      exact this
    refine ⟨a :: as, by simp [l], fun k y' a' e1 e2 => ?_⟩
    cases k with
    | zero =>
      cases e1
      cases e2
      exact ha
    | succ k =>
      have := h2 k y' a' e1 e2
      rw [Nat.add_right_comm, Nat.add_assoc] at this
      exact this
theorem ys_of {α : Type} {f : α → V} {ys : List V} {as : List α} (l : as.length = ys.length) (h : ∀ (k : Nat) (y : V) (a : α), ys[k]? = some y → as[k]? = some a → y = f a) : ys = as.map f := by
  refine List.ext_getElem? fun k => ?_
  rw [List.getElem?_map]
  by_cases hk : k < ys.length
  · have e1 : ys[k]? = some ys[k] := List.getElem?_eq_getElem hk
    have e2 : as[k]? = some (as[k]'(by omega)) := List.getElem?_eq_getElem _
    rw [e1, e2, h k _ _ e1 e2]
    rfl
  · rw [List.getElem?_eq_none (by omega), List.getElem?_eq_none (by omega)]
    rfl
/-- the parts by signs -/
def signP (ss : List Nat) (z : Int) (b : Nat) : Prop := nI (ss.getD b 0) = z
theorem parts_ok {n : Nat} {ss : List Nat} {zs : List Int} (ls : ss.length = n) (nd : zs.Nodup) (hm : ∀ z, z ∈ zs ↔ z ∈ ss.map nI) (lz : zs.length ≤ n) : LookOk n (.parts (zs.map (signP ss))) := by
  refine ⟨by rw [List.length_map]; exact lz, fun b bn => ?_, fun i j p q b hp hq bn pb qb => ?_, fun p hp => ?_⟩
  · have hb : b < ss.length := by omega
    have hmem : nI (ss.getD b 0) ∈ zs := (hm _).2 (List.mem_map.mpr ⟨ss.getD b 0, by rw [List.getD_eq_getElem?_getD, List.getElem?_eq_getElem hb]; exact List.getElem_mem hb, rfl⟩)
    obtain ⟨k, hk, e⟩ := List.getElem_of_mem hmem
    exact ⟨k, signP ss zs[k], by rw [List.getElem?_map, List.getElem?_eq_getElem hk]; rfl, e.symm⟩
  · rw [List.getElem?_map] at hp hq
    cases e1 : zs[i]? with
    | none => rw [e1] at hp; cases hp
    | some z1 =>
      cases e2 : zs[j]? with
      | none => rw [e2] at hq; cases hq
      | some z2 =>
        rw [e1] at hp
        rw [e2] at hq
        cases hp
        cases hq
        have pb : nI (ss.getD b 0) = z1 := pb
        have qb : nI (ss.getD b 0) = z2 := qb
        rw [← pb] at e1
        rw [← qb] at e2
        exact (List.getElem?_inj (List.getElem?_eq_some_iff.mp e1).1 nd).mp (e1.trans e2.symm)
  · obtain ⟨z, hz, rfl⟩ := List.mem_map.mp hp
    obtain ⟨s, hs, e⟩ := List.mem_map.mp ((hm z).1 hz)
    obtain ⟨b, hb, e2⟩ := List.getElem_of_mem hs
    refine ⟨b, by omega, ?_⟩
    show nI (ss.getD b 0) = z
    rw [List.getD_eq_getElem?_getD, List.getElem?_eq_getElem hb]
    show nI ss[b] = z
    rw [e2, e]
section
variable {P : Program} {w : World} {K : PySem.W.Frag} {mg : Str → Option Value} {base : Heap}
def spLook : Sp := fun vs H Q _ => ∃ (b c : Addr) (n : Nat), vs = [.ref b, vI n] ∧ Box b c H ∧ 1 ≤ n ∧ n ≤ 8 ∧ ∀ H' v L, LookAt n H' v L → LookOk n L → Kc c H H' → Box b c H' → Q v H'
theorem sc__law_look : FnScope ["_law_box_here", "_law_many", "_law_kind", "_law_parts", "_law_signs", "_law_lots", "_law_place", "_law_sign"] ["_law_box_here", "_law_many"] (defScope s__law_look) := ⟨rfl, rfl, rfl, by decide +kernel, rfl, by decide +kernel, by decide +kernel⟩
theorem ok_look (T : Tx K mg) : Has P w K mg base (He.ga K "_law_look") 3 ["_law_box_here", "_law_many"] spLook := by
  obtain ⟨⟨fd_law_pick, F_law_pick, b_law_pick⟩, kp_law_pick⟩ := ok_pick (P := P) (w := w) (base := base) T
  obtain ⟨⟨fd_law_lot, F_law_lot, b_law_lot⟩, kp_law_lot⟩ := ok_lot (P := P) (w := w) (base := base) T
  obtain ⟨⟨fd_law_from, F_law_from, b_law_from⟩, kp_law_from⟩ := ok_from (P := P) (w := w) (base := base) T
  obtain ⟨⟨fd_law_mixed, F_law_mixed, b_law_mixed⟩, kp_law_mixed⟩ := ok_mixed (P := P) (w := w) (base := base) T
  obtain ⟨fd, F⟩ := T.d__law_look
  refine ⟨⟨fd, F.ok sc__law_look (fun vs H Q E h => ?_) (fun cdv A outer s H vs Q E hr h => ?_), F.bindsN fun _ _ _ _ _ _ us hl => match us, hl with | [_, _], _ => rfl⟩, F.kp⟩
  · obtain ⟨b, c, n, rfl, _⟩ := h
    rfl
  · obtain ⟨b, c, n, rfl, B, n1, n8, h⟩ := h
    have hr_law_pick : Room 1 _ := hr.mono (by decide)
    have hr_law_lot : Room 2 _ := hr.mono (by decide)
    have hr_law_from : Room 2 _ := hr.mono (by decide)
    have hr_law_mixed : Room 2 _ := hr.mono (by decide)
    refine ⟨_, PSs.nox (pss_cons (ps_set (i := 2) sc__law_look.nd rfl (Or.inl rfl) (pe_call F_law_pick hr_law_pick rfl T.glo_law_pick kp_law_pick b_law_pick .nil pass0 (pa_cons (pv 0) (pa_cons pe_int pa_nil))))
      (pss_cons (ps_if (pt_cmpR op_eq (pv 2) pe_int (nomark _)) (pss_one (ps_ret (pe_tup (pa_cons pe_str (pa_cons (pe_call F_law_lot hr_law_lot rfl T.glo_law_lot kp_law_lot b_law_lot .nil pass0 (pa_cons (pv 0) (pa_cons (pv 1) pa_nil))) pa_nil))))) pss_nil)
      (pss_cons (ps_if (pt_cmpR op_eq (pv 2) pe_int (nomark _)) (pss_cons (ps_set (i := 3) sc__law_look.nd rfl (Or.inr rfl) (pe_call F_law_from hr_law_from rfl T.glo_law_from kp_law_from b_law_from .nil pass0 (pa_cons (pv 0) (pa_cons (pe_lst (pa_cons pe_int (pa_cons pe_int (pa_cons pe_int (pa_cons pe_int (pa_cons pe_int pa_nil)))))) pa_nil))))
      (pss_cons (ps_set (i := 4) sc__law_look.nd rfl (Or.inr rfl) (pe_lc (own := [("_law_place", 6)]) (g := (gName 6)) (tt := tYes) rfl sc__law_look.nd (pi_range1 (by rfl) T.free_range (pa_cons (pv 1) pa_nil)) (blkOk_by (by kernel_rfl)) (fun _ _ _ _ _ => (pg_name (i := 6) sc__law_look.nd rfl (Or.inl rfl))) (fun _ _ _ _ _ => pts_nil) (fun _ _ _ _ _ => (pe_call F_law_pick hr_law_pick rfl T.glo_law_pick kp_law_pick b_law_pick .nil pass0 (pa_cons (pv 0) (pa_cons (pv 3) pa_nil))))))
      (pss_cons (ps_setLc (i := 5) (own := [("_law_sign", 7)]) (g := (gName 7)) (tt := tYes) rfl sc__law_look.nd rfl rfl (sw_true rfl rfl rfl (by decide +kernel)) (piL (K := K) (pe_callB (sortS (w := w)) (by rfl) T.free_sorted (by decide +kernel) (pa_cons (pe_callTy (setLK (K := K) (w := w)) (by rfl) T.free_set (by decide +kernel) (pa_cons (pv 4) pa_nil)) pa_nil))) (blkOk_by (by kernel_rfl)) (fun _ _ _ _ _ => (pg_name (i := 7) sc__law_look.nd rfl (Or.inr rfl))) (fun _ _ _ _ _ => pts_nil) (fun _ _ _ _ _ => (pe_callTy (tupK (K := K)) (by rfl) T.free_tuple (by decide +kernel) (pa_cons (pe_lc (own := [("_law_place", 6)]) (g := (gName 6)) rfl sc__law_look.nd (pi_range1 (by rfl) T.free_range (pa_cons (pv 1) pa_nil)) (blkOk_by (by kernel_rfl)) (fun _ _ _ _ _ => (pg_name (i := 6) sc__law_look.nd rfl (Or.inl rfl))) (fun _ _ _ _ _ => (pts_one (pt_cmpR op_eq (pe_ix (ixL (K := K)) (pv 4) (pv 6) (fun _ _ => rfl)) (pv 7) (nomark _)))) (fun _ _ _ _ _ => (pv 6))) pa_nil))))
      (pss_one (ps_ret (pe_tup (pa_cons pe_str (pa_cons (pe_callTy (tupK (K := K)) (by rfl) T.free_tuple (by decide +kernel) (pa_cons (pe_call F_law_mixed hr_law_mixed rfl T.glo_law_mixed kp_law_mixed b_law_mixed .nil pass0 (pa_cons (pv 0) (pa_cons (pv 5) pa_nil))) pa_nil)) pa_nil)))))))) pss_nil)
      (pss_one (ps_ret (pe_tup (pa_cons pe_str (pa_cons (pe_call F_law_pick hr_law_pick rfl T.glo_law_pick kp_law_pick b_law_pick .nil pass0 (pa_cons (pv 0) (pa_cons (pv 1) pa_nil))) (pa_cons (pe_call F_law_from hr_law_from rfl T.glo_law_from kp_law_from b_law_from .nil pass0 (pa_cons (pv 0) (pa_cons (pe_lst (pa_cons pe_int (pa_cons pe_int (pa_cons pe_int (pa_cons pe_int (pa_cons pe_int (pa_cons pe_int (pa_cons pe_int (pa_cons pe_int pa_nil))))))))) pa_nil))) pa_nil))))))))), ?_⟩
    refine ⟨_, rfl, b, c, _, rfl, B, by decide, by decide, fun H1 i k1 B1 i0 i1 => ?_⟩
    refine ⟨_, rfl, rfl, _, rfl, ?_⟩
    refine ite2 (fun _ => ?_) (fun _ => ?_)
    · refine ⟨_, rfl, _, rfl, b, c, n, rfl, B1, n1, n8, fun H2 t p ht k2 B2 => ?_⟩
      refine ⟨(by show 2 ≤ sizeLine; decide), fun u hu => ?_⟩
      have s3 := same_upd (o := HO.tup [V.str "in", .ref t]) hu
      exact h _ (.ref u) (.lot p) ⟨u, t, rfl, upd_same, s3 _ _ ht⟩ trivial ((k1.trans k2).trans (kc_same s3)) (B2.same s3)
    refine ⟨_, rfl, rfl, _, rfl, ?_⟩
    refine ite2 (fun _ => ?_) (fun _ => ?_)
    · refine ⟨_, rfl, (by show 5 ≤ sizeLine; decide), fun l hl => ?_⟩
      have s2 := same_upd (o := HO.lst [V.int 1, V.int 2, V.int 3, V.int 4, V.int 8]) hl
      refine ⟨b, c, l, _, rfl, B1.same s2, upd_same, (B1.new hl).1, by decide, by decide, fun H3 v k3 B3 hv => ?_⟩
      obtain ⟨m, rfl, m1, m8⟩ : ∃ m : Nat, v = vI m ∧ 1 ≤ m ∧ m ≤ 8 := by
        simp only [List.mem_cons, List.not_mem_nil, or_false] at hv
        rcases hv with e | e | e | e | e <;> subst e
        · exact ⟨1, rfl, by decide, by decide⟩
        · exact ⟨2, rfl, by decide, by decide⟩
        · exact ⟨3, rfl, by decide, by decide⟩
        · exact ⟨4, rfl, by decide, by decide⟩
        · exact ⟨8, rfl, by decide, by decide⟩
      have k13 := (k1.trans (kc_same s2)).trans k3
      refine ⟨_, rfl, (n : Int), rfl, by omega, by omega, fun D hD => ?_⟩
      refine lc_relK (walk_range (lo := 0) (n := ((n : Nat) : Int).toNat)) (fun _ v _ => ∃ s : Nat, v = vI s) (by omega) B3 hD (fun _ _ _ _ h _ => h) (fun _ _ _ => trivial) ?_ ?_
      · rintro i x H4 H5 Nx hi k4 B4 ⟨rfl, rfl⟩ kk
        refine ⟨rfl, _, rfl, _, rfl, b, c, _, rfl, B4, by omega, by omega, fun H6 j k6 B6 j0 j1 => ?_⟩
        exact kk _ _ ⟨j.toNat, by show V.int j = V.int _; congr 1; omega⟩ k6 B6
      · intro H4 ys h4 ly hy k4 B4 Dc
        rw [Int.toNat_natCast] at ly
        obtain ⟨ss, l5, h5⟩ := beside (R := fun _ v (s : Nat) => v = vI s) ys 0 fun k y e => hy k y e
        have ey : ys = ss.map vI := ys_of l5 h5
        have ls : ss.length = n := by omega
        subst ey
        have k14 := k13.trans k4
        refine ⟨_, rfl, D, ss.map nI, rfl, SqL.of (by rw [← vI_map]; exact h4), by rw [List.length_map]; omega, fun d cc hd hcc _ => ?_⟩
        have s5 := same_upd (o := SetO w d (fun j => decide (j ∈ ss.map nI)) cc) hd
        rw [List.length_map] at hcc
        refine ⟨d, _, cc, rfl, upd_same, by omega, fun zs q r1 r2 r3 hq => ?_⟩
        have s6 := same_upd (o := HO.lst (zs.map V.int)) hq
        have hq6 : (L2.upd (L2.upd H4 d (SetO w d (fun j => decide (j ∈ ss.map nI)) cc)) q (.lst (zs.map V.int))) q = some (.lst (zs.map V.int)) := upd_same
        have s46 := s5.trans s6
        generalize L2.upd (L2.upd H4 d (SetO w d (fun j => decide (j ∈ ss.map nI)) cc)) q (.lst (zs.map V.int)) = H6 at s46 hq6
        clear s5 s6
        have h6 := s46 _ _ h4
        have mz : ∀ z, z ∈ zs ↔ z ∈ ss.map nI := fun z => (r2 z).trans decide_eq_true_iff
        have nz : zs.Nodup := r1.imp fun z => Int.ne_of_lt z
        refine ⟨q, rfl, ⟨_, SqL.of hq6⟩, fun D2 hD2 => ?_⟩
        have B6 := B4.same s46
        have D2c := (B6.new hD2).1
        refine lc_rel (walk_list (K := K) (a := q) (xs := zs.map V.int)) (fun k v H' => ∃ t : Addr, v = .ref t ∧ ∀ z, zs[k]? = some z → H' t = some (.tup ((lotP n (signP ss z)).map vI))) (by rw [List.length_map]; omega) hD2 (fun k v Ha Hb ⟨t, e, h'⟩ tk => ⟨t, e, fun z ez => tk _ _ (h' z ez)⟩) (fun H7 s7 => SqL.of (s7 _ _ hq6)) ?_ ?_
        · rintro i x H7 H8 Nx hi s7 ⟨rfl, hx⟩ kk
          obtain ⟨z, hz, rfl⟩ := get_mapV hx
          refine ⟨rfl, _, rfl, (n : Int), rfl, by omega, by omega, fun D3 hD3 => ?_⟩
          refine lc_filt (walk_range (lo := 0) (n := ((n : Nat) : Int).toNat)) (List.range n) (fun b => decide (nI (ss.getD b 0) = z)) (by simp) (by omega) hD3 (fun _ _ => trivial) ?_ ?_
          · rintro j b' y Ha Hb N1 N0 hb' sa ⟨rfl, rfl⟩ k1' k0'
            obtain ⟨bn, rfl⟩ : j < n ∧ b' = j := by
              obtain ⟨z1, z2⟩ := List.getElem?_eq_some_iff.mp hb'
              rw [List.getElem_range] at z2
              rw [List.length_range] at z1
              exact ⟨z1, z2.symm⟩
            have hs : ss[b']? = some (ss.getD b' 0) := by
              rw [List.getD_eq_getElem?_getD, List.getElem?_eq_getElem (by omega)]
              rfl
            refine ⟨rfl, _, rfl, _, rfl, D, _, _, _, rfl, rfl, SqL.of (sa _ _ (s7 _ _ h6)), at0 (get_map hs), ?_⟩
            refine ⟨_, rfl, rfl, _, rfl, ?_⟩
            have eb : decide (vI (ss.getD b' 0) = V.int z) = decide (nI (ss.getD b' 0) = z) := by
              rw [decide_eq_decide]
              exact ⟨fun e => V.int.inj e, fun e => by rw [← e]; rfl⟩
            show if decide (vI (ss.getD b' 0) = V.int z) = true then _ else _
            rw [eb]
            refine ite2 (fun z' => ⟨_, rfl, ?_⟩) (fun z' => k0' _ (by simpa using z') fun _ _ e => e)
            have := k1' _ z' fun _ _ e => e
            show N1 (V.int (0 + ((b' : Nat) : Int))) _
            rw [Int.zero_add]
            exact this
          · intro Ha ha sa
            refine ⟨D3, _, rfl, .inl ⟨SqL.of ha, fun t ht => ?_⟩⟩
            refine kk _ _ ⟨t, rfl, fun z' ez => ?_⟩ (sa.trans (same_upd ht))
            rw [hz] at ez
            cases ez
            rw [upd_same, filter_lot (p := signP ss z) (range_sorted n) fun b => by
              rw [List.mem_range, decide_eq_true_iff]
              rfl]
        · intro H7 ys2 h7 ly2 hy2 s7
          rw [List.length_map] at ly2
          obtain ⟨ts, lt, ht⟩ := beside (R := fun k v (t : Addr) => v = .ref t ∧ ∀ z, zs[k]? = some z → H7 t = some (.tup ((lotP n (signP ss z)).map vI))) ys2 0 fun k y e => by
            rw [Nat.zero_add]
            exact hy2 k y e
          have e2 : ys2 = (ts.zip zs).map fun q => V.ref q.1 := by
            refine ys_of (by rw [List.length_zip]; omega) fun k y a e1 e2 => ?_
            obtain ⟨z1, z2⟩ := List.getElem?_zip_eq_some.mp e2
            exact (ht k y a.1 e1 z1).1
          have hz : ∀ q ∈ ts.zip zs, H7 q.1 = some (.tup ((lotP n (signP ss q.2)).map vI)) := fun q hq => by
            obtain ⟨k, hk, e⟩ := List.getElem_of_mem hq
            have ek : (ts.zip zs)[k]? = some q := by rw [List.getElem?_eq_getElem hk, e]
            obtain ⟨z1, z2⟩ := List.getElem?_zip_eq_some.mp ek
            have yk : ys2[k]? = some (ys2[k]'(by rw [List.length_zip] at hk; omega)) := List.getElem?_eq_getElem _
            exact (ht k _ q.1 yk z1).2 q.2 (by rw [Nat.zero_add]; exact z2)
          subst e2
          have B7 := B6.same s7
          have lzs : zs.length ≤ n := by omega
          refine ⟨_, rfl, _, rfl, b, c, D2, _, rfl, B7, h7, D2c, by rw [List.length_map, List.length_zip]; omega, fun H8 p ys' pm hp pc k8 B8 => ?_⟩
          obtain ⟨qs, rfl, pq⟩ := perm_map pm
          have mq : (qs.map (·.2)).Perm zs := by
            have := pq.map (·.2)
            rwa [show (ts.zip zs).map (·.2) = zs from List.map_snd_zip (by omega)] at this
          refine ⟨p, _, rfl, .inl ⟨SqL.of hp, fun u hu => ?_⟩⟩
          have s9 := same_upd (o := HO.tup (qs.map fun q => V.ref q.1)) hu
          have hu9 : (L2.upd H8 u (.tup (qs.map fun q => V.ref q.1))) u = some (.tup (qs.map fun q => V.ref q.1)) := upd_same
          generalize L2.upd H8 u (.tup (qs.map fun q => V.ref q.1)) = H9 at s9 hu9
          refine ⟨(by show 2 ≤ sizeLine; decide), fun t ht2 => ?_⟩
          have s10 := same_upd (o := HO.tup [V.str "parts", .ref u]) ht2
          have tks : TK H7 (L2.upd H9 t (.tup [V.str "parts", .ref u])) := (k8.tk B7.lst).trans (tk_same (s9.trans s10))
          refine h _ (.ref t) (.parts ((qs.map (·.2)).map (signP ss))) ⟨t, u, qs.map (·.1), rfl, upd_same, s10 _ _ (by rw [hu9, List.map_map]; rfl), by simp, fun k a p' e1 e2 => ?_⟩ (parts_ok ls (mq.nodup_iff.mpr nz) (fun z => mq.mem_iff.trans (mz z)) (by rw [mq.length_eq]; exact lzs))
            (((k14.trans (kc_same (s46.trans s7))).trans k8).trans (kc_same (s9.trans s10))) (B8.same (s9.trans s10))
          rw [List.getElem?_map] at e1
          rw [List.getElem?_map, List.getElem?_map] at e2
          cases e : qs[k]? with
          | none => rw [e] at e1; cases e1
          | some q' =>
            rw [e] at e1 e2
            cases e1
            cases e2
            exact tks _ _ (hz q' (pq.mem_iff.mp (List.mem_of_getElem? e)))
    · refine ⟨_, rfl, _, rfl, b, c, _, rfl, B1, by omega, by omega, fun H2 x k2 B2 x0 x1 => ?_⟩
      refine ⟨_, rfl, (by show 8 ≤ sizeLine; decide), fun l hl => ?_⟩
      have s3 := same_upd (o := HO.lst [V.int 0, V.int 1, V.int 2, V.int 7, V.int 3, V.int 4, V.int 5, V.int 6]) hl
      refine ⟨b, c, l, _, rfl, B2.same s3, upd_same, (B2.new hl).1, by decide, by decide, fun H4 v k4 B4 hv => ?_⟩
      obtain ⟨m, rfl, m7⟩ := menu_small hv (by decide)
      refine ⟨(by show 3 ≤ sizeLine; decide), fun t ht => ?_⟩
      have s5 := same_upd (o := HO.tup [V.str "near", .int x, vI m]) ht
      obtain ⟨d, rfl⟩ : ∃ d : Nat, x = (d : Nat) := ⟨x.toNat, by omega⟩
      exact h _ (.ref t) (.near d m) ⟨t, rfl, upd_same⟩ ⟨by omega, m7⟩ ((((k1.trans k2).trans (kc_same s3)).trans k4).trans (kc_same s5)) (B4.same s5)
end
end RL
namespace RL
open PySem PySem.Spec PyProof.Rows L2 RLM
theorem LotsAt.same {n : Nat} {H H' : Hp} {D : Addr} {m : Nat} {p : Nat → Nat → Prop} (s : Same H H') (h : LotsAt n H D m p) : LotsAt n H' D m p := by
  obtain ⟨us, h1, l1, r1⟩ := h.ex
  exact ⟨⟨us, s _ _ h1, l1, fun k v e => s _ _ (r1 k v e)⟩⟩
/-- two lists of the same lots are alike -/
theorem lots_same {n m : Nat} {H : Hp} {a b : Addr} {p : Nat → Nat → Prop} (n8 : n ≤ 8) (m13 : m ≤ 13) (ha : LotsAt n H a m p) (hb : LotsAt n H b m p) : SameV 2 H (.ref a) (.ref b) := by
  obtain ⟨us, h1, l1, r1⟩ := ha.ex
  obtain ⟨vs, h2, l2, r2⟩ := hb.ex
  refine .inr ⟨a, b, _, _, rfl, rfl, .inl ⟨.inl h1, .inl h2⟩, by simp [l1, l2], by rw [List.length_map]; omega, fun k x y e1 e2 => ?_⟩
  obtain ⟨u, hu, rfl⟩ := get_mapV e1
  obtain ⟨v, hv, rfl⟩ := get_mapV e2
  refine .inr ⟨u, v, _, _, rfl, rfl, .inr ⟨.inl (r1 k u hu), .inl (r2 k v hv)⟩, rfl, ?_, fun j x y e1 e2 => ?_⟩
  · rw [List.length_map]
    have := lotP_len n (p k)
    omega
  · rw [e1] at e2
    cases e2
    obtain ⟨z, _, rfl⟩ := get_mapV e1
    exact ⟨rfl, .inl ⟨_, rfl⟩⟩
end RL
namespace RL
open PySem PySem.Spec PyProof.Rows L2 RLM
/-- the lots known -/
def KnownP (n : Nat) (p : Nat → Prop) (E : List (Nat × Nat)) (PS : List (Addr × List Nat)) (O : Nat → Nat → Prop) (i b : Nat) : Prop := ForthP n p (stepR E PS) O i b ∧ BackP n PS.length (stepR E PS) O (PS.length - i) b
/-- what a list of refs to lots is, from what each is -/
theorem lots_of {n m : Nat} {H : Hp} {D : Addr} {ys : List V} {p : Nat → Nat → Prop} (h : H D = some (.lst ys)) (l : ys.length = m) (hy : ∀ k y, ys[k]? = some y → ∃ t : Addr, y = .ref t ∧ H t = some (.tup ((lotP n (p k)).map vI))) : LotsAt n H D m p := by
  obtain ⟨us, lu, hu⟩ := beside (R := fun k y (t : Addr) => y = .ref t ∧ H t = some (.tup ((lotP n (p k)).map vI))) ys 0 fun k y e => by
    rw [Nat.zero_add]
    exact hy k y e
  have e : ys = us.map V.ref := ys_of lu fun k y a e1 e2 => (hu k y a e1 e2).1
  refine ⟨⟨us, by rw [h, e], by omega, fun i u eu => ?_⟩⟩
  have yi : ys[i]? = some (ys[i]'(by have := (List.getElem?_eq_some_iff.mp eu).1; omega)) := List.getElem?_eq_getElem _
  have := (hu i _ u yi eu).2
  rw [Nat.zero_add] at this
  exact this
section
variable {P : Program} {w : World} {K : PySem.W.Frag} {mg : Str → Option Value} {base : Heap}
/-- [meet(a, b) for a, b in zip(xs, ys)] of two rows of lots: what is in both -/
theorem zip_both {n m : Nat} {H : Hp} {a b D : Addr} {p q : Nat → Nat → Prop} {g : TG} {te : TE} {vs : List Nat} {σ : L2.St} {Qd : Hp → Prop} (ha : LotsAt n H a m p) (hb : LotsAt n H b m q) (m13 : m ≤ 13) (hD : H D = none)
    (hs : ∀ (i : Nat) (H1 H2 : Hp) (u v T1 : Addr) (Nx : V → Hp → Prop), Same H H1 → Same H1 H2 → H2 T1 = some (.tup [.ref u, .ref v]) → H2 u = some (.tup ((lotP n (p i)).map vI)) → H2 v = some (.tup ((lotP n (q i)).map vI)) → (∀ H4 t, H4 t = some (.tup ((lotP n fun b => p i b ∧ q i b).map vI)) → Same H2 H4 → Nx (.ref t) H4) →
      g (.ref T1) (wipe σ vs) H2 fun σ2 H3 => wipe σ2 vs = wipe σ vs ∧ te σ2 H3 Nx)
    (hd : ∀ H1, LotsAt n H1 D m (fun i b => p i b ∧ q i b) → Same H H1 → Qd H1) :
    ∃ W : Nat → Nat → Hp → Prop, (∃ m, W 0 m (upd H D (.lst []))) ∧ ∀ i m H, W i m H →
      ((Itzh false false K a b).stop i H ∧ Qd H) ∨ ((Itzh false false K a b).go i H ∧ ∃ Nx : Hp → Prop, (∀ H', Nx H' → ∃ m', m' < m ∧ W (i + 1) m' H') ∧ ∀ x H', (Itzh false false K a b).yld i H x H' → g x (wipe σ vs) H' fun σ2 H2 => wipe σ2 vs = wipe σ vs ∧ tYes σ2 H2 fun b H3 =>
        if b = true then te σ2 H3 fun y H4 => ∃ acc, H4 D = some (.lst acc) ∧ acc.length < sizeLine ∧ Nx (upd H4 D (.lst (acc ++ [y]))) else Nx H3) := by
  obtain ⟨us, h1, l1, r1⟩ := ha.ex
  obtain ⟨ws, h2, l2, r2⟩ := hb.ex
  refine lc_rel (walk_zh (u1 := false) (u2 := false) (K := K) (a := a) (b := b) (xs := us.map V.ref) (ys := ws.map V.ref) (n := m) (by simp [l1, l2])) (fun k v H' => ∃ t : Addr, v = .ref t ∧ H' t = some (.tup ((lotP n fun b => p k b ∧ q k b).map vI))) (by omega) hD (fun k v Ha Hb ⟨t, e, h'⟩ tk => ⟨t, e, tk _ _ h'⟩) (fun H1 s1 => ⟨SqL.of (s1 _ _ h1), SqL.of (s1 _ _ h2)⟩) ?_ ?_
  · rintro i x H1 H2 Nx hi s1 ⟨T1, y1, y2, rfl, hT, rfl, e1, e2⟩ k
    obtain ⟨u, hu, rfl⟩ := get_mapV (show (us.map V.ref)[i]? = some y1 from e1)
    obtain ⟨v, hv, rfl⟩ := get_mapV (show (ws.map V.ref)[i]? = some y2 from e2)
    have s2 : Same H1 (upd H1 T1 (.tup [.ref u, .ref v])) := same_upd hT
    exact hs i H1 _ u v T1 Nx s1 s2 upd_same (s2 _ _ (s1 _ _ (r1 i u hu))) (s2 _ _ (s1 _ _ (r2 i v hv))) fun H4 t ht s4 => k _ _ ⟨t, rfl, ht⟩ (s2.trans s4)
  · intro H1 ys h3 l3 hy s1
    exact hd H1 (lots_of h3 l3 hy) s1
def spKnown (K : PySem.W.Frag) : Sp := fun vs H Q _ => ∃ (c x s : Addr) (n : Nat) (E : List (Nat × Nat)) (M : Nat → Nat → Nat) (p : Nat → Prop) (PS : List (Addr × List Nat)) (SN : List (Addr × V × Triple)), vs = [.ref x, .ref s] ∧ BoardAt K c H x n E ∧ Spans n E M ∧ StoryAt n H s p PS SN ∧ (∃ a, a < n ∧ p a) ∧
  ∀ H' l, LotsAt n H' l (PS.length + 1) (KnownP n p E PS (openP M SN)) → H l = none → Same H H' → Q (.ref l) H'
end
end RL
namespace RL
open PySem PySem.Spec PyProof.Rows L2 RLM
theorem LookAt.tk {n : Nat} {H H' : Hp} {v : V} (k : TK H H') : ∀ {L : Look}, LookAt n H v L → LookAt n H' v L
  | .lot _, ⟨t, u, e, h1, h2⟩ => ⟨t, u, e, k _ _ h1, k _ _ h2⟩
  | .parts _, ⟨t, u, us, e, h1, h2, l, h3⟩ => ⟨t, u, us, e, k _ _ h1, k _ _ h2, l, fun i a p e1 e2 => k _ _ (h3 i a p e1 e2)⟩
  | .near _ _, ⟨t, e, h1⟩ => ⟨t, e, k _ _ h1⟩
theorem TripAt.tk {n : Nat} {H H' : Hp} {q : Addr × V × Triple} (k : TK H H') (h : TripAt n H q) : TripAt n H' q := ⟨k _ _ h.1, h.2.1.tk k, h.2.2⟩
theorem StoryAt.tk {n : Nat} {H H' : Hp} {a : Addr} {p : Nat → Prop} {PS : List (Addr × List Nat)} {SN : List (Addr × V × Triple)} (k : TK H H') (h : StoryAt n H a p PS SN) : StoryAt n H' a p PS SN := by
  obtain ⟨tl, tp, ts, h1, h2, h3, h4⟩ := h.ex
  exact ⟨⟨tl, tp, ts, k _ _ h1, k _ _ h2, k _ _ h3, k _ _ h4⟩, fun q hq => ⟨k _ _ (h.pc q hq).1, (h.pc q hq).2⟩, fun q hq => ⟨(h.sn q hq).1.tk k, (h.sn q hq).2⟩, h.lp, h.ls⟩
theorem kc_lst {c a : Addr} {H H' : Hp} {xs : List V} (k : Kc c H H') (n : a ≠ c) (h : H a = some (.lst xs)) : H' a = some (.lst xs) := k _ _ n (fun _ z => by cases z) h
section
variable {P : Program} {w : World} {K : PySem.W.Frag} {mg : Str → Option Value} {base : Heap}
def spSeen : Sp := fun vs H Q _ => ∃ (b c t l D wk : Addr) (n m : Nat) (rs : List Addr) (M : Nat → Nat → Nat) (ws : List Nat), vs = [.ref b, .ref t, .ref D, .ref wk, vI m] ∧ Box b c H ∧ H t = some (.tup [vI n, .ref l]) ∧ 1 ≤ n ∧ n ≤ 8 ∧ TabAt c H D n rs M ∧ H wk = some (.lst (ws.map vI)) ∧ wk ≠ c ∧ 1 ≤ ws.length ∧ ws.length ≤ 13 ∧ (∀ a ∈ ws, a < n) ∧ m ≤ 24 ∧
  ∀ (H' : Hp) (ts : Addr) (SN : List (Addr × V × Triple)), H' ts = some (.tup (SN.map fun q => V.ref q.1)) → (∀ q ∈ SN, TripAt n H' q ∧ q.2.2.beat < ws.length) → SN.length ≤ m → Kc c H H' → Box b c H' → Q (.ref ts) H'
theorem sc__law_seen : FnScope ["_law_box_here", "_law_board_here", "_law_spans_here", "_law_walk", "_law_most", "_law_many", "_law_rows", "_law_k", "_law_beat", "_law_look_here", "_law_answer_here"] ["_law_box_here", "_law_board_here", "_law_spans_here", "_law_walk", "_law_most"] (defScope s__law_seen) := ⟨rfl, rfl, rfl, by decide +kernel, rfl, by decide +kernel, by decide +kernel⟩
theorem ok_seen (T : Tx K mg) : Has P w K mg base (He.ga K "_law_seen") 4 ["_law_box_here", "_law_board_here", "_law_spans_here", "_law_walk", "_law_most"] spSeen := by
  obtain ⟨⟨fd_law_pick, F_law_pick, b_law_pick⟩, kp_law_pick⟩ := ok_pick (P := P) (w := w) (base := base) T
  obtain ⟨⟨fd_law_look, F_law_look, b_law_look⟩, kp_law_look⟩ := ok_look (P := P) (w := w) (base := base) T
  obtain ⟨⟨fd_law_answer, F_law_answer, b_law_answer⟩, kp_law_answer⟩ := ok_answer (P := P) (w := w) (base := base) T
  obtain ⟨fd, F⟩ := T.d__law_seen
  refine ⟨⟨fd, F.ok sc__law_seen (fun vs H Q E h => ?_) (fun cdv A outer s H vs Q E hr h => ?_), F.bindsN fun _ _ _ _ _ _ us hl => match us, hl with | [_, _, _, _, _], _ => rfl⟩, F.kp⟩
  · obtain ⟨b, c, t, l, D, wk, n, m, rs, M, ws, rfl, _⟩ := h
    rfl
  · obtain ⟨b, c, t, l, D, wk, n, m, rs, M, ws, rfl, B, ht, n1, n8, TA, hw, wc, w1, w13, wn, m24, h⟩ := h
    have hr_law_pick : Room 1 _ := hr.mono (by decide)
    have hr_law_look : Room 3 _ := hr.mono (by decide)
    have hr_law_answer : Room 1 _ := hr.mono (by decide)
    refine ⟨_, PSs.nox (pss_cons (ps_par (i := 5) (j := 6) rfl sc__law_seen.nd rfl rfl (by decide) rfl rfl (pa_cons (pe_ix (ixT (K := K)) (pv 1) pe_int (fun _ _ => rfl)) (pa_cons (pe_lst pa_nil) pa_nil)) (by rfl))
      (pss_cons (ps_for PassesOwn.never rfl (pi_range1 (by rfl) T.free_range (pa_cons (pe_call F_law_pick hr_law_pick rfl T.glo_law_pick kp_law_pick b_law_pick .nil pass0 (pa_cons (pv 0) (pa_cons (pe_op op_add (pv 4) pe_int) pa_nil))) pa_nil)) (pg_name (i := 7) sc__law_seen.nd rfl (Or.inl rfl)) (pss_cons (ps_par (i := 8) (j := 9) rfl sc__law_seen.nd rfl rfl (by decide) rfl rfl (pa_cons (pe_call F_law_pick hr_law_pick rfl T.glo_law_pick kp_law_pick b_law_pick .nil pass0 (pa_cons (pv 0) (pa_cons (pe_callB (lenK (K := K)) (by rfl) T.free_len (by decide +kernel) (pa_cons (pv 3) pa_nil)) pa_nil))) (pa_cons (pe_call F_law_look hr_law_look rfl T.glo_law_look kp_law_look b_law_look .nil pass0 (pa_cons (pv 0) (pa_cons (pv 5) pa_nil))) pa_nil)) (by rfl))
      (pss_cons (ps_set (i := 10) sc__law_seen.nd rfl (Or.inl rfl) (pe_call F_law_answer hr_law_answer rfl T.glo_law_answer kp_law_answer b_law_answer .nil pass0 (pa_cons (pv 2) (pa_cons (pv 9) (pa_cons (pe_ix (ixL (K := K)) (pv 3) (pv 8) (fun _ _ => rfl)) pa_nil)))))
      (C8.pss_cut (ps_if (pt_cmpR op_eq (pe_call F_law_pick hr_law_pick rfl T.glo_law_pick kp_law_pick b_law_pick .nil pass0 (pa_cons (pv 0) (pa_cons pe_int pa_nil))) pe_int (nomark _)) (pss_one (ps_set (i := 10) sc__law_seen.nd rfl (Or.inl rfl) (pe_call F_law_answer hr_law_answer rfl T.glo_law_answer kp_law_answer b_law_answer .nil pass0 (pa_cons (pv 2) (pa_cons (pv 9) (pa_cons (pe_call F_law_pick hr_law_pick rfl T.glo_law_pick kp_law_pick b_law_pick .nil pass0 (pa_cons (pv 0) (pa_cons (pv 5) pa_nil))) pa_nil)))))) pss_nil)
      (pss_one (ps_expr (bmK (K := K) PySem.F.plainAttrs_list PySem.F.slot_list_append PySem.F.type_list_append mt_append (pv 6) (pa_cons (pe_tup (pa_cons (pv 8) (pa_cons (pv 9) (pa_cons (pv 10) pa_nil)))) pa_nil))))))))
      (pss_one (ps_ret (pe_callTy (tupK (K := K)) (by rfl) T.free_tuple (by decide +kernel) (pa_cons (pv 6) pa_nil)))))), ?_⟩
    refine ⟨_, rfl, t, _, 0, _, rfl, rfl, SqT.of ht, rfl, Nat.zero_le _, fun rw_ hrw => ?_⟩
    have s0 : Same H (L2.upd H rw_ (.lst [])) := same_upd hrw
    have rc := (B.new hrw).1
    have rb := (B.new hrw).2
    refine ⟨_, _, rfl, _, rfl, _, rfl, _, _, rfl, rfl, b, c, _, rfl, B.same s0, by omega, by omega, fun H1 x k1 B1 x0 x1 => ?_⟩
    have k01 := (kc_same s0).trans k1
    refine ⟨_, rfl, by omega, by omega, for_range (lo := 0) (n := x.toNat) (fun i σ H2 => ∃ (v7 v8 v9 v10 : Option V) (SN : List (Addr × V × Triple)), σ = [some (.ref b), some (.ref t), some (.ref D), some (.ref wk), some (vI m), some (vI n), some (.ref rw_), v7, v8, v9, v10] ∧ H2 rw_ = some (.lst (SN.map fun q => V.ref q.1)) ∧ SN.length = i ∧ (∀ q ∈ SN, TripAt n H2 q ∧ q.2.2.beat < ws.length) ∧ Kc c H H2 ∧ Box b c H2) ?_ ?_ ?_⟩
    · exact ⟨none, none, none, none, [], rfl, kc_lst k1 rc upd_same, rfl, by simp, k01, B1⟩
    · rintro i σ H2 hi ⟨v7, v8, v9, v10, SN, rfl, h2, l2, t2, k2, B2⟩
      refine ⟨_, rfl, _, rfl, wk, _, rfl, .inl (SqL.of (kc_lst k2 wc hw)), b, c, _, rfl, B2, by rw [List.length_map]; omega, by rw [List.length_map]; omega, fun H3 y k3 B3 y0 y1 => ?_⟩
      rw [List.length_map] at y1
      obtain ⟨j, rfl⟩ : ∃ j : Nat, y = (j : Nat) := ⟨y.toNat, by omega⟩
      have jl : j < ws.length := by omega
      have hj : ws[j]? = some ws[j] := List.getElem?_eq_getElem jl
      refine ⟨_, rfl, _, rfl, b, c, n, rfl, B3, n1, n8, fun H4 v L LA LO k4 B4 => ?_⟩
      have k24 := (k2.trans k3).trans k4
      refine ⟨_, _, rfl, _, rfl, _, rfl, _, rfl, _, rfl, wk, _, _, _, rfl, rfl, SqL.of (kc_lst k24 wc hw), atI_nat (get_map hj), ?_⟩
      refine ⟨c, D, v, n, ws[j], rs, M, L, rfl, n8, TA.keep k24, LA, LO, wn _ (List.getElem_mem jl), fun H5 s5 => ?_⟩
      have k5 := k24.trans (kc_same s5)
      have h5 : H5 rw_ = some (.lst (SN.map fun q => V.ref q.1)) := s5 _ _ (kc_lst (k3.trans k4) rc h2)
      have t5 : TK H2 H5 := ((k3.trans k4).tk B2.lst).trans (tk_same s5)
      refine ⟨fun σ H6 => ∃ (a : Nat), σ = [some (.ref b), some (.ref t), some (.ref D), some (.ref wk), some (vI m), some (vI n), some (.ref rw_), some (.int (0 + (i : Nat))), some (vI j), some v, some (vI a)] ∧ Kc c H5 H6 ∧ Box b c H6, ?_, ?_⟩
      · refine ⟨_, rfl, b, c, _, rfl, B4.same s5, by decide, by decide, fun H6 z k6 B6 z0 z1 => ?_⟩
        refine ⟨rfl, _, rfl, ?_⟩
        refine ite2 (fun _ => ?_) (fun _ => ⟨_, rfl, k6, B6⟩)
        refine ⟨_, rfl, _, rfl, _, rfl, _, rfl, b, c, _, rfl, B6, by omega, by omega, fun H7 u k7 B7 u0 u1 => ?_⟩
        obtain ⟨d, rfl⟩ : ∃ d : Nat, u = (d : Nat) := ⟨u.toNat, by omega⟩
        refine ⟨c, D, v, n, d, rs, M, L, rfl, n8, TA.keep ((k5.trans k6).trans k7), (LA.same s5).tk ((k6.trans k7).tk (B4.same s5).lst), LO, by omega, fun H8 s8 => ?_⟩
        exact ⟨_, rfl, (k6.trans k7).trans (kc_same s8), B7.same s8⟩
      · rintro σ H6 ⟨a, rfl, k6, B6⟩
        have h6 := kc_lst k6 rc h5
        have tk6 : TK H5 H6 := k6.tk (B4.same s5).lst
        refine ⟨_, rfl, .inl ⟨rfl, _, SqL.of h6⟩, _, rfl, _, rfl, _, rfl, (by show 3 ≤ sizeLine; decide), fun q hq => ?_⟩
        have s7 := same_upd (o := HO.tup [vI j, v, vI a]) hq
        have h7 := s7 _ _ h6
        have hq7 : (L2.upd H6 q (.tup [vI j, v, vI a])) q = some (.tup [vI j, v, vI a]) := upd_same
        generalize L2.upd H6 q (.tup [vI j, v, vI a]) = H7 at s7 h7 hq7
        refine ⟨rw_, _, _, rfl, rfl, h7, ?_, ?_⟩
        · rw [List.length_map]
          exact Nat.lt_of_le_of_lt (show SN.length ≤ 24 by omega) (by decide)
        have tk8 : ∀ {o : List V}, TK H7 (L2.upd H7 rw_ (.lst o)) := fun {o} => tk_lst h7
        refine ⟨_, _, _, _, SN ++ [(q, v, ⟨j, L, a⟩)], rfl, ?_, by simp [l2], fun q' hq' => ?_, ?_, (B6.same s7).upd rc rb⟩
        · rw [upd_same, List.map_append]
          rfl
        · rcases List.mem_append.mp hq' with z | z
          · exact ⟨(t2 q' z).1.tk (t5.trans (tk6.trans ((tk_same s7).trans tk8))), (t2 q' z).2⟩
          · rw [List.mem_singleton.mp z]
            exact ⟨⟨tk8 _ _ hq7, (LA.same s5).tk (tk6.trans ((tk_same s7).trans tk8)), LO⟩, jl⟩
        · exact ((k5.trans k6).trans (kc_same s7)).upd hrw
    · rintro σ H2 ⟨v7, v8, v9, v10, SN, rfl, h2, l2, t2, k2, B2⟩
      refine ⟨_, rfl, rw_, _, rfl, .inl ⟨SqL.of h2, fun u hu => ?_⟩⟩
      have s3 := same_upd (o := HO.tup (SN.map fun q => V.ref q.1)) hu
      exact h _ u SN upd_same (fun q hq => ⟨(t2 q hq).1.same s3, (t2 q hq).2⟩) (by omega) (k2.trans (kc_same s3)) (B2.same s3)
end
end RL
namespace RL
open PySem PySem.Spec PyProof.Rows L2 RLM
/-- what is new now is not among what was to be kept -/
theorem kc_new {c p : Addr} {H H1 : Hp} (k : Kc c H H1) (h : H1 p = none) (n : p ≠ c) : ∀ o : HO, (∀ kvs, o ≠ .dK kvs) → H p ≠ some o := fun o hk e => by
  have := k p o n hk e
  rw [h] at this
  cases this
theorem Kc.put {c p : Addr} {H H2 : Hp} {o : HO} (k : Kc c H H2) (h : ∀ o : HO, (∀ kvs, o ≠ .dK kvs) → H p ≠ some o) : Kc c H (L2.upd H2 p o) := fun a u h1 h2 e => by
  have ne : a ≠ p := fun z => by
    rw [z] at e
    exact h u h2 e
  rw [upd_ne ne]
  exact k a u h1 h2 e
section
variable {P : Program} {w : World} {K : PySem.W.Frag} {mg : Str → Option Value} {base : Heap}
def spStory : Sp := fun vs H Q _ => ∃ (b c t l D : Addr) (n i m : Nat) (rs : List Addr) (M : Nat → Nat → Nat) (E : List (Nat × Nat)), vs = [.ref b, .ref t, .ref D, vI i, vI m] ∧ Box b c H ∧ H t = some (.tup [vI n, .ref l]) ∧ 1 ≤ n ∧ n ≤ 8 ∧ TabAt c H D n rs M ∧ Spans n E M ∧ i ≤ 12 ∧ m ≤ 24 ∧
  ∀ (H' : Hp) (s : Addr) (p : Nat → Prop) (PS : List (Addr × List Nat)) (SN : List (Addr × V × Triple)), StoryAt n H' s p PS SN → (∃ a, a < n ∧ p a) → PS.length = i → SN.length ≤ m → Kc c H H' → Box b c H' → Q (.ref s) H'
theorem sc__law_story : FnScope ["_law_box_here", "_law_board_here", "_law_spans_here", "_law_beats", "_law_most", "_law_many", "_law_lot_here", "_law_paces", "_law_walk", "_law_pace_here", "_law_k"] ["_law_box_here", "_law_board_here", "_law_spans_here", "_law_beats", "_law_most"] (defScope s__law_story) := ⟨rfl, rfl, rfl, by decide +kernel, rfl, by decide +kernel, by decide +kernel⟩
theorem ok_story (T : Tx K mg) : Has P w K mg base (He.ga K "_law_story") 5 ["_law_box_here", "_law_board_here", "_law_spans_here", "_law_beats", "_law_most"] spStory := by
  obtain ⟨⟨fd_law_start, F_law_start, b_law_start⟩, kp_law_start⟩ := ok_start (P := P) (w := w) (base := base) T
  obtain ⟨⟨fd_law_pace, F_law_pace, b_law_pace⟩, kp_law_pace⟩ := ok_pace (P := P) (w := w) (base := base) T
  obtain ⟨⟨fd_law_from, F_law_from, b_law_from⟩, kp_law_from⟩ := ok_fromT (P := P) (w := w) (base := base) T
  obtain ⟨⟨fd_law_reached, F_law_reached, b_law_reached⟩, kp_law_reached⟩ := ok_reached (P := P) (w := w) (base := base) T
  obtain ⟨⟨fd_law_seen, F_law_seen, b_law_seen⟩, kp_law_seen⟩ := ok_seen (P := P) (w := w) (base := base) T
  obtain ⟨fd, F⟩ := T.d__law_story
  refine ⟨⟨fd, F.ok sc__law_story (fun vs H Q E h => ?_) (fun cdv A outer s H vs Q E hr h => ?_), F.bindsN fun _ _ _ _ _ _ us hl => match us, hl with | [_, _, _, _, _], _ => rfl⟩, F.kp⟩
  · obtain ⟨b, c, t, l, D, n, i, m, rs, M, E, rfl, _⟩ := h
    rfl
  · obtain ⟨b, c, t, l, D, n, i, m, rs, M, E, rfl, B, ht, n1, n8, TA, S, i12, m24, h⟩ := h
    have hr_law_start : Room 3 _ := hr.mono (by decide)
    have hr_law_pace : Room 3 _ := hr.mono (by decide)
    have hr_law_from : Room 2 _ := hr.mono (by decide)
    have hr_law_reached : Room 1 _ := hr.mono (by decide)
    have hr_law_seen : Room 4 _ := hr.mono (by decide)
    refine ⟨_, PSs.nox (pss_cons (ps_set (i := 5) sc__law_story.nd rfl (Or.inr rfl) (pe_ix (ixT (K := K)) (pv 1) pe_int (fun _ _ => rfl)))
      (pss_cons (ps_par (i := 6) (j := 7) rfl sc__law_story.nd rfl rfl (by decide) rfl rfl (pa_cons (pe_call F_law_start hr_law_start rfl T.glo_law_start kp_law_start b_law_start .nil pass0 (pa_cons (pv 0) (pa_cons (pv 5) pa_nil))) (pa_cons (pe_callTy (tupK (K := K)) (by rfl) T.free_tuple (by decide +kernel) (pa_cons (pe_lc (own := [("_law_k", 10)]) (g := (gName 10)) (tt := tYes) rfl sc__law_story.nd (pi_range1 (by rfl) T.free_range (pa_cons (pv 3) pa_nil)) (blkOk_by (by kernel_rfl)) (fun _ _ _ _ _ => (pg_name (i := 10) sc__law_story.nd rfl (Or.inl rfl))) (fun _ _ _ _ _ => pts_nil) (fun _ _ _ _ _ => (pe_call F_law_pace hr_law_pace rfl T.glo_law_pace kp_law_pace b_law_pace .nil pass0 (pa_cons (pv 0) (pa_cons (pv 5) pa_nil))))) pa_nil)) pa_nil)) (by rfl))
      (pss_cons (ps_set (i := 8) sc__law_story.nd rfl (Or.inl rfl) (pe_lst (pa_cons (pe_call F_law_from hr_law_from rfl T.glo_law_from kp_law_from b_law_from .nil pass0 (pa_cons (pv 0) (pa_cons (pv 6) pa_nil))) pa_nil)))
      (pss_cons (ps_for PassesOwn.never rfl (piT (K := K) (pv 7)) (pg_name (i := 9) sc__law_story.nd rfl (Or.inl rfl)) (pss_one (ps_expr (bmK (K := K) PySem.F.plainAttrs_list PySem.F.slot_list_append PySem.F.type_list_append mt_append (pv 8) (pa_cons (pe_call F_law_from hr_law_from rfl T.glo_law_from kp_law_from b_law_from .nil pass0 (pa_cons (pv 0) (pa_cons (pe_call F_law_reached hr_law_reached rfl T.glo_law_reached kp_law_reached b_law_reached .nil pass0 (pa_cons (pv 2) (pa_cons (pv 9) (pa_cons (pe_tup (pa_cons (pe_ix (ixL (K := K)) (pv 8) (pe_un un_neg pe_int) (fun _ _ => rfl)) pa_nil)) pa_nil)))) pa_nil))) pa_nil)))))
      (pss_one (ps_ret (pe_tup (pa_cons (pv 6) (pa_cons (pv 7) (pa_cons (pe_call F_law_seen hr_law_seen rfl T.glo_law_seen kp_law_seen b_law_seen .nil pass0 (pa_cons (pv 0) (pa_cons (pv 1) (pa_cons (pv 2) (pa_cons (pv 8) (pa_cons (pv 4) pa_nil)))))) pa_nil)))))))))), ?_⟩
    refine ⟨_, rfl, t, _, 0, _, rfl, rfl, SqT.of ht, rfl, ?_⟩
    refine ⟨_, rfl, _, rfl, b, c, n, rfl, B, n1, n8, fun H1 tl p htl ⟨a0, a0n, pa0⟩ k1 B1 => ?_⟩
    refine ⟨_, rfl, _, rfl, by omega, by omega, fun D1 hD1 => ?_⟩
    refine lc_relK (walk_range (lo := 0) (n := ((i : Nat) : Int).toNat)) (fun _ v H' => ∃ (t : Addr) (ps : List Nat), v = .ref t ∧ PaceOk n ps ∧ H' t = some (.tup (ps.map vI))) (by omega) B1 hD1 (fun _ _ _ _ ⟨t, ps, e, po, h'⟩ tk => ⟨t, ps, e, po, tk _ _ h'⟩) (fun _ _ _ => trivial) ?_ ?_
    · rintro j x H2 H3 Nx hj k2 B2 ⟨rfl, rfl⟩ kk
      refine ⟨rfl, _, rfl, _, rfl, b, c, n, rfl, B2, n1, n8, fun H4 t4 ps l4 p7 h4 k4 B4 => ?_⟩
      exact kk _ _ ⟨t4, ps, rfl, ⟨l4, p7⟩, h4⟩ k4 B4
    · intro H2 ys h2 ly hy k2 B2 D1c
      rw [Int.toNat_natCast] at ly
      obtain ⟨PS, lq, hq⟩ := beside (R := fun _ v (q : Addr × List Nat) => v = .ref q.1 ∧ PaceOk n q.2 ∧ H2 q.1 = some (.tup (q.2.map vI))) ys 0 fun k y e => by
        obtain ⟨t4, ps, e4, po, h4⟩ := hy k y e
        exact ⟨(t4, ps), e4, po, h4⟩
      have ey : ys = PS.map fun q => V.ref q.1 := ys_of lq fun k y a e1 e2 => (hq k y a e1 e2).1
      have pc2 : ∀ q ∈ PS, H2 q.1 = some (.tup (q.2.map vI)) ∧ PaceOk n q.2 := fun q hm => by
        obtain ⟨k, hk, e⟩ := List.getElem_of_mem hm
        have e1 : ys[k]? = some (ys[k]'(by omega)) := List.getElem?_eq_getElem _
        have := hq k _ q e1 (by rw [List.getElem?_eq_getElem hk, e])
        exact ⟨this.2.2, this.2.1⟩
      subst ey
      have lPS : PS.length = i := by rw [← ly, List.length_map]
      refine ⟨D1, _, rfl, .inl ⟨SqL.of h2, fun tp htp => ?_⟩⟩
      have s3 := same_upd (o := HO.tup (PS.map fun q => V.ref q.1)) htp
      have htp3 : (L2.upd H2 tp (.tup (PS.map fun q => V.ref q.1))) tp = some (.tup (PS.map fun q => V.ref q.1)) := upd_same
      generalize L2.upd H2 tp (.tup (PS.map fun q => V.ref q.1)) = H3 at s3 htp3
      have k13 := k2.trans (kc_same (c := c) s3)
      have k03 := k1.trans k13
      have B3 := B2.same s3
      have htl3 := k13.tup B1.lst htl
      have pl : 1 ≤ ((lotP n p).map vI).length := by
        rw [List.length_map]
        exact List.length_pos_of_mem (mem_lotP.mpr ⟨a0n, pa0⟩)
      have pl8 : ((lotP n p).map vI).length ≤ 8 := by
        rw [List.length_map]
        have := lotP_len n p
        omega
      refine ⟨_, _, rfl, _, rfl, _, rfl, b, c, tl, _, rfl, B3, htl3, pl, by omega, fun H4 v k4 B4 hv => ?_⟩
      obtain ⟨a, ha, rfl⟩ := List.mem_map.mp hv
      have an := (mem_lotP.mp ha).1
      refine ⟨(by show 1 ≤ sizeLine; decide), fun wk hwk => ?_⟩
      have s5 := same_upd (o := HO.lst [vI a]) hwk
      have hwk5 : (L2.upd H4 wk (.lst [vI a])) wk = some (.lst [vI a]) := upd_same
      have wc := (B4.new hwk).1
      have wb := (B4.new hwk).2
      have k05 := (k03.trans k4).trans (kc_same (c := c) s5)
      have k35 := k4.trans (kc_same (c := c) s5)
      have B5 := B4.same s5
      have Hwk := kc_new (k03.trans k4) hwk wc
      generalize L2.upd H4 wk (.lst [vI a]) = H5 at s5 hwk5 k05 k35 B5
      refine ⟨_, rfl, tp, rfl, ⟨_, SqT.of (k35.tup B3.lst htp3)⟩, ?_⟩
      refine for_it (walk_tup (K := K) (a := tp) (xs := PS.map fun q => V.ref q.1)) (fun j σ H6 => ∃ (v9 : Option V) (ws : List Nat), σ = [some (.ref b), some (.ref t), some (.ref D), some (vI i), some (vI m), some (vI n), some (.ref tl), some (.ref tp), some (.ref wk), v9, none] ∧ H6 wk = some (.lst (ws.map vI)) ∧ ws.length = j + 1 ∧ (∀ z ∈ ws, z < n) ∧ TK H3 H6 ∧ TabAt c H6 D n rs M ∧ Box b c H6 ∧ Kc c H H6) ?_ (fun j σ H6 _ ⟨_, _, _, _, _, _, k6, _⟩ => SqT.of (k6 _ _ htp3)) ?_ ?_
      · exact ⟨none, [a], rfl, hwk5, rfl, by simpa using an, k35.tk B3.lst, TA.keep k05, B5, k05⟩
      · rintro j y σ H6' H6 hj ⟨v9, ws, rfl, h6, l6, w6, k6, T6, B6, q6⟩ ⟨rfl, hy⟩
        obtain ⟨q, hq2, rfl⟩ := get_mapV hy
        have pq := pc2 q (List.mem_of_getElem? hq2)
        obtain ⟨ws', z, rfl⟩ : ∃ ws' z, ws = ws' ++ [z] := ⟨ws.dropLast, ws.getLast (by intro e; rw [e] at l6; simp at l6), (List.dropLast_concat_getLast _).symm⟩
        have zn : z < n := w6 z (by simp)
        refine ⟨_, rfl, .inl ⟨rfl, _, SqL.of h6⟩, _, rfl, _, rfl, _, rfl, _, rfl, 1, rfl, wk, _, _, _, rfl, rfl, SqL.of h6, (by rw [List.map_append]; exact atI_last _ _), ?_⟩
        refine ⟨(by show 1 ≤ sizeLine; decide), fun o ho => ?_⟩
        have s7 := same_upd (o := HO.tup [vI z]) ho
        have ho7 : (L2.upd H6 o (.tup [vI z])) o = some (.tup ((lotP n fun x => x = z).map vI)) := by
          rw [upd_same, lotP_one zn]
          rfl
        generalize L2.upd H6 o (.tup [vI z]) = H7 at s7 ho7
        refine ⟨c, D, q.1, o, rs, M, n, E, q.2, _, rfl, T6.same s7, S, n8, s7 _ _ (k6 _ _ (s3 _ _ pq.1)), pq.2, ho7, fun H8 t8 ht8 s8 => ?_⟩
        have st : z ∈ lotP n (stepP n E q.2 fun x => x = z) := mem_lotP.mpr ⟨zn, z, zn, rfl, near_refl (by omega)⟩
        have l1 : 1 ≤ ((lotP n (stepP n E q.2 fun x => x = z)).map vI).length := by
          rw [List.length_map]
          exact List.length_pos_of_mem st
        have l8 : ((lotP n (stepP n E q.2 fun x => x = z)).map vI).length ≤ 8 := by
          rw [List.length_map]
          have := lotP_len n (stepP n E q.2 fun x => x = z)
          omega
        have s78 := s7.trans s8
        refine ⟨b, c, t8, _, rfl, B6.same s78, ht8, l1, by omega, fun H9 v k9 B9 hv => ?_⟩
        obtain ⟨d, hd, rfl⟩ := List.mem_map.mp hv
        have dn := (mem_lotP.mp hd).1
        have k69 := (kc_same (c := c) s78).trans k9
        have h9 := kc_lst k69 wc h6
        refine ⟨wk, _, _, rfl, rfl, h9, ?_, ?_⟩
        · rw [List.length_map]
          exact Nat.lt_of_le_of_lt (show _ ≤ 13 by rw [l6]; rw [List.length_map] at hj; omega) (by decide)
        refine ⟨_, ws' ++ [z] ++ [d], rfl, ?_, by rw [List.length_append, l6]; rfl, fun z' hz' => ?_, ?_, ?_, B9.upd wc wb, ?_⟩
        · rw [upd_same, List.map_append (l₁ := ws' ++ [z])]
          rfl
        · rcases List.mem_append.mp hz' with e | e
          · exact w6 z' e
          · rw [List.mem_singleton.mp e]
            exact dn
        · exact k6.trans ((k69.tk B6.lst).trans (tk_lst h9))
        · exact TA.keep ((q6.trans k69).put Hwk)
        · exact (q6.trans k69).put Hwk
      · rintro σ H6 ⟨v9, ws, rfl, h6, l6, w6, k6, T6, B6, q6⟩
        rw [List.length_map] at l6
        have ht6 := q6.tup B.lst ht
        refine ⟨_, rfl, _, rfl, _, rfl, _, rfl, _, rfl, _, rfl, _, rfl, b, c, t, l, D, wk, n, m, rs, M, ws, rfl, B6, ht6, n1, n8, T6, h6, wc, by omega, by omega, w6, m24, fun H7 ts SN hts t7 lSN k7 B7 => ?_⟩
        refine ⟨(by show 3 ≤ sizeLine; decide), fun sa hsa => ?_⟩
        have s8 := same_upd (o := HO.tup [.ref tl, .ref tp, .ref ts]) hsa
        have tk7 : TK H3 (L2.upd H7 sa (.tup [.ref tl, .ref tp, .ref ts])) := k6.trans ((k7.tk B6.lst).trans (tk_same s8))
        refine h _ sa p PS SN ⟨⟨tl, tp, ts, upd_same, tk7 _ _ htl3, tk7 _ _ htp3, s8 _ _ hts⟩, fun q hm => ⟨tk7 _ _ (s3 _ _ (pc2 q hm).1), (pc2 q hm).2⟩, fun q hm => ⟨(t7 q hm).1.same s8, ?_⟩, by omega, by omega⟩ ⟨a0, a0n, pa0⟩ lPS lSN ((q6.trans k7).trans (kc_same s8)) (B7.same s8)
        have := (t7 q hm).2
        omega
end
end RL
namespace RL
open PySem PySem.Spec PyProof.Rows L2 RLM
theorem lot_same {n : Nat} {H : Hp} {a b : Addr} {p q : Nat → Prop} (n8 : n ≤ 8) (ha : H a = some (.tup ((lotP n p).map vI))) (hb : H b = some (.tup ((lotP n q).map vI))) (e : lotP n p = lotP n q) : SameV 1 H (.ref a) (.ref b) := by
  rw [← e] at hb
  refine .inr ⟨a, b, _, _, rfl, rfl, .inr ⟨.inl ha, .inl hb⟩, rfl, ?_, fun j x y e1 e2 => ?_⟩
  · rw [List.length_map]
    have := lotP_len n p
    omega
  · rw [e1] at e2
    cases e2
    obtain ⟨z, _, rfl⟩ := get_mapV e1
    exact ⟨rfl, .inl ⟨_, rfl⟩⟩
theorem cut_to (k : Nat) {xs : List V} : cutV xs none (some (k : Int)) = xs.take k := by
  unfold cutV
  rw [HT.sIx_none, HT.sIx_nat, List.drop_zero, Nat.sub_zero]
  rcases Nat.le_total k xs.length with z | z
  · rw [Nat.min_eq_left z]
  · rw [Nat.min_eq_right z, List.take_of_length_le z, List.take_of_length_le (Nat.le_refl _)]
theorem last_of {us : List Addr} {j : Nat} {u : Addr} (l : us.length = j + 1) (h : us[j]? = some u) : atI (us.map V.ref) (-1) = some (V.ref u) := by
  have e : us = us.take j ++ [u] := by
    have e := List.take_append_drop j us
    rw [List.drop_eq_getElem_cons (by omega), List.drop_of_length_le (by omega)] at e
    have e2 : us[j]'(by omega) = u := by
      rw [List.getElem?_eq_getElem (by omega)] at h
      exact Option.some.inj h
    rw [e2] at e
    exact e.symm
  rw [e, List.map_append]
  exact atI_last _ _
theorem SameV.up {H : Hp} : ∀ {d : Nat} {x y : V}, SameV d H x y → SameV (d + 1) H x y
  | 0, _, _, h => .inl h
  | d + 1, x, y, h => by
    rcases h with h | ⟨a, b, xs, ys, e1, e2, ab, l1, l2, each⟩
    · exact .inl h
    · exact .inr ⟨a, b, xs, ys, e1, e2, ab, l1, l2, fun k u v h1 h2 => SameV.up (each k u v h1 h2)⟩
/-- [x for x in xs if t(x)], the x standing by f -/
theorem lc_filtG {α : Type} {J : It} {n : Nat} {G : Hp → Prop} {Y : Nat → Hp → V → Hp → Prop} {g : TG} {tt : TT} {te : TE} {vs : List Nat} {σ : L2.St} {H : Hp} {D : Addr} {Qd : Hp → Prop} (w : Walk J n G Y) (xs : List α) (f : α → V) (t : α → Bool) (hx : n = xs.length) (hn : n ≤ 10000000) (hD : H D = none) (hG : ∀ H1, Same H H1 → G H1)
    (hs : ∀ i b x H1 H2 (N1 : V → Hp → Prop) (N0 : Hp → Prop), xs[i]? = some b → Same H H1 → Y i H1 x H2 → (∀ H4, t b = true → Same H1 H4 → N1 (f b) H4) → (∀ H4, t b = false → Same H1 H4 → N0 H4) →
      g x (wipe σ vs) H2 fun σ2 H3 => wipe σ2 vs = wipe σ vs ∧ tt σ2 H3 fun c H4 => if c = true then te σ2 H4 N1 else N0 H4)
    (hd : ∀ H1, H1 D = some (.lst ((xs.filter t).map f)) → Same H H1 → Qd H1) :
    ∃ W : Nat → Nat → Hp → Prop, (∃ m, W 0 m (upd H D (.lst []))) ∧ ∀ i m H, W i m H →
      (J.stop i H ∧ Qd H) ∨ (J.go i H ∧ ∃ Nx : Hp → Prop, (∀ H', Nx H' → ∃ m', m' < m ∧ W (i + 1) m' H') ∧ ∀ x H', J.yld i H x H' → g x (wipe σ vs) H' fun σ2 H2 => wipe σ2 vs = wipe σ vs ∧ tt σ2 H2 fun b H3 =>
        if b = true then te σ2 H3 fun y H4 => ∃ acc, H4 D = some (.lst acc) ∧ acc.length < sizeLine ∧ Nx (upd H4 D (.lst (acc ++ [y]))) else Nx H3) := by
  refine lc_it w (fun i H1 => H1 D = some (.lst (((xs.take i).filter t).map f)) ∧ Same H H1) ⟨upd_same, same_upd hD⟩ (fun i H1 _ ⟨_, s1⟩ => hG H1 s1) ?_ (fun H1 ⟨h1, h2⟩ => hd H1 (by rw [hx, List.take_length] at h1; exact h1) h2)
  rintro i x H1 H2 hi ⟨h1, s1⟩ hY
  have hb : xs[i]? = some (xs[i]'(by omega)) := List.getElem?_eq_getElem _
  generalize xs[i]'(by omega) = b at hb
  have et : xs.take (i + 1) = xs.take i ++ [b] := by
    rw [List.take_add_one, hb]
    rfl
  refine hs i b x H1 H2 _ _ hb s1 hY (fun H4 tb s4 => ⟨_, s4 _ _ h1, ?_, ?_, same_mut (s1.trans s4) hD⟩) (fun H4 tb s4 => ⟨?_, s1.trans s4⟩)
  · rw [List.length_map]
    refine Nat.lt_of_le_of_lt (List.length_filter_le _ _) (Nat.lt_of_le_of_lt (?_ : _ ≤ 10000000) (by decide))
    rw [List.length_take]
    omega
  · rw [upd_same, et, List.filter_append, List.filter_cons, if_pos tb, List.map_append]
    rfl
  · rw [s4 _ _ h1, et, List.filter_append, List.filter_cons, if_neg (by rw [tb]; exact Bool.false_ne_true), List.filter_nil, List.append_nil]
end RL
namespace RL
open PySem PySem.Spec PyProof.Rows L2 RLM
/-- where a walk can be next that has begun so -/
def nextP (p : Nat → Prop) (E : List (Nat × Nat)) (PS : List (Addr × List Nat)) (ws : List Nat) (b : Nat) : Prop := match ws.length with
  | 0 => p b
  | i + 1 => stepR E PS i (ws.getLastD 0) b
/-- it has begun so far -/
def Begun (n : Nat) (p : Nat → Prop) (R : Nat → Nat → Nat → Prop) (ws : List Nat) : Prop := match ws.length with
  | 0 => True
  | i + 1 => Goes n p R i ws
theorem goes_inv {n : Nat} {S : Nat → Prop} {R : Nat → Nat → Nat → Prop} : ∀ {i : Nat} {w : List Nat}, Goes n S R i w → w.length = i + 1 := fun h => h.len
/-- one more place -/
theorem begun_next {n : Nat} {p : Nat → Prop} {E : List (Nat × Nat)} {PS : List (Addr × List Nat)} {ws : List Nat} {b : Nat} : Begun n p (stepR E PS) (ws ++ [b]) ↔ Begun n p (stepR E PS) ws ∧ b < n ∧ nextP p E PS ws b := by
  unfold Begun nextP
  rw [List.length_append]
  show Goes n p (stepR E PS) ws.length (ws ++ [b]) ↔ _
  cases e : ws.length with
  | zero =>
    have : ws = [] := List.eq_nil_of_length_eq_zero e
    subst this
    show Goes n p (stepR E PS) 0 [b] ↔ True ∧ b < n ∧ p b
    unfold RLM.Goes
    constructor
    · rintro ⟨a, h1, h2, h3⟩
      cases h3
      exact ⟨trivial, h1, h2⟩
    · rintro ⟨_, h1, h2⟩
      exact ⟨b, h1, h2, rfl⟩
  | succ i =>
    show (∃ v c, Goes n p (stepR E PS) i v ∧ c < n ∧ stepR E PS i (v.getLastD 0) c ∧ ws ++ [b] = v ++ [c]) ↔ Goes n p (stepR E PS) i ws ∧ b < n ∧ stepR E PS i (ws.getLastD 0) b
    constructor
    · rintro ⟨v, c, g, cn, r, e2⟩
      obtain ⟨e3, e4⟩ := List.append_inj' e2 rfl
      cases e4
      subst e3
      exact ⟨g, cn, r⟩
    · rintro ⟨g, bn, r⟩
      exact ⟨ws, b, g, bn, r, rfl⟩
theorem begun_take {n : Nat} {p : Nat → Prop} {E : List (Nat × Nat)} {PS : List (Addr × List Nat)} {ws : List Nat} (h : Begun n p (stepR E PS) ws) : ∀ i, i ≤ ws.length → Begun n p (stepR E PS) (ws.take i) := fun i => by
  intro hi
  have key : ∀ d, d ≤ ws.length → Begun n p (stepR E PS) (ws.take (ws.length - d)) := fun d => by
    induction d with
    | zero =>
      intro _
      rw [Nat.sub_zero, List.take_length]
      exact h
    | succ d ih =>
      intro hd
      have ih := ih (by omega)
      have e : ws.take (ws.length - d) = ws.take (ws.length - (d + 1)) ++ [ws[ws.length - (d + 1)]'(by omega)] := by
        rw [show ws.length - d = (ws.length - (d + 1)) + 1 by omega, List.take_add_one, List.getElem?_eq_getElem (by omega)]
        rfl
      rw [e] at ih
      exact (begun_next.1 ih).1
  have := key (ws.length - i) (by omega)
  rwa [show ws.length - (ws.length - i) = i by omega] at this
theorem begun_lt {n : Nat} {p : Nat → Prop} {R : Nat → Nat → Nat → Prop} {ws : List Nat} (h : Begun n p R ws) {j b : Nat} (e : ws[j]? = some b) : b < n := by
  unfold Begun at h
  cases e2 : ws.length with
  | zero =>
    rw [List.eq_nil_of_length_eq_zero e2] at e
    simp at e
  | succ i =>
    rw [e2] at h
    have g : Goes n p R i ws := h
    clear h e2
    have key : ∀ {i : Nat} {w : List Nat}, Goes n p R i w → ∀ {j b : Nat}, w[j]? = some b → b < n := fun {i} => by
      induction i with
      | zero =>
        rintro w ⟨a, an, _, e⟩ j b h
        subst e
        cases j with
        | zero =>
          have : a = b := by simpa using h
          omega
        | succ j => simp at h
      | succ i ih =>
        rintro w ⟨v, c, g, cn, _, e⟩ j b h
        subst e
        by_cases hj : j < v.length
        · rw [List.getElem?_append_left hj] at h
          exact ih g h
        · rw [List.getElem?_append_right (by omega)] at h
          have z : j - v.length = 0 := by
            have := (List.getElem?_eq_some_iff.mp h).1
            simp at this
            omega
          rw [z] at h
          have : c = b := by simpa using h
          omega
    exact key g e
theorem nI_inj : ∀ {xs ys : List Nat}, xs.map nI = ys.map nI → xs = ys
  | [], [], _ => rfl
  | [], _ :: _, h => by cases h
  | _ :: _, [], h => by cases h
  | x :: xs, y :: ys, h => by
    have h := List.cons.inj h
    have e : x = y := by
      have := h.1
      unfold nI at this
      omega
    rw [e, nI_inj h.2]
/-- a tuple of ints is a walk -/
def GoZ (n m : Nat) (p : Nat → Prop) (R : Nat → Nat → Nat → Prop) (zs : List Int) : Prop := ∃ ws : List Nat, zs = ws.map nI ∧ Goes n p R m ws
def FitZ (n m : Nat) (p : Nat → Prop) (R : Nat → Nat → Nat → Prop) (O : Nat → Nat → Prop) (zs : List Int) : Prop := ∃ ws : List Nat, zs = ws.map nI ∧ Fit n m p R O ws
theorem goes_begun {n m : Nat} {p : Nat → Prop} {R : Nat → Nat → Nat → Prop} {ws : List Nat} : Goes n p R m ws ↔ ws.length = m + 1 ∧ Begun n p R ws := by
  unfold Begun
  constructor
  · intro h
    refine ⟨h.len, ?_⟩
    rw [h.len]
    exact h
  · rintro ⟨l, h⟩
    rw [l] at h
    exact h
theorem in_lotZ (z : Int) (xs : List Nat) : inV (V.int z) (xs.map vI) = decide (∃ b, b ∈ xs ∧ nI b = z) := by
  unfold inV
  rw [List.any_map]
  refine Bool.eq_iff_iff.mpr ?_
  rw [List.any_eq_true, decide_eq_true_iff]
  refine exists_congr fun b => and_congr_right fun _ => ?_
  show ((b : Int) == z) = true ↔ _
  rw [beq_iff_eq]
  rfl
section
variable {P : Program} {w : World} {K : PySem.W.Frag} {mg : Str → Option Value} {base : Heap}
def spNext (K : PySem.W.Frag) : Sp := fun vs H Q _ => ∃ (c x s t : Addr) (n : Nat) (E : List (Nat × Nat)) (p : Nat → Prop) (PS : List (Addr × List Nat)) (SN : List (Addr × V × Triple)) (ws : List Nat), vs = [.ref x, .ref s, .ref t] ∧ BoardAt K c H x n E ∧ StoryAt n H s p PS SN ∧ H t = some (.tup (ws.map vI)) ∧ ws.length ≤ PS.length ∧ (∀ b ∈ ws, b < n) ∧
  ∀ H' u, H' u = some (.tup ((lotP n (nextP p E PS ws)).map vI)) → Same H H' → Q (.ref u) H'
theorem sc_next_places : FnScope ["board", "story", "walk", "lot", "paces", "seen", "place", "pace"] ["board", "story", "walk"] (defScope s_next_places) := ⟨rfl, rfl, rfl, by decide +kernel, rfl, by decide +kernel, by decide +kernel⟩
theorem ok_next (T : Tx K mg) : Has P w K mg base (He.ga K "next_places") 5 ["board", "story", "walk"] (spNext K) := by
  obtain ⟨⟨fd_within, F_within, b_within⟩, kp_within⟩ := ok_within (P := P) (w := w) (base := base) T
  obtain ⟨fd, F⟩ := T.d_next_places
  refine ⟨⟨fd, F.ok sc_next_places (fun vs H Q E h => ?_) (fun cdv A outer s H vs Q E hr h => ?_), F.bindsN fun _ _ _ _ _ _ us hl => match us, hl with | [_, _, _], _ => rfl⟩, F.kp⟩
  · obtain ⟨c, x, s, t, n, E, p, PS, SN, ws, rfl, _⟩ := h
    rfl
  · obtain ⟨c, x, sa, t, n, E, p, PS, SN, ws, rfl, B, SA, ht, lw, wn, h⟩ := h
    have hr_within : Room 4 _ := hr.mono (by decide)
    refine ⟨_, PSs.nox (pss_cons (ps_asg (pv 1) (pgT (K := K) (n := 3) rfl (pgs_cons (pg_name (i := 3) sc_next_places.nd rfl (Or.inl rfl)) (pgs_cons (pg_name (i := 4) sc_next_places.nd rfl (Or.inl rfl)) (pgs_cons (pg_name (i := 5) sc_next_places.nd rfl (Or.inl rfl)) pgs_nil)))))
      (pss_cons (ps_if (pt_cmpR op_eq (pe_callB (lenK (K := K)) (by rfl) T.free_len (by decide +kernel) (pa_cons (pv 2) pa_nil)) pe_int (nomark _)) (pss_one (ps_ret (pv 3))) pss_nil)
      (pss_cons (ps_set (i := 6) sc_next_places.nd rfl (Or.inl rfl) (pe_ix (ixT (K := K)) (pv 2) (pe_un un_neg pe_int) (fun _ _ => rfl)))
      (pss_cons (ps_set (i := 7) sc_next_places.nd rfl (Or.inl rfl) (pe_ix (ixT (K := K)) (pv 4) (pe_op op_sub (pe_callB (lenK (K := K)) (by rfl) T.free_len (by decide +kernel) (pa_cons (pv 2) pa_nil)) pe_int) (fun _ _ => rfl)))
      (pss_one (ps_ret (pe_meth (pv 0) T.cl T.m_within F_within hr_within b_within .nil pass0 (pa_cons (pv 6) (pa_cons (pe_ix (ixT (K := K)) (pv 7) (pv 6) (fun _ _ => rfl)) pa_nil))))))))), ?_⟩
    obtain ⟨tl, tp, ts, hs, htl, htp, hts⟩ := SA.ex
    refine ⟨_, rfl, sa, _, rfl, SqT.of hs, rfl, _, _, rfl, _, _, rfl, _, _, rfl, rfl, ?_⟩
    refine ⟨_, rfl, t, _, rfl, .inr (SqT.of ht), rfl, _, rfl, ?_⟩
    rcases List.eq_nil_or_concat ws with e | ⟨v, b, e⟩
    · subst e
      exact iteT ⟨_, rfl, h H tl htl fun _ _ e => e⟩
    · rw [List.concat_eq_append] at e
      subst e
      have ln : (((v ++ [b]).map vI).length : Int) ≠ 0 := by simp; omega
      refine ite2 (fun z => absurd (V.int.inj (of_decide_eq_true z)) ln) (fun _ => ?_)
      rw [List.length_append] at lw
      have lw : v.length + 1 ≤ PS.length := lw
      have bn := wn b (by simp)
      refine ⟨_, rfl, 1, rfl, t, _, _, _, rfl, rfl, SqT.of ht, (by rw [List.map_append]; exact atI_last _ _), ?_⟩
      have hq : PS[v.length]? = some (PS[v.length]'(by omega)) := List.getElem?_eq_getElem _
      generalize PS[v.length]'(by omega) = q at hq
      have PQ := SA.pc q (List.mem_of_getElem? hq)
      refine ⟨_, rfl, _, rfl, t, _, rfl, .inr (SqT.of ht), _, _, rfl, rfl, tp, _, _, _, rfl, rfl, SqT.of htp, (by
        rw [show ((((v ++ [b]).map vI).length : Nat) : Int) - 1 = ((v.length : Nat) : Int) by simp]
        exact atI_nat (get_map hq)), ?_⟩
      obtain ⟨dx, q1, q2, q3, hx⟩ := B.obj
      refine ⟨_, rfl, x, dx, _, rfl, hx, bf_within _ _ _ _, _, rfl, _, rfl, _, rfl, q.1, _, _, _, rfl, rfl, SqT.of PQ.1, atI_nat (get_map (pace_get PQ.2 bn)), c, x, n, b, _, E, rfl, B, bn, fun H1 u hu s1 => ?_⟩
      refine h H1 u ?_ s1
      rw [hu]
      congr 3
      refine lotP_congr fun z _ => ?_
      unfold nextP
      rw [List.length_append]
      show _ ↔ stepR E PS v.length ((v ++ [b]).getLastD 0) z
      rw [show (v ++ [b]).getLastD 0 = b by simp]
      exact ⟨fun nr => ⟨q, hq, nr⟩, fun ⟨q', hq', nr⟩ => by
        rw [hq] at hq'
        cases hq'
        exact nr⟩
def spIsWalk (K : PySem.W.Frag) : Sp := fun vs H Q _ => ∃ (c x s t : Addr) (n : Nat) (E : List (Nat × Nat)) (p : Nat → Prop) (PS : List (Addr × List Nat)) (SN : List (Addr × V × Triple)) (zs : List Int), vs = [.ref x, .ref s, .ref t] ∧ BoardAt K c H x n E ∧ StoryAt n H s p PS SN ∧ H t = some (.tup (zs.map V.int)) ∧
  ∀ H', Same H H' → Q (.bl (decB (GoZ n PS.length p (stepR E PS) zs))) H'
theorem sc_is_walk : FnScope ["board", "story", "walk", "beat", "place"] ["board", "story", "walk"] (defScope s_is_walk) := ⟨rfl, rfl, rfl, by decide +kernel, rfl, by decide +kernel, by decide +kernel⟩
theorem ok_is_walk (T : Tx K mg) : Has P w K mg base (He.ga K "is_walk") 6 ["board", "story", "walk"] (spIsWalk K) := by
  obtain ⟨⟨fd_last_beat, F_last_beat, b_last_beat⟩, kp_last_beat⟩ := ok_last (P := P) (w := w) (base := base) T
  obtain ⟨⟨fd_is_number, F_is_number, b_is_number⟩, kp_is_number⟩ := ok_is_number (P := P) (w := w) (base := base) T
  obtain ⟨⟨fd_next_places, F_next_places, b_next_places⟩, kp_next_places⟩ := ok_next (P := P) (w := w) (base := base) T
  obtain ⟨fd, F⟩ := T.d_is_walk
  refine ⟨⟨fd, F.ok sc_is_walk (fun vs H Q E h => ?_) (fun cdv A outer s H vs Q E hr h => ?_), F.bindsN fun _ _ _ _ _ _ us hl => match us, hl with | [_, _, _], _ => rfl⟩, F.kp⟩
  · obtain ⟨c, x, s, t, n, E, p, PS, SN, zs, rfl, _⟩ := h
    rfl
  · obtain ⟨c, x, sa, t, n, E, p, PS, SN, zs, rfl, B, SA, ht, h⟩ := h
    have hr_last_beat : Room 1 _ := hr.mono (by decide)
    have hr_is_number : Room 1 _ := hr.mono (by decide)
    have hr_next_places : Room 5 _ := hr.mono (by decide)
    refine ⟨_, PSs.nox (pss_cons (ps_if (PW.pt (pw_or (pt_not (pt_val (pe_callB (isiK (K := K)) (by rfl) T.free_isinstance (by decide +kernel) (pa_cons (pv 2) (pa_cons (pe_bltn (v := .ty "tuple") (u := .type "tuple") (by rfl) T.free_tuple (by decide +kernel) rfl) pa_nil))))) (pw_or1 (pt_cmpR op_ne (pe_callB (lenK (K := K)) (by rfl) T.free_len (by decide +kernel) (pa_cons (pv 2) pa_nil)) (pe_op op_add (pe_call F_last_beat hr_last_beat rfl T.glo_last_beat kp_last_beat b_last_beat .nil pass0 (pa_cons (pv 1) pa_nil)) pe_int) (nomark _))))) (pss_one (ps_ret pe_bl)) pss_nil)
      (pss_cons (ps_for PassesOwn.never rfl (piEnumT (K := K) (by rfl) T.free_enumerate (pa_cons (pv 2) pa_nil)) (pgT (K := K) (n := 2) rfl (pgs_cons (pg_name (i := 3) sc_is_walk.nd rfl (Or.inl rfl)) (pgs_cons (pg_name (i := 4) sc_is_walk.nd rfl (Or.inl rfl)) pgs_nil))) (pss_one (ps_if (PW.pt (pw_or (pt_not (pt_val (pe_call F_is_number hr_is_number rfl T.glo_is_number kp_is_number b_is_number .nil pass0 (pa_cons (pv 4) pa_nil)))) (pw_or1 (pt_cmpR (show OpR _ (compareOp .NotIn) (rIn K true) from op_notIn_seq) (pv 4) (pe_call F_next_places hr_next_places rfl T.glo_next_places kp_next_places b_next_places .nil pass0 (pa_cons (pv 0) (pa_cons (pv 1) (pa_cons (pe_slice slTS (pv 2) po_none (po_some (pv 3))) pa_nil)))) (by rfl))))) (pss_one (ps_ret pe_bl)) pss_nil)))
      (pss_one (ps_ret pe_bl)))), ?_⟩
    refine ⟨_, rfl, _, _, _, _, true, rfl, .ty _, .base (.tup ht), kit_ty (by decide +kernel), true, rfl, iteF ?_⟩
    refine ⟨_, rfl, t, _, rfl, .inr (SqT.of ht), _, rfl, sa, n, p, PS, SN, rfl, SA, _, _, rfl, rfl, rfl, _, rfl, ?_⟩
    have noF : ∀ {H'}, Same H H' → ¬ GoZ n PS.length p (stepR E PS) zs → Q (.bl false) H' := fun s no => by
      have := h _ s
      rw [show decB (GoZ n PS.length p (stepR E PS) zs) = false from Bool.eq_false_iff.mpr fun z => no (decB_true.mp z)] at this
      exact this
    refine ite2 (fun z => ?_) (fun z => ?_)
    · refine noF (fun _ _ e => e) fun ⟨ws, e, g⟩ => ?_
      have l := g.len
      have : zs.length = PS.length + 1 := by rw [e, List.length_map]; exact l
      rw [List.length_map, this] at z
      simp at z
    have lz : zs.length = PS.length + 1 := by
      rw [List.length_map] at z
      simp at z
      omega
    refine ⟨_, rfl, t, _, rfl, SqT.of ht, for_it (walk_enumT (K := K) (a := t) (xs := zs.map V.int)) (fun i σ H1 => (∃ v3 v4 : Option V, σ = [some (.ref x), some (.ref sa), some (.ref t), v3, v4]) ∧ (∃ ws : List Nat, zs.take i = ws.map nI ∧ ws.length = i ∧ Begun n p (stepR E PS) ws) ∧ Same H H1)
      ⟨⟨none, none, rfl⟩, ⟨[], rfl, rfl, trivial⟩, fun _ _ e => e⟩ (fun i σ H1 _ z => SqT.of (z.2.2 _ _ ht)) ?_ ?_⟩
    · rintro i y σ H1 H2 hi ⟨⟨v3, v4, rfl⟩, ⟨ws, ew, lw, bw⟩, s1⟩ ⟨T1, y1, y2, rfl, hT, rfl, e1, e2⟩
      rw [List.length_map] at hi
      cases (Option.some.inj e1)
      obtain ⟨z1, hz, rfl⟩ := get_mapV (show (zs.map V.int)[i]? = some y2 from e2)
      have s2 : Same H1 (upd H1 T1 (.tup [.int (i : Nat), .int z1])) := same_upd hT
      have hT2 : (upd H1 T1 (.tup [.int (i : Nat), .int z1])) T1 = some (.tup [.int (i : Nat), .int z1]) := upd_same
      generalize upd H1 T1 (.tup [.int (i : Nat), .int z1]) = H2 at s2 hT2
      have s12 := s1.trans s2
      refine ⟨T1, _, rfl, SqT.of hT2, rfl, _, _, rfl, _, _, rfl, rfl, ?_⟩
      refine ⟨_, rfl, z1, rfl, _, rfl, iteF ?_⟩
      refine ⟨_, rfl, _, rfl, _, rfl, _, rfl, _, rfl, _, rfl, t, _, rfl, s12 _ _ ht, fun tw H3 htw s3 => ?_⟩
      have htw : H3 tw = some (.tup (ws.map vI)) := by
        rw [htw, cut_to i, ← List.map_take, ew, vI_map]
      have s13 := s12.trans s3
      refine ⟨c, x, sa, tw, n, E, p, PS, SN, ws, rfl, B.same s13, SA.same s13, htw, by omega, fun b hb => ?_, fun H4 u hu s4 => ?_⟩
      · obtain ⟨j, hj, e⟩ := List.getElem_of_mem hb
        exact begun_lt bw (j := j) (by rw [List.getElem?_eq_getElem hj, e])
      refine ⟨u, _, rfl, .inr (SqT.of hu), rfl, flat_vI _, _, rfl, ?_⟩
      have s14 := s13.trans s4
      have et : zs.take (i + 1) = ws.map nI ++ [z1] := by
        rw [List.take_add_one, hz, ew]
        rfl
      show if (!inV (V.int z1) ((lotP n (nextP p E PS ws)).map vI)) = true then _ else _
      rw [in_lotZ]
      by_cases hin : ∃ b, b ∈ lotP n (nextP p E PS ws) ∧ nI b = z1
      · rw [decide_eq_true hin]
        refine iteF ?_
        obtain ⟨b, hb, eb⟩ := hin
        have mb := mem_lotP.mp hb
        refine ⟨⟨_, _, rfl⟩, ⟨ws ++ [b], by rw [et, List.map_append, ← eb]; rfl, by simp [lw], begun_next.2 ⟨bw, mb.1, mb.2⟩⟩, s14⟩
      · rw [decide_eq_false hin]
        refine iteT (noF s14 fun ⟨vs', ev, g⟩ => hin ?_)
        have bv := (goes_begun.1 g).2
        have lv := g.len
        have b1 := begun_take bv (i + 1) (by omega)
        have e3 : vs'[i]? = some (vs'[i]'(by omega)) := List.getElem?_eq_getElem _
        rw [List.take_add_one, e3] at b1
        have b2 := begun_next.1 (show Begun n p (stepR E PS) (vs'.take i ++ [vs'[i]'(by omega)]) from b1)
        have e4 : vs'.take i = ws := by
          have h1 : (vs'.take i).map nI = ws.map nI := by rw [List.map_take, ← ev, ew]
          exact nI_inj h1
        rw [e4] at b2
        refine ⟨vs'[i]'(by omega), mem_lotP.mpr ⟨b2.2.1, b2.2.2⟩, ?_⟩
        have h2 : (vs'.map nI)[i]? = some z1 := by rw [← ev]; exact hz
        rw [List.getElem?_map, e3] at h2
        exact Option.some.inj h2
    · rintro σ H1 ⟨⟨v3, v4, rfl⟩, ⟨ws, ew, lw, bw⟩, s1⟩
      rw [List.length_map] at ew lw
      rw [List.take_length] at ew
      have := h _ s1
      rw [show decB (GoZ n PS.length p (stepR E PS) zs) = true from decB_true.mpr ⟨ws, ew, goes_begun.2 ⟨by omega, bw⟩⟩] at this
      exact this
end
end RL
namespace RL
open PySem PySem.Spec PyProof.Rows L2 RLM
/-- a walk misses the triple with this number -/
noncomputable def missT (M : Nat → Nat → Nat) (ws : List Nat) (q : Addr × V × Triple) : Bool := !decide (ans M q.2.2.look (ws.getD q.2.2.beat 0) = q.2.2.told)
noncomputable def missN (M : Nat → Nat → Nat) (SN : List (Addr × V × Triple)) (ws : List Nat) (k : Nat) : Bool := match SN[k]? with
  | some q => missT M ws q
  | none => false
theorem miss_none {M : Nat → Nat → Nat} {SN : List (Addr × V × Triple)} {ws : List Nat} {m : Nat} (lw : ws.length = m + 1) (hb : ∀ q ∈ SN, q.2.2.beat ≤ m) : ((List.range SN.length).filter (missN M SN ws)).length = 0 ↔ ∀ (j b : Nat), ws[j]? = some b → openP M SN j b := by
  rw [List.length_eq_zero_iff, List.filter_eq_nil_iff]
  constructor
  · intro h j b e q hq ej
    obtain ⟨k, hk, eq⟩ := List.getElem_of_mem hq
    have h1 := h k (List.mem_range.mpr hk)
    unfold missN missT at h1
    rw [List.getElem?_eq_getElem hk, eq] at h1
    have h2 : ws.getD q.2.2.beat 0 = b := by rw [ej, List.getD_eq_getElem?_getD, e]; rfl
    have h1 : ¬ (!decide (ans M q.2.2.look (ws.getD q.2.2.beat 0) = q.2.2.told)) = true := h1
    rw [h2] at h1
    simpa using h1
  · intro h k hk
    have hk := List.mem_range.mp hk
    have eq : SN[k]? = some SN[k] := List.getElem?_eq_getElem hk
    unfold missN missT
    rw [eq]
    have hq := List.getElem_mem hk
    have bl := hb _ hq
    have e : ws[SN[k].2.2.beat]? = some (ws.getD SN[k].2.2.beat 0) := by
      rw [List.getD_eq_getElem?_getD, List.getElem?_eq_getElem (by omega)]
      rfl
    have := h _ _ e SN[k] hq rfl
    show ¬ (!decide (ans M SN[k].2.2.look (ws.getD SN[k].2.2.beat 0) = SN[k].2.2.told)) = true
    rw [decide_eq_true this]
    decide
section
variable {P : Program} {w : World} {K : PySem.W.Frag} {mg : Str → Option Value} {base : Heap}
def spMissed (K : PySem.W.Frag) : Sp := fun vs H Q _ => ∃ (c x s t : Addr) (n : Nat) (E : List (Nat × Nat)) (M : Nat → Nat → Nat) (p : Nat → Prop) (PS : List (Addr × List Nat)) (SN : List (Addr × V × Triple)) (ws : List Nat), vs = [.ref x, .ref s, .ref t] ∧ BoardAt K c H x n E ∧ Spans n E M ∧ StoryAt n H s p PS SN ∧ H t = some (.tup (ws.map vI)) ∧ ws.length = PS.length + 1 ∧ (∀ b ∈ ws, b < n) ∧
  ∀ H' l, H' l = some (.lst (((List.range SN.length).filter (missN M SN ws)).map vI)) → H l = none → Same H H' → Q (.ref l) H'
theorem sc_missed : FnScope ["board", "story", "walk", "number", "beat", "look", "answer"] ["board", "story", "walk"] (defScope s_missed) := ⟨rfl, rfl, rfl, by decide +kernel, rfl, by decide +kernel, by decide +kernel⟩
theorem ok_missed (T : Tx K mg) : Has P w K mg base (He.ga K "missed") 8 ["board", "story", "walk"] (spMissed K) := by
  obtain ⟨⟨fd_answers, F_answers, b_answers⟩, kp_answers⟩ := ok_answers (P := P) (w := w) (base := base) T
  obtain ⟨fd, F⟩ := T.d_missed
  refine ⟨⟨fd, F.ok sc_missed (fun vs H Q E h => ?_) (fun cdv A outer s H vs Q E hr h => ?_), F.bindsN fun _ _ _ _ _ _ us hl => match us, hl with | [_, _, _], _ => rfl⟩, F.kp⟩
  · obtain ⟨c, x, s, t, n, E, M, p, PS, SN, ws, rfl, _⟩ := h
    rfl
  · obtain ⟨c, x, sa, t, n, E, M, p, PS, SN, ws, rfl, B, S, SA, ht, lw, wn, h⟩ := h
    have hr_answers : Room 7 _ := hr.mono (by decide)
    refine ⟨_, PSs.nox (pss_one (ps_ret (pe_lc (own := [("number", 3), ("beat", 4), ("look", 5), ("answer", 6)]) rfl sc_missed.nd (piEnumT (K := K) (by rfl) T.free_enumerate (pa_cons (pe_ix (ixT (K := K)) (pv 1) pe_int (fun _ _ => rfl)) pa_nil)) (blkOk_by (by kernel_rfl)) (fun _ _ _ _ _ => (pgT (K := K) (n := 2) rfl (pgs_cons (pg_name (i := 3) sc_missed.nd rfl (Or.inl rfl)) (pgs_cons (pgT (K := K) (n := 3) rfl (pgs_cons (pg_name (i := 4) sc_missed.nd rfl (Or.inl rfl)) (pgs_cons (pg_name (i := 5) sc_missed.nd rfl (Or.inl rfl)) (pgs_cons (pg_name (i := 6) sc_missed.nd rfl (Or.inl rfl)) pgs_nil)))) pgs_nil)))) (fun _ _ _ _ _ => (pts_one (pt_cmpR op_ne (pe_ix (ixT (K := K)) (pe_call F_answers hr_answers rfl T.glo_answers kp_answers b_answers .nil pass0 (pa_cons (pv 0) (pa_cons (pv 5) pa_nil))) (pe_ix (ixT (K := K)) (pv 2) (pv 4) (fun _ _ => rfl)) (fun _ _ => rfl)) (pv 6) (nomark _)))) (fun _ _ _ _ _ => (pv 3))))), ?_⟩
    obtain ⟨tl, tp, ts, hs, htl, htp, hts⟩ := SA.ex
    have ls := SA.ls
    refine ⟨_, rfl, sa, _, 2, _, rfl, rfl, SqT.of hs, rfl, ts, _, rfl, SqT.of hts, fun D hD => ?_⟩
    refine lc_filt (walk_enumT (K := K) (a := ts) (xs := SN.map fun q => V.ref q.1)) (List.range SN.length) (missN M SN ws) (by simp) (by rw [List.length_map]; omega) hD (fun H1 s1 => SqT.of (s1 _ _ hts)) ?_ (fun H1 h1 s1 => h H1 D h1 hD s1)
    rintro i b y H1 H2 N1 N0 hb s1 ⟨T1, y1, y2, rfl, hT, rfl, e1, e2⟩ k1 k0
    cases (Option.some.inj e1)
    obtain ⟨z1, z2⟩ := List.getElem?_eq_some_iff.mp hb
    rw [List.getElem_range] at z2
    rw [List.length_range] at z1
    subst z2
    obtain ⟨q, hq, rfl⟩ := get_mapV (show (SN.map fun q => V.ref q.1)[i]? = some y2 from e2)
    have s2 : Same H1 (upd H1 T1 (.tup [.int (i : Nat), .ref q.1])) := same_upd hT
    have hT2 : (upd H1 T1 (.tup [.int (i : Nat), .ref q.1])) T1 = some (.tup [.int (i : Nat), .ref q.1]) := upd_same
    generalize upd H1 T1 (.tup [.int (i : Nat), .ref q.1]) = H2 at s2 hT2
    have s12 := s1.trans s2
    have mq := SA.sn q (List.mem_of_getElem? hq)
    have TR := mq.1.same s12
    have bl : q.2.2.beat < ws.length := by
      have := mq.2
      omega
    have ew : ws[q.2.2.beat]? = some (ws.getD q.2.2.beat 0) := by
      rw [List.getD_eq_getElem?_getD, List.getElem?_eq_getElem bl]
      rfl
    have wn' := wn _ (List.mem_of_getElem? ew)
    refine ⟨T1, _, rfl, SqT.of hT2, rfl, _, _, rfl, _, _, rfl, q.1, _, rfl, SqT.of TR.1, rfl, _, _, rfl, _, _, rfl, _, _, rfl, rfl, rfl, rfl, ?_⟩
    refine ⟨_, rfl, _, rfl, c, x, q.2.1, n, E, M, _, rfl, B.same s12, S, TR.2.1, TR.2.2, fun H3 ta hta s3 => ?_⟩
    have s13 := s12.trans s3
    have ea : (((List.range n).map (ans M q.2.2.look)).map vI)[ws.getD q.2.2.beat 0]? = some (vI (ans M q.2.2.look (ws.getD q.2.2.beat 0))) := by
      rw [List.getElem?_map, List.getElem?_map, List.getElem?_range wn']
      rfl
    refine ⟨_, rfl, _, rfl, t, _, _, _, rfl, rfl, SqT.of (s13 _ _ ht), atI_nat (get_map ew), ta, _, _, _, rfl, rfl, SqT.of hta, atI_nat ea, _, rfl, rfl, _, rfl, ?_⟩
    have em : (!decide (vI (ans M q.2.2.look (ws.getD q.2.2.beat 0)) = vI q.2.2.told)) = missN M SN ws i := by
      unfold missN missT
      rw [hq]
      show _ = !decide (ans M q.2.2.look (ws.getD q.2.2.beat 0) = q.2.2.told)
      congr 1
      rw [decide_eq_decide]
      unfold vI
      exact ⟨fun z => by have := V.int.inj z; omega, fun z => by rw [z]⟩
    show if (!decide (vI (ans M q.2.2.look (ws.getD q.2.2.beat 0)) = vI q.2.2.told)) = true then _ else _
    rw [em]
    exact ite2 (fun z => ⟨_, rfl, k1 _ z (s2.trans s3)⟩) (fun z => k0 _ (Bool.eq_false_iff.mpr z) (s2.trans s3))
def spFits (K : PySem.W.Frag) : Sp := fun vs H Q _ => ∃ (c x s t : Addr) (n : Nat) (E : List (Nat × Nat)) (M : Nat → Nat → Nat) (p : Nat → Prop) (PS : List (Addr × List Nat)) (SN : List (Addr × V × Triple)) (zs : List Int), vs = [.ref x, .ref s, .ref t] ∧ BoardAt K c H x n E ∧ Spans n E M ∧ StoryAt n H s p PS SN ∧ (∃ a, a < n ∧ p a) ∧ H t = some (.tup (zs.map V.int)) ∧
  ∀ H', Same H H' → Q (.bl (decB (FitZ n PS.length p (stepR E PS) (openP M SN) zs))) H'
theorem sc_fits : FnScope ["board", "story", "walk"] ["board", "story", "walk"] (defScope s_fits) := ⟨rfl, rfl, rfl, by decide +kernel, rfl, by decide +kernel, by decide +kernel⟩
theorem ok_fits (T : Tx K mg) : Has P w K mg base (He.ga K "fits") 10 ["board", "story", "walk"] (spFits K) := by
  obtain ⟨⟨fd_look_story, F_look_story, b_look_story⟩, kp_look_story⟩ := ok_look_story (P := P) (w := w) (base := base) T
  obtain ⟨⟨fd_is_walk, F_is_walk, b_is_walk⟩, kp_is_walk⟩ := ok_is_walk (P := P) (w := w) (base := base) T
  obtain ⟨⟨fd_missed, F_missed, b_missed⟩, kp_missed⟩ := ok_missed (P := P) (w := w) (base := base) T
  obtain ⟨fd, F⟩ := T.d_fits
  refine ⟨⟨fd, F.ok sc_fits (fun vs H Q E h => ?_) (fun cdv A outer s H vs Q E hr h => ?_), F.bindsN fun _ _ _ _ _ _ us hl => match us, hl with | [_, _, _], _ => rfl⟩, F.kp⟩
  · obtain ⟨c, x, s, t, n, E, M, p, PS, SN, zs, rfl, _⟩ := h
    rfl
  · obtain ⟨c, x, sa, t, n, E, M, p, PS, SN, zs, rfl, B, S, SA, ex, ht, h⟩ := h
    have hr_look_story : Room 9 _ := hr.mono (by decide)
    have hr_is_walk : Room 6 _ := hr.mono (by decide)
    have hr_missed : Room 8 _ := hr.mono (by decide)
    refine ⟨_, PSs.nox (pss_cons (ps_expr (pe_call F_look_story hr_look_story rfl T.glo_look_story kp_look_story b_look_story .nil pass0 (pa_cons (pv 0) (pa_cons (pv 1) pa_nil))))
      (pss_one (ps_ret (pe_and (pe_call F_is_walk hr_is_walk rfl T.glo_is_walk kp_is_walk b_is_walk .nil pass0 (pa_cons (pv 0) (pa_cons (pv 1) (pa_cons (pv 2) pa_nil)))) (pe_one (pe_cmpR op_eq (pe_callB (lenK (K := K)) (by rfl) T.free_len (by decide +kernel) (pa_cons (pe_call F_missed hr_missed rfl T.glo_missed kp_missed b_missed .nil pass0 (pa_cons (pv 0) (pa_cons (pv 1) (pa_cons (pv 2) pa_nil)))) pa_nil)) pe_int (nomark _))))))), ?_⟩
    refine ⟨_, rfl, _, rfl, c, x, sa, n, E, p, PS, SN, rfl, B, SA, ex, fun H1 s1 => ?_⟩
    refine ⟨_, rfl, _, rfl, _, rfl, c, x, sa, t, n, E, p, PS, SN, zs, rfl, B.same s1, SA.same s1, s1 _ _ ht, fun H2 s2 => ⟨_, rfl, ?_⟩⟩
    have s12 := s1.trans s2
    cases e : decB (GoZ n PS.length p (stepR E PS) zs) with
    | false =>
      refine iteF ?_
      have := h _ s12
      rw [show decB (FitZ n PS.length p (stepR E PS) (openP M SN) zs) = false from Bool.eq_false_iff.mpr fun z => by
        obtain ⟨ws, e1, f⟩ := decB_true.mp z
        rw [decB_true.mpr ⟨ws, e1, (fit_iff.1 f).1⟩] at e
        cases e] at this
      exact this
    | true =>
      refine iteT ?_
      obtain ⟨ws, ew, g⟩ := decB_true.mp e
      have lw := g.len
      have wn : ∀ b ∈ ws, b < n := fun b hb => by
        obtain ⟨j, hj, e2⟩ := List.getElem_of_mem hb
        exact begun_lt (goes_begun.1 g).2 (j := j) (by rw [List.getElem?_eq_getElem hj, e2])
      refine ⟨_, rfl, _, rfl, _, rfl, c, x, sa, t, n, E, M, p, PS, SN, ws, rfl, B.same s12, S, SA.same s12, by rw [s12 _ _ ht, ew, vI_map], lw, wn, fun H3 l hl _ s3 => ?_⟩
      refine ⟨l, _, rfl, .inl (SqL.of hl), rfl, ?_⟩
      have := h _ (s12.trans s3)
      have key := miss_none (M := M) (SN := SN) lw fun q hq => (SA.sn q hq).2
      have ed : decide (V.int (((((List.range SN.length).filter (missN M SN ws)).map vI).length : Nat) : Int) = V.int 0) = decB (FitZ n PS.length p (stepR E PS) (openP M SN) zs) := by
        refine Bool.eq_iff_iff.mpr ?_
        rw [decide_eq_true_iff, decB_true, List.length_map]
        constructor
        · intro z
          have z : (((((List.range SN.length).filter (missN M SN ws)).length : Nat) : Int)) = 0 := V.int.inj z
          exact ⟨ws, ew, fit_iff.2 ⟨g, key.1 (by omega)⟩⟩
        · rintro ⟨ws', ew', f⟩
          have : ws' = ws := nI_inj (ew'.symm.trans ew)
          rw [this] at f
          have := key.2 (fit_iff.1 f).2
          rw [this]
          rfl
      show Q (V.bl (decide (V.int (((((List.range SN.length).filter (missN M SN ws)).map vI).length : Nat) : Int) = V.int 0))) _
      rw [ed]
      exact this
end
end RL
namespace RL
open PySem PySem.Spec PyProof.Rows L2 RLM
/-- a walk by its places -/
theorem goes_iff {n : Nat} {p : Nat → Prop} {R : Nat → Nat → Nat → Prop} : ∀ {m : Nat} {ws : List Nat}, Goes n p R m ws ↔ ws.length = m + 1 ∧ (∀ b ∈ ws, b < n) ∧ p (ws.getD 0 0) ∧ ∀ i, i < m → R i (ws.getD i 0) (ws.getD (i + 1) 0)
  | 0, ws => by
    unfold RLM.Goes
    constructor
    · rintro ⟨a, an, pa, rfl⟩
      exact ⟨rfl, by simpa using an, pa, fun i hi => by omega⟩
    · rintro ⟨l, wn, pa, _⟩
      match ws, l with
      | [a], _ => exact ⟨a, wn a (by simp), pa, rfl⟩
  | m + 1, ws => by
    unfold RLM.Goes
    constructor
    · rintro ⟨v, b, g, bn, r, rfl⟩
      obtain ⟨l, vn, pv, st⟩ := goes_iff.1 g
      have gd : ∀ i, i ≤ m → (v ++ [b]).getD i 0 = v.getD i 0 := fun i hi => by
        rw [List.getD_eq_getElem?_getD, List.getElem?_append_left (by omega), ← List.getD_eq_getElem?_getD]
      have gl : (v ++ [b]).getD (m + 1) 0 = b := by
        rw [List.getD_eq_getElem?_getD, List.getElem?_append_right (by omega), l, Nat.sub_self]
        rfl
      have vl : v.getLastD 0 = v.getD m 0 := by
        rw [List.getLastD_eq_getLast?, List.getLast?_eq_getElem?, l, List.getD_eq_getElem?_getD]
        rfl
      refine ⟨by simp [l], fun c hc => ?_, by rw [gd 0 (by omega)]; exact pv, fun i hi => ?_⟩
      · rcases List.mem_append.mp hc with z | z
        · exact vn c z
        · rw [List.mem_singleton.mp z]
          exact bn
      · rcases Nat.lt_or_ge i m with k | k
        · rw [gd i (by omega), gd (i + 1) (by omega)]
          exact st i k
        · have : i = m := by omega
          subst this
          rw [gd i (by omega), gl, ← vl]
          exact r
    · rintro ⟨l, wn, pa, st⟩
      have e : ws = ws.take (m + 1) ++ [ws.getD (m + 1) 0] := by
        have e := List.take_append_drop (m + 1) ws
        rw [List.drop_eq_getElem_cons (by omega), List.drop_of_length_le (by omega)] at e
        rw [List.getD_eq_getElem?_getD, List.getElem?_eq_getElem (by omega)]
        exact e.symm
      have lt : (ws.take (m + 1)).length = m + 1 := by rw [List.length_take]; omega
      have gt : ∀ i, i ≤ m → (ws.take (m + 1)).getD i 0 = ws.getD i 0 := fun i hi => by
        rw [List.getD_eq_getElem?_getD, List.getElem?_take_of_lt (by omega), ← List.getD_eq_getElem?_getD]
      refine ⟨ws.take (m + 1), ws.getD (m + 1) 0, goes_iff.2 ⟨lt, fun b hb => wn b (List.mem_of_mem_take hb), by rw [gt 0 (by omega)]; exact pa, fun i hi => ?_⟩, ?_, ?_, e⟩
      · rw [gt i (by omega), gt (i + 1) (by omega)]
        exact st i (by omega)
      · refine wn _ ?_
        rw [List.getD_eq_getElem?_getD, List.getElem?_eq_getElem (by omega)]
        exact List.getElem_mem _
      · rw [List.getLastD_eq_getLast?, List.getLast?_eq_getElem?, lt]
        show R m ((ws.take (m + 1))[m]?.getD 0) _
        rw [← List.getD_eq_getElem?_getD, gt m (Nat.le_refl _)]
        exact st m (by omega)
theorem all_within {n : Nat} {zs : List Int} : ((List.range zs.length).map fun i => decide (0 ≤ zs.getD i 0 ∧ zs.getD i 0 < (n : Int))).all id = true ↔ ∃ ws : List Nat, zs = ws.map nI ∧ ∀ b ∈ ws, b < n := by
  rw [List.all_eq_true]
  constructor
  · intro h
    have h : ∀ z ∈ zs, 0 ≤ z ∧ z < (n : Int) := fun z hz => by
      obtain ⟨k, hk, e⟩ := List.getElem_of_mem hz
      have := h _ (List.mem_map.mpr ⟨k, List.mem_range.mpr hk, rfl⟩)
      have := of_decide_eq_true this
      rw [List.getD_eq_getElem?_getD, List.getElem?_eq_getElem hk, e] at this
      exact this
    refine ⟨zs.map Int.toNat, ?_, fun b hb => ?_⟩
    · rw [List.map_map]
      have : zs.map id = zs.map (nI ∘ Int.toNat) := List.map_congr_left fun z hz => by
        have := h z hz
        show z = ((z.toNat : Nat) : Int)
        omega
      rw [List.map_id] at this
      exact this
    · obtain ⟨z, hz, rfl⟩ := List.mem_map.mp hb
      have := h z hz
      omega
  · rintro ⟨ws, rfl, wn⟩ b hb
    obtain ⟨k, hk, rfl⟩ := List.mem_map.mp hb
    have hk := List.mem_range.mp hk
    rw [List.length_map] at hk
    refine decide_eq_true ?_
    rw [List.getD_eq_getElem?_getD, List.getElem?_map, List.getElem?_eq_getElem hk]
    have := wn _ (List.getElem_mem hk)
    show 0 ≤ ((ws[k] : Nat) : Int) ∧ ((ws[k] : Nat) : Int) < n
    omega
/-- one step, as the law asks it -/
noncomputable def okS (M : Nat → Nat → Nat) (PS : List (Addr × List Nat)) (ws : List Nat) (i : Nat) : Bool := match PS[i]? with
  | some q => decide (M (ws.getD i 0) (ws.getD (i + 1) 0) ≤ q.2.getD (ws.getD i 0) 0)
  | none => false
theorem okS_all {n : Nat} {E : List (Nat × Nat)} {M : Nat → Nat → Nat} {PS : List (Addr × List Nat)} {ws : List Nat} (S : Spans n E M) (po : ∀ q ∈ PS, PaceOk n q.2) (lw : ws.length = PS.length + 1) (wn : ∀ b ∈ ws, b < n) :
    ((List.range PS.length).map (okS M PS ws)).all id = true ↔ ∀ i, i < PS.length → stepR E PS i (ws.getD i 0) (ws.getD (i + 1) 0) := by
  have gd : ∀ i, i ≤ PS.length → ws.getD i 0 < n := fun i hi => by
    refine wn _ ?_
    rw [List.getD_eq_getElem?_getD, List.getElem?_eq_getElem (by omega)]
    exact List.getElem_mem _
  have one : ∀ i, i < PS.length → (okS M PS ws i = true ↔ stepR E PS i (ws.getD i 0) (ws.getD (i + 1) 0)) := fun i hi => by
    have hq : PS[i]? = some (PS[i]'hi) := List.getElem?_eq_getElem _
    have PO := po _ (List.getElem_mem hi)
    generalize PS[i]'hi = q at hq PO
    have g1 := gd i (by omega)
    have g2 := gd (i + 1) (by omega)
    have pl : q.2.getD (ws.getD i 0) 0 ≤ 7 := PO.2 _ (List.mem_of_getElem? (pace_get PO g1))
    unfold okS stepR
    rw [hq]
    show decide (M (ws.getD i 0) (ws.getD (i + 1) 0) ≤ q.2.getD (ws.getD i 0) 0) = true ↔ _
    rw [decide_eq_true_iff, ← Int.ofNat_le, S.nr _ _ _ g1 g2 (by omega)]
    exact ⟨fun z => ⟨q, rfl, z⟩, fun ⟨q', e, z⟩ => by
      cases e
      exact z⟩
  rw [List.all_eq_true]
  constructor
  · intro h i hi
    exact (one i hi).1 (h _ (List.mem_map.mpr ⟨i, List.mem_range.mpr hi, rfl⟩))
  · intro h b hb
    obtain ⟨i, hi, rfl⟩ := List.mem_map.mp hb
    have hi := List.mem_range.mp hi
    exact (one i hi).2 (h i hi)
section
variable {P : Program} {w : World} {K : PySem.W.Frag} {mg : Str → Option Value} {base : Heap}
def spLawFit (K : PySem.W.Frag) : Sp := fun vs H Q _ => ∃ (c D s t : Addr) (n : Nat) (rs : List Addr) (E : List (Nat × Nat)) (M : Nat → Nat → Nat) (p : Nat → Prop) (PS : List (Addr × List Nat)) (SN : List (Addr × V × Triple)) (zs : List Int), vs = [.ref D, .ref s, .ref t] ∧ n ≤ 8 ∧ TabAt c H D n rs M ∧ Spans n E M ∧ StoryAt n H s p PS SN ∧ H t = some (.tup (zs.map V.int)) ∧ zs.length ≤ 1000 ∧
  ∀ H', Same H H' → Q (.bl (decB (FitZ n PS.length p (stepR E PS) (openP M SN) zs))) H'
theorem sc__law_fit : FnScope ["_law_spans_here", "_law_story_here", "_law_walk", "_law_place", "_law_pace_here", "_law_one", "_law_to", "_law_beat", "_law_look_here", "_law_answer_here"] ["_law_spans_here", "_law_story_here", "_law_walk"] (defScope s__law_fit) := ⟨rfl, rfl, rfl, by decide +kernel, rfl, by decide +kernel, by decide +kernel⟩
theorem ok_lfit (T : Tx K mg) : Has P w K mg base (He.ga K "_law_fit") 2 ["_law_spans_here", "_law_story_here", "_law_walk"] (spLawFit K) := by
  obtain ⟨⟨fd_law_answer, F_law_answer, b_law_answer⟩, kp_law_answer⟩ := ok_answer (P := P) (w := w) (base := base) T
  obtain ⟨fd, F⟩ := T.d__law_fit
  refine ⟨⟨fd, F.ok sc__law_fit (fun vs H Q E h => ?_) (fun cdv A outer s H vs Q E hr h => ?_), F.bindsN fun _ _ _ _ _ _ us hl => match us, hl with | [_, _, _], _ => rfl⟩, F.kp⟩
  · obtain ⟨c, D, s, t, n, rs, E, M, p, PS, SN, zs, rfl, _⟩ := h
    rfl
  · obtain ⟨c, D, sa, t, n, rs, E, M, p, PS, SN, zs, rfl, n8, TA, S, SA, ht, lz, h⟩ := h
    have hr_law_answer : Room 1 _ := hr.mono (by decide)
    refine ⟨_, PSs.nox (pss_cons (ps_if (PW.pt (pw_or (pt_cmpR op_ne (pe_callB (lenK (K := K)) (by rfl) T.free_len (by decide +kernel) (pa_cons (pv 2) pa_nil)) (pe_op op_add (pe_callB (lenK (K := K)) (by rfl) T.free_len (by decide +kernel) (pa_cons (pe_ix (ixT (K := K)) (pv 1) pe_int (fun _ _ => rfl)) pa_nil)) pe_int) (nomark _)) (pw_or1 (pt_not (pt_val (pe_callB (allK (K := K)) (by rfl) T.free_all (by decide +kernel) (pa_cons (pe_lc (own := [("_law_place", 3)]) (g := (gName 3)) (tt := tYes) rfl sc__law_fit.nd (piT (K := K) (pv 2)) (blkOk_by (by kernel_rfl)) (fun _ _ _ _ _ => (pg_name (i := 3) sc__law_fit.nd rfl (Or.inl rfl))) (fun _ _ _ _ _ => pts_nil) (fun _ _ _ _ _ => (pe_chain op_le op_lt pe_int (pv 3) (pe_callB (lenK (K := K)) (by rfl) T.free_len (by decide +kernel) (pa_cons (pv 0) pa_nil))))) pa_nil))))))) (pss_one (ps_ret pe_bl)) pss_nil)
      (pss_cons (ps_if (pt_cmpR (show OpR _ (compareOp .NotIn) (rIn K true) from op_notIn_seq) (pe_ix (ixT (K := K)) (pv 2) pe_int (fun _ _ => rfl)) (pe_ix (ixT (K := K)) (pv 1) pe_int (fun _ _ => rfl)) (by rfl)) (pss_one (ps_ret pe_bl)) pss_nil)
      (pss_cons (ps_if (pt_not (pt_val (pe_callB (allK (K := K)) (by rfl) T.free_all (by decide +kernel) (pa_cons (pe_lc (own := [("_law_pace_here", 4), ("_law_one", 5), ("_law_to", 6)]) (tt := tYes) rfl sc__law_fit.nd (pi_z3 true true true (K := K) (by rfl) T.free_zip (pa_cons (pe_ix (ixT (K := K)) (pv 1) pe_int (fun _ _ => rfl)) (pa_cons (pv 2) (pa_cons (pe_slice slTS (pv 2) (po_some pe_int) po_none) pa_nil)))) (blkOk_by (by kernel_rfl)) (fun _ _ _ _ _ => (pgT (K := K) (n := 3) rfl (pgs_cons (pg_name (i := 4) sc__law_fit.nd rfl (Or.inl rfl)) (pgs_cons (pg_name (i := 5) sc__law_fit.nd rfl (Or.inl rfl)) (pgs_cons (pg_name (i := 6) sc__law_fit.nd rfl (Or.inl rfl)) pgs_nil))))) (fun _ _ _ _ _ => pts_nil) (fun _ _ _ _ _ => (pe_cmpR op_le (pe_ix (ixL (K := K)) (pe_ix (ixL (K := K)) (pv 0) (pv 5) (fun _ _ => rfl)) (pv 6) (fun _ _ => rfl)) (pe_ix (ixT (K := K)) (pv 4) (pv 5) (fun _ _ => rfl)) (nomark _)))) pa_nil)))) (pss_one (ps_ret pe_bl)) pss_nil)
      (pss_one (ps_ret (pe_callB (allK (K := K)) (by rfl) T.free_all (by decide +kernel) (pa_cons (pe_lc (own := [("_law_beat", 7), ("_law_look_here", 8), ("_law_answer_here", 9)]) (tt := tYes) rfl sc__law_fit.nd (piT (K := K) (pe_ix (ixT (K := K)) (pv 1) pe_int (fun _ _ => rfl))) (blkOk_by (by kernel_rfl)) (fun _ _ _ _ _ => (pgT (K := K) (n := 3) rfl (pgs_cons (pg_name (i := 7) sc__law_fit.nd rfl (Or.inl rfl)) (pgs_cons (pg_name (i := 8) sc__law_fit.nd rfl (Or.inl rfl)) (pgs_cons (pg_name (i := 9) sc__law_fit.nd rfl (Or.inl rfl)) pgs_nil))))) (fun _ _ _ _ _ => pts_nil) (fun _ _ _ _ _ => (pe_cmpR op_eq (pe_call F_law_answer hr_law_answer rfl T.glo_law_answer kp_law_answer b_law_answer .nil pass0 (pa_cons (pv 0) (pa_cons (pv 8) (pa_cons (pe_ix (ixT (K := K)) (pv 2) (pv 7) (fun _ _ => rfl)) pa_nil)))) (pv 9) (nomark _)))) pa_nil))))))), ?_⟩
    obtain ⟨tl, tp, ts, hs, htl, htp, hts⟩ := SA.ex
    have lp := SA.lp
    have noF : ∀ {H'}, Same H H' → ¬ FitZ n PS.length p (stepR E PS) (openP M SN) zs → Q (.bl false) H' := fun s no => by
      have := h _ s
      rw [show decB (FitZ n PS.length p (stepR E PS) (openP M SN) zs) = false from Bool.eq_false_iff.mpr fun z => no (decB_true.mp z)] at this
      exact this
    refine ⟨_, rfl, t, _, rfl, .inr (SqT.of ht), _, rfl, sa, _, 1, _, rfl, rfl, SqT.of hs, rfl, tp, _, rfl, .inr (SqT.of htp), _, _, rfl, rfl, rfl, _, rfl, ?_⟩
    refine ite2 (fun z => ?_) (fun z => ?_)
    · refine iteT (noF (fun _ _ e => e) fun ⟨ws, e, f⟩ => ?_)
      have l := f.len
      have : zs.length = PS.length + 1 := by rw [e, List.length_map]; exact l
      rw [List.length_map, List.length_map, this] at z
      simp at z
    have lz2 : zs.length = PS.length + 1 := by
      rw [List.length_map, List.length_map] at z
      simp at z
      omega
    clear z
    refine ⟨_, rfl, t, rfl, ⟨_, SqT.of ht⟩, fun D1 hD1 => ?_⟩
    refine lc_val (walk_tup (K := K) (a := t) (xs := zs.map V.int)) (fun i => V.bl (decide (0 ≤ zs.getD i 0 ∧ zs.getD i 0 < (n : Int)))) (by rw [List.length_map]; omega) hD1 (fun H1 s1 => SqT.of (s1 _ _ ht)) ?_ ?_
    · rintro i y H1 H2 Nx hi s1 ⟨rfl, hy⟩ k
      obtain ⟨z1, hz, rfl⟩ := get_mapV hy
      have := k _ fun _ _ e => e
      rw [List.getD_eq_getElem?_getD, hz] at this
      have this : Nx (V.bl (decide (0 ≤ z1 ∧ z1 < (n : Int)))) H2 := this
      refine ⟨rfl, _, rfl, _, _, rfl, rfl, _, rfl, ?_⟩
      show if decide ((0 : Int) ≤ z1) = true then _ else _
      by_cases h0 : (0 : Int) ≤ z1
      · rw [decide_eq_true h0]
        refine iteT ⟨_, rfl, D, _, rfl, .inl (SqL.of (s1 _ _ TA.at_)), _, _, rfl, rfl, ?_⟩
        rw [show decide (0 ≤ z1 ∧ z1 < (n : Int)) = decide (z1 < (((rs.map V.ref).length : Nat) : Int)) by rw [List.length_map, TA.len, decide_eq_decide]; exact ⟨fun z => z.2, fun z => ⟨h0, z⟩⟩] at this
        exact this
      · rw [decide_eq_false h0]
        rw [show decide (0 ≤ z1 ∧ z1 < (n : Int)) = false from decide_eq_false fun z => h0 z.1] at this
        exact iteF this
    intro H1 h1 s1
    rw [List.length_map] at h1
    refine ⟨D1, (List.range zs.length).map fun i => decide (0 ≤ zs.getD i 0 ∧ zs.getD i 0 < (n : Int)), rfl, SqL.of (by rw [h1, List.map_map]; rfl), _, rfl, ?_⟩
    show if (!(((List.range zs.length).map fun i => decide (0 ≤ zs.getD i 0 ∧ zs.getD i 0 < (n : Int))).all id)) = true then _ else _
    refine ite2 (fun z => noF s1 fun ⟨ws, e, f⟩ => ?_) (fun z => ?_)
    · have g := goes_iff.1 (fit_iff.1 f).1
      rw [all_within.2 ⟨ws, e, g.2.1⟩] at z
      cases z
    obtain ⟨ws, ez, wn⟩ := all_within.1 (by simpa using z)
    clear z h1 hD1
    subst ez
    rw [List.length_map] at lz2
    rw [← vI_map] at ht
    have ht1 := s1 _ _ ht
    have hs1 := s1 _ _ hs
    have gw : ∀ i, i ≤ PS.length → ws[i]? = some (ws.getD i 0) := fun i hi => by
      rw [List.getD_eq_getElem?_getD, List.getElem?_eq_getElem (by omega)]
      rfl
    have noG : ∀ {H'}, Same H H' → ¬ Fit n PS.length p (stepR E PS) (openP M SN) ws → Q (.bl false) H' := fun s no => noF s fun ⟨ws', e, f⟩ => no (by rw [nI_inj e]; exact f)
    have a0 : atI (ws.map vI) 0 = some (vI (ws.getD 0 0)) := atI_nat (get_map (gw 0 (Nat.zero_le _)))
    refine ⟨_, rfl, t, _, 0, _, rfl, rfl, SqT.of ht1, a0, _, rfl, sa, _, 0, _, rfl, rfl, SqT.of hs1, rfl, tl, _, rfl, .inr (SqT.of (s1 _ _ htl)), rfl, flat_vI _, _, rfl, ?_⟩
    show if (!inV (V.int (((ws.getD 0 0 : Nat)) : Int)) ((lotP n p).map vI)) = true then _ else _
    rw [in_lotZ]
    by_cases hin : ∃ b, b ∈ lotP n p ∧ nI b = (((ws.getD 0 0 : Nat)) : Int)
    case neg =>
      rw [decide_eq_false hin]
      refine iteT (noG s1 fun f => hin ?_)
      have g := goes_iff.1 (fit_iff.1 f).1
      exact ⟨_, mem_lotP.mpr ⟨wn _ (List.mem_of_getElem? (gw 0 (Nat.zero_le _))), g.2.2.1⟩, rfl⟩
    rw [decide_eq_true hin]
    refine iteF ?_
    have p0 : p (ws.getD 0 0) := by
      obtain ⟨b, hb, e⟩ := hin
      have : b = ws.getD 0 0 := by
        unfold nI at e
        omega
      rw [← this]
      exact (mem_lotP.mp hb).2
    clear hin
    refine ⟨_, rfl, sa, _, 1, _, rfl, rfl, SqT.of hs1, rfl, _, rfl, _, rfl, _, rfl, t, _, rfl, ht1, fun t2 H2 ht2 s2 => ?_⟩
    have ht2 : H2 t2 = some (.tup ((ws.drop 1).map vI)) := by rw [ht2, show (some (1 : Int)) = some ((1 : Nat) : Int) from rfl, cut_from 1, List.map_drop]
    have s12 := s1.trans s2
    refine ⟨tp, t, t2, _, _, _, rfl, SqT.of (s12 _ _ htp), SqT.of (s12 _ _ ht), SqT.of ht2, fun D3 hD3 => ?_⟩
    refine lc_val (walk_z3 (K := K) (u1 := true) (u2 := true) (u3 := true) (a := tp) (b := t) (c := t2) (xs := PS.map fun q => V.ref q.1) (ys := ws.map vI) (zs := (ws.drop 1).map vI) (n := PS.length) (by simp only [List.length_map, List.length_drop]; omega)) (fun i => V.bl (okS M PS ws i)) (by omega) hD3 (fun H3 s3 => ⟨SqT.of (s3 _ _ (s12 _ _ htp)), SqT.of (s3 _ _ (s12 _ _ ht)), SqT.of (s3 _ _ ht2)⟩) ?_ ?_
    · rintro i y H3 H4 Nx hi s3 ⟨T1, y1, y2, y3, rfl, hT, rfl, e1, e2, e3⟩ k
      obtain ⟨q, hq, rfl⟩ := get_mapV (show (PS.map fun q => V.ref q.1)[i]? = some y1 from e1)
      have e2 : (ws.map vI)[i]? = some y2 := e2
      rw [get_map (gw i (by omega))] at e2
      cases e2
      have e3 : ((ws.drop 1).map vI)[i]? = some y3 := e3
      rw [List.getElem?_map, List.getElem?_drop, Nat.add_comm, gw (i + 1) (by omega)] at e3
      cases e3
      have s4 := same_upd (o := HO.tup [V.ref q.1, vI (ws.getD i 0), vI (ws.getD (i + 1) 0)]) hT
      have hT4 : (upd H3 T1 (.tup [V.ref q.1, vI (ws.getD i 0), vI (ws.getD (i + 1) 0)])) T1 = some (.tup [V.ref q.1, vI (ws.getD i 0), vI (ws.getD (i + 1) 0)]) := upd_same
      generalize upd H3 T1 (.tup [V.ref q.1, vI (ws.getD i 0), vI (ws.getD (i + 1) 0)]) = H4 at s4 hT4
      have s14 := (s12.trans s3).trans s4
      have w1 := wn _ (List.mem_of_getElem? (gw i (by omega)))
      have w2 := wn _ (List.mem_of_getElem? (gw (i + 1) (by omega)))
      have PQ := SA.pc q (List.mem_of_getElem? hq)
      obtain ⟨r, hr1, hr2⟩ := (TA.same s14).get w1
      refine ⟨T1, _, rfl, SqT.of hT4, rfl, _, _, rfl, _, _, rfl, _, _, rfl, rfl, rfl, ?_⟩
      refine ⟨_, rfl, _, rfl, D, _, _, _, rfl, rfl, SqL.of (s14 _ _ TA.at_), atI_nat (get_map hr1), _, rfl, r, _, _, _, rfl, rfl, SqL.of hr2, atI_nat (row_get w2), ?_⟩
      refine ⟨_, rfl, _, rfl, q.1, _, _, _, rfl, rfl, SqT.of (s14 _ _ PQ.1), atI_nat (get_map (pace_get PQ.2 w1)), ?_⟩
      refine ⟨_, _, rfl, rfl, ?_⟩
      have := k _ s4
      have e : decide (((M (ws.getD i 0) (ws.getD (i + 1) 0) : Nat) : Int) ≤ ((q.2.getD (ws.getD i 0) 0 : Nat) : Int)) = okS M PS ws i := by
        unfold okS
        rw [hq]
        exact decide_eq_decide.mpr Int.ofNat_le
      rw [← e] at this
      exact this
    intro H3 h3 s3
    have s13 := s12.trans s3
    refine ⟨D3, (List.range PS.length).map (okS M PS ws), rfl, SqL.of (by rw [h3, List.map_map]; rfl), _, rfl, ?_⟩
    show if (!(((List.range PS.length).map (okS M PS ws)).all id)) = true then _ else _
    have key := okS_all S (fun q hq => (SA.pc q hq).2) lz2 wn
    refine ite2 (fun z => noG s13 fun f => ?_) (fun z => ?_)
    · have g := goes_iff.1 (fit_iff.1 f).1
      rw [key.2 g.2.2.2] at z
      cases z
    have g : Goes n p (stepR E PS) PS.length ws := goes_iff.2 ⟨lz2, wn, p0, key.1 (by simpa using z)⟩
    clear z key h3 hD3
    have hts3 := s13 _ _ hts
    refine ⟨_, rfl, sa, _, 2, _, rfl, rfl, SqT.of (s13 _ _ hs), rfl, ts, rfl, ⟨_, SqT.of hts3⟩, fun D4 hD4 => ?_⟩
    have ls := SA.ls
    refine lc_val (walk_tup (K := K) (a := ts) (xs := SN.map fun q => V.ref q.1)) (fun i => V.bl (!missN M SN ws i)) (by rw [List.length_map]; omega) hD4 (fun H4 s4 => SqT.of (s4 _ _ hts3)) ?_ ?_
    · rintro i y H4 H5 Nx hi s4 ⟨rfl, hy⟩ k
      obtain ⟨q, hq, rfl⟩ := get_mapV hy
      have s14 := s13.trans s4
      have mq := SA.sn q (List.mem_of_getElem? hq)
      have TR := mq.1.same s14
      have gb := gw q.2.2.beat mq.2
      have wb := wn _ (List.mem_of_getElem? gb)
      refine ⟨q.1, _, rfl, SqT.of TR.1, rfl, _, _, rfl, _, _, rfl, _, _, rfl, rfl, rfl, ?_⟩
      refine ⟨_, rfl, _, rfl, _, rfl, _, rfl, t, _, _, _, rfl, rfl, SqT.of (s14 _ _ ht), atI_nat (get_map gb), ?_⟩
      refine ⟨c, D, q.2.1, n, _, rs, M, q.2.2.look, rfl, n8, TA.same s14, TR.2.1, TR.2.2, wb, fun H6 s6 => ?_⟩
      refine ⟨_, rfl, rfl, ?_⟩
      have := k _ s6
      have em : decide (vI (ans M q.2.2.look (ws.getD q.2.2.beat 0)) = vI q.2.2.told) = !missN M SN ws i := by
        unfold missN missT
        rw [hq]
        show _ = !!decide (ans M q.2.2.look (ws.getD q.2.2.beat 0) = q.2.2.told)
        rw [Bool.not_not, decide_eq_decide]
        unfold vI
        exact ⟨fun z => by have := V.int.inj z; omega, fun z => by rw [z]⟩
      rw [← em] at this
      exact this
    intro H4 h4 s4
    rw [List.length_map] at h4
    refine ⟨D4, (List.range SN.length).map (fun i => !missN M SN ws i), rfl, SqL.of (by rw [h4, List.map_map]; rfl), ?_⟩
    have := h _ (s13.trans s4)
    have key := miss_none (M := M) (SN := SN) lz2 fun q hq => (SA.sn q hq).2
    have ed : ((List.range SN.length).map (fun i => !missN M SN ws i)).all id = decB (FitZ n PS.length p (stepR E PS) (openP M SN) (ws.map nI)) := by
      refine Bool.eq_iff_iff.mpr ?_
      rw [decB_true]
      have e1 : ((List.range SN.length).map (fun i => !missN M SN ws i)).all id = true ↔ ((List.range SN.length).filter (missN M SN ws)).length = 0 := by
        rw [List.length_eq_zero_iff, List.filter_eq_nil_iff, List.all_eq_true]
        constructor
        · intro z i hi
          have := z _ (List.mem_map.mpr ⟨i, hi, rfl⟩)
          simpa using this
        · intro z b hb
          obtain ⟨i, hi, rfl⟩ := List.mem_map.mp hb
          have := z i hi
          simpa using this
      rw [e1]
      constructor
      · intro z
        exact ⟨ws, rfl, fit_iff.2 ⟨g, key.1 z⟩⟩
      · rintro ⟨ws', ew', f⟩
        rw [← nI_inj ew'] at f
        exact key.2 (fit_iff.1 f).2
    rw [← ed] at this
    exact this
end
end RL
namespace RL
open PySem PySem.Spec PyProof.Rows L2 RLM
/-- how many walks go on from a at beat i, each beat in its lot -/
noncomputable def cntN (n m : Nat) (R : Nat → Nat → Nat → Prop) (O : Nat → Nat → Prop) (i a : Nat) : Nat := if decB (O i a) = true then (tails n m R O (m - i) a).length else 0
theorem cnt_in {n m i a : Nat} {R : Nat → Nat → Nat → Prop} {O : Nat → Nat → Prop} (h : O i a) : cntN n m R O i a = (tails n m R O (m - i) a).length := if_pos (decB_true.mpr h)
theorem cnt_out {n m i a : Nat} {R : Nat → Nat → Nat → Prop} {O : Nat → Nat → Prop} (h : ¬ O i a) : cntN n m R O i a = 0 := if_neg fun z => h (decB_true.mp z)
theorem cnt_last {n m a : Nat} {R : Nat → Nat → Nat → Prop} {O : Nat → Nat → Prop} (h : O m a) : cntN n m R O m a = 1 := by
  rw [cnt_in h, Nat.sub_self]
  rfl
/-- a sum over those that are let -/
theorem sum_let {n : Nat} {A : Nat → Prop} {O : Nat → Prop} {f : Nat → Nat} (g : Nat → Nat) (h1 : ∀ b, b < n → O b → g b = f b) (h2 : ∀ b, b < n → ¬ O b → g b = 0) : ((lotP n A).map g).sum = ((lotP n fun b => A b ∧ O b).map f).sum := by
  have e : lotP n (fun b => A b ∧ O b) = (lotP n A).filter fun b => decB (O b) := by
    refine (lotP_of ((lotP_sorted n A).filter _) fun b => ?_).symm
    rw [List.mem_filter, mem_lotP, decB_true]
    exact ⟨fun z => ⟨z.1.1, z.1.2, z.2⟩, fun z => ⟨⟨z.1, z.2.1⟩, z.2.2⟩⟩
  rw [e]
  have key : ∀ xs : List Nat, (∀ b ∈ xs, b < n) → (xs.map g).sum = ((xs.filter fun b => decB (O b)).map f).sum := fun xs => by
    induction xs with
    | nil => intro _; rfl
    | cons b xs ih =>
      intro hx
      have bn := hx b (by simp)
      have ih' := ih fun c hc => hx c (List.mem_cons_of_mem _ hc)
      rw [List.map_cons, List.sum_cons, List.filter_cons]
      cases e : decB (O b) with
      | true =>
        rw [if_pos rfl, List.map_cons, List.sum_cons, ih', h1 b bn (decB_true.mp e)]
      | false =>
        rw [if_neg (by simp), ih', h2 b bn (fun z => by rw [decB_true.mpr z] at e; cases e), Nat.zero_add]
  exact key _ fun b hb => (mem_lotP.mp hb).1
theorem cnt_next {n m i a : Nat} {R : Nat → Nat → Nat → Prop} {O : Nat → Nat → Prop} (hi : i < m) (h : O i a) : cntN n m R O i a = ((lotP n (R i a)).map (cntN n m R O (i + 1))).sum := by
  rw [cnt_in h, show m - i = (m - (i + 1)) + 1 by omega, tails_many, show m - (m - (i + 1) + 1) = i by omega, show m - (m - (i + 1)) = i + 1 by omega]
  exact (sum_let _ (fun b _ ob => cnt_in ob) (fun b _ ob => cnt_out ob)).symm
theorem walks_cnt {n m : Nat} {S : Nat → Prop} {R : Nat → Nat → Nat → Prop} {O : Nat → Nat → Prop} : (walks n m S R O).length = ((lotP n S).map (cntN n m R O 0)).sum := by
  rw [walks_many]
  refine (sum_let _ (fun b _ ob => ?_) (fun b _ ob => cnt_out ob)).symm
  rw [cnt_in ob, Nat.sub_zero]
theorem sum_nI (xs : List Nat) : (xs.map nI).sum = nI xs.sum := by
  induction xs with
  | nil => rfl
  | cons x xs ih =>
    rw [List.map_cons, List.sum_cons, ih, List.sum_cons]
    show (x : Int) + ((xs.sum : Nat) : Int) = (((x + xs.sum : Nat)) : Int)
    omega
/-- rows of counts, as lists -/
structure CountsAt (n : Nat) (H : Hp) (D : Addr) (m : Nat) (f : Nat → Nat → Nat) : Prop where
  ex : ∃ us : List Addr, H D = some (.lst (us.map V.ref)) ∧ us.length = m ∧ ∀ (i : Nat) (u : Addr), us[i]? = some u → H u = some (.lst ((List.range n).map fun a => vI (f i a)))
theorem CountsAt.same {n : Nat} {H H' : Hp} {D : Addr} {m : Nat} {f : Nat → Nat → Nat} (s : Same H H') (h : CountsAt n H D m f) : CountsAt n H' D m f := by
  obtain ⟨us, h1, l1, r1⟩ := h.ex
  exact ⟨⟨us, s _ _ h1, l1, fun k v e => s _ _ (r1 k v e)⟩⟩
theorem cut_init {us : List Addr} {m : Nat} (l : us.length = m + 1) : cutV (us.map V.ref) none (some (-1)) = (us.take m).map V.ref := by
  unfold cutV
  rw [HT.sIx_none, List.drop_zero, Nat.sub_zero, List.length_map, l]
  show (us.map V.ref).take ((-1 + ((m + 1 : Nat) : Int)).toNat) = _
  rw [show (-1 + ((m + 1 : Nat) : Int)).toNat = m by omega, List.map_take]
section
variable {P : Program} {w : World} {K : PySem.W.Frag} {mg : Str → Option Value} {base : Heap}
def spCounts (K : PySem.W.Frag) : Sp := fun vs H Q _ => ∃ (c x tp l : Addr) (n : Nat) (E : List (Nat × Nat)) (PS : List (Addr × List Nat)) (O : Nat → Nat → Prop), vs = [.ref x, .ref tp, .ref l] ∧ BoardAt K c H x n E ∧ H tp = some (.tup (PS.map fun q => V.ref q.1)) ∧ (∀ q ∈ PS, H q.1 = some (.tup (q.2.map vI)) ∧ PaceOk n q.2) ∧ PS.length ≤ 12 ∧ LotsAt n H l (PS.length + 1) O ∧
  ∀ H' r, CountsAt n H' r (PS.length + 1) (cntN n PS.length (stepR E PS) O) → H r = none → Same H H' → Q (.ref r) H'
theorem sc_onward_counts : FnScope ["board", "paces", "lots", "places", "counts", "pace", "lot", "later", "place", "end"] ["board", "paces", "lots"] (defScope s_onward_counts) := ⟨rfl, rfl, rfl, by decide +kernel, rfl, by decide +kernel, by decide +kernel⟩
theorem ok_counts (T : Tx K mg) : Has P w K mg base (He.ga K "onward_counts") 5 ["board", "paces", "lots"] (spCounts K) := by
  obtain ⟨⟨fd_within, F_within, b_within⟩, kp_within⟩ := ok_within (P := P) (w := w) (base := base) T
  obtain ⟨⟨fd_len, F_len, b_len⟩, kp_len⟩ := ok_len (P := P) (w := w) (base := base) T
  obtain ⟨fd, F⟩ := T.d_onward_counts
  refine ⟨⟨fd, F.ok sc_onward_counts (fun vs H Q E h => ?_) (fun cdv A outer s H vs Q E hr h => ?_), F.bindsN fun _ _ _ _ _ _ us hl => match us, hl with | [_, _, _], _ => rfl⟩, F.kp⟩
  · obtain ⟨c, x, tp, l, n, E, PS, O, rfl, _⟩ := h
    rfl
  · obtain ⟨c, x, tp, l, n, E, PS, O, rfl, B, htp, pc, lp, LA, h⟩ := h
    have hr_within : Room 4 _ := hr.mono (by decide)
    have hr_len : Room 2 _ := hr.mono (by decide)
    refine ⟨_, PSs.nox (pss_cons (ps_set (i := 3) sc_onward_counts.nd rfl (Or.inl rfl) (pe_listRg rfl (by rfl) T.free_list (prg_1 (by rfl) T.free_range (pe_callB (call_lenOwn T.m_len F_len b_len hr_len) (by rfl) T.free_len (by decide +kernel) (pa_cons (pv 0) pa_nil)))))
      (pss_cons (ps_set (i := 4) sc_onward_counts.nd rfl (Or.inl rfl) (pe_lst (pa_cons (pe_lc (own := [("place", 8)]) (g := (gName 8)) (tt := tYes) rfl sc_onward_counts.nd (piL (K := K) (pv 3)) (blkOk_by (by kernel_rfl)) (fun _ _ _ _ _ => (pg_name (i := 8) sc_onward_counts.nd rfl (Or.inl rfl))) (fun _ _ _ _ _ => pts_nil) (fun _ _ _ _ _ => (pe_ifExp (pt_cmpR (inSq (K := K)) (pv 8) (pe_ix (ixL (K := K)) (pv 2) (pe_un un_neg pe_int) (fun _ _ => rfl)) (by rfl)) pe_int pe_int))) pa_nil)))
      (pss_cons (ps_for PassesOwn.never rfl (pi_zh true false (K := K) (by rfl) T.free_zip (pa_cons (pe_revT (K := K) (pv 1)) (pa_cons (pe_revLK (K := K) (pe_slice (slL (K := K)) (pv 2) po_none (po_some (pe_un un_neg pe_int)))) pa_nil))) (pgT (K := K) (n := 2) rfl (pgs_cons (pg_name (i := 5) sc_onward_counts.nd rfl (Or.inr rfl)) (pgs_cons (pg_name (i := 6) sc_onward_counts.nd rfl (Or.inr rfl)) pgs_nil))) (pss_cons (ps_set (i := 7) sc_onward_counts.nd rfl (Or.inr rfl) (pe_ix (ixL (K := K)) (pv 4) (pe_un un_neg pe_int) (fun _ _ => rfl)))
      (pss_one (ps_expr (bmK (K := K) PySem.F.plainAttrs_list PySem.F.slot_list_append PySem.F.type_list_append mt_append (pv 4) (pa_cons (pe_lc (own := [("place", 8)]) (g := (gName 8)) (tt := tYes) rfl sc_onward_counts.nd (piL (K := K) (pv 3)) (blkOk_by (by kernel_rfl)) (fun _ _ _ _ _ => (pg_name (i := 8) sc_onward_counts.nd rfl (Or.inl rfl))) (fun _ _ _ _ _ => pts_nil) (fun _ _ _ _ _ => (pe_ifExp (pt_cmpR (inSq (K := K)) (pv 8) (pv 6) (by rfl)) (pe_callB (sumK (K := K)) (by rfl) T.free_sum (by decide +kernel) (pa_cons (pe_lc (own := [("end", 9)]) (g := (gName 9)) (tt := tYes) rfl sc_onward_counts.nd (piT (K := K) (pe_meth (pv 0) T.cl T.m_within F_within hr_within b_within .nil pass0 (pa_cons (pv 8) (pa_cons (pe_ix (ixT (K := K)) (pv 5) (pv 8) (fun _ _ => rfl)) pa_nil)))) (blkOk_by (by kernel_rfl)) (fun _ _ _ _ _ => (pg_name (i := 9) sc_onward_counts.nd rfl (Or.inl rfl))) (fun _ _ _ _ _ => pts_nil) (fun _ _ _ _ _ => (pe_ix (ixL (K := K)) (pv 7) (pv 9) (fun _ _ => rfl)))) pa_nil)) pe_int))) pa_nil))))))
      (pss_one (ps_ret (pe_revLK (K := K) (pv 4))))))), ?_⟩
    have n8 := B.hi
    have n1 := B.lo
    obtain ⟨us, hus, lus, rus⟩ := LA.ex
    obtain ⟨dx, q1, q2, q3, hx⟩ := B.obj
    refine ⟨_, rfl, x, dx, _, rfl, hx, c, x, n, E, rfl, B, (n : Int), rfl, by omega, by omega, (n : Int), rfl, RgOk.of_le (by decide) (by omega) (by decide) (by omega), fun r hr => ?_⟩
    have s1 := same_upd (o := HO.lst (rgV 0 (n : Int))) hr
    have hr1 : (upd H r (.lst (rgV 0 (n : Int)))) r = some (.lst ((List.range n).map vI)) := by rw [upd_same, rg_range]
    generalize upd H r (.lst (rgV 0 (n : Int))) = H1 at s1 hr1
    have hm : us[PS.length]? = some (us[PS.length]'(by omega)) := List.getElem?_eq_getElem _
    generalize us[PS.length]'(by omega) = um at hm
    have lastU : atI (us.map V.ref) (-1) = some (V.ref um) := by
      have e : us = us.take PS.length ++ [um] := by
        have e := List.take_append_drop PS.length us
        rw [List.drop_eq_getElem_cons (by omega), List.drop_of_length_le (by omega)] at e
        have e2 : us[PS.length]'(by omega) = um := by
          rw [List.getElem?_eq_getElem (by omega)] at hm
          exact Option.some.inj hm
        rw [e2] at e
        exact e.symm
      rw [e, List.map_append]
      exact atI_last _ _
    have range_i : ∀ {i b : Nat}, (List.range n)[i]? = some b → i < n ∧ b = i := fun {i b} hb => by
      obtain ⟨z1, z2⟩ := List.getElem?_eq_some_iff.mp hb
      rw [List.getElem_range] at z2
      rw [List.length_range] at z1
      exact ⟨z1, z2.symm⟩
    refine ⟨_, rfl, r, rfl, ⟨_, SqL.of hr1⟩, fun D2 hD2 => ?_⟩
    refine lc_val (walk_list (K := K) (a := r) (xs := (List.range n).map vI)) (fun a => vI (cntN n PS.length (stepR E PS) O PS.length a)) (by simp; omega) hD2 (fun H2 s2 => SqL.of (s2 _ _ hr1)) ?_ ?_
    · rintro i y H2 H3 Nx hi s2 ⟨rfl, hy⟩ k
      obtain ⟨b, hb, rfl⟩ := get_vI hy
      obtain ⟨bn, rfl⟩ := range_i hb
      have s12 := s1.trans s2
      refine ⟨rfl, _, rfl, _, rfl, 1, rfl, l, _, _, _, rfl, rfl, SqL.of (s12 _ _ hus), lastU, um, _, rfl, .inr (SqT.of (s12 _ _ (rus _ _ hm))), rfl, flat_vI _, _, rfl, ?_⟩
      show if inV (vI b) ((lotP n (O PS.length)).map vI) = true then _ else _
      rw [in_lot]
      refine ite2 (fun z => ?_) (fun z => ?_)
      · have := k _ fun _ _ e => e
        rw [cnt_last (mem_lotP.mp (of_decide_eq_true z)).2] at this
        exact this
      · have := k _ fun _ _ e => e
        rw [cnt_out fun ob => z (decide_eq_true (mem_lotP.mpr ⟨bn, ob⟩))] at this
        exact this
    intro H2 h2 s2
    rw [List.length_map, List.length_range] at h2
    refine ⟨(by show 1 ≤ sizeLine; decide), fun f hf => ?_⟩
    have s3 := same_upd (o := HO.lst [V.ref D2]) hf
    have hf3 : (upd H2 f (.lst [V.ref D2])) f = some (.lst [V.ref D2]) := upd_same
    have s13 := (s1.trans s2).trans s3
    have s23 := s2.trans s3
    have h23 := s3 _ _ h2
    have Hf : H f = none := (s1.trans s2).free hf
    generalize upd H2 f (.lst [V.ref D2]) = H3 at s3 hf3 s13 s23 h23
    refine ⟨_, rfl, tp, _, rfl, SqT.of (s13 _ _ htp), fun tr htr => ?_⟩
    have s4 := same_upd (o := HO.tup (PS.map fun q => V.ref q.1).reverse) htr
    have hr4 : (upd H3 tr (.tup (PS.map fun q => V.ref q.1).reverse)) tr = some (.tup (PS.reverse.map fun q => V.ref q.1)) := by rw [upd_same, List.map_reverse]
    have s14 := s13.trans s4
    have hf4 := s4 _ _ hf3
    have h24 := s4 _ _ h23
    have s24 := s23.trans s4
    generalize upd H3 tr (.tup (PS.map fun q => V.ref q.1).reverse) = H4 at s4 hr4 s14 hf4 h24 s24
    refine ⟨_, rfl, 1, rfl, -1, rfl, l, _, rfl, SqL.of (s14 _ _ hus), fun l5 hl5 => ?_⟩
    have s5 := same_upd (o := HO.lst (cutV (us.map V.ref) none (some (-1)))) hl5
    have h5 : (upd H4 l5 (.lst (cutV (us.map V.ref) none (some (-1))))) l5 = some (.lst ((us.take PS.length).map V.ref)) := by rw [upd_same, cut_init lus]
    have s45 := s5
    generalize upd H4 l5 (.lst (cutV (us.map V.ref) none (some (-1)))) = H5 at s5 h5 s45
    refine ⟨l5, _, rfl, SqL.of h5, fun l6 hl6 => ?_⟩
    have s6 := same_upd (o := HO.lst ((us.take PS.length).map V.ref).reverse) hl6
    have h6 : (upd H5 l6 (.lst ((us.take PS.length).map V.ref).reverse)) l6 = some (.lst ((us.take PS.length).reverse.map V.ref)) := by rw [upd_same, List.map_reverse]
    have s46 := s5.trans s6
    have s16 := s14.trans s46
    have hf6 := s46 _ _ hf4
    have hr6 := s46 _ _ hr4
    have h26 := s46 _ _ h24
    have s26 := s24.trans s46
    have nfl : f ≠ l6 := fun z => by
      have := s5 _ _ hf4
      rw [z, hl6] at this
      cases this
    have hr16 := s26 _ _ hr1
    have H1f : H1 f = none := s2.free hf
    generalize upd H5 l6 (.lst ((us.take PS.length).map V.ref).reverse) = H6 at s6 h6 s46 s16 hf6 hr6 h26 s26 hr16
    refine ⟨tr, l6, PS.reverse.map (fun q => V.ref q.1), (us.take PS.length).reverse.map V.ref, rfl, SqT.of hr6, SqL.of h6, ?_⟩
    refine for_it (walk_zh (u1 := true) (u2 := false) (K := K) (a := tr) (b := l6) (xs := PS.reverse.map fun q => V.ref q.1) (ys := (us.take PS.length).reverse.map V.ref) (n := PS.length) (by simp [lus])) (fun i σ H7 => ∃ (v5 v6 v7 : Option V) (vs : List Addr) (v : Addr), σ = [some (.ref x), some (.ref tp), some (.ref l), some (.ref r), some (.ref f), v5, v6, v7, none, none] ∧ H7 f = some (.lst ((vs ++ [v]).map V.ref)) ∧ vs.length = i ∧ (∀ (k : Nat) (u : Addr), (vs ++ [v])[k]? = some u → H7 u = some (.lst ((List.range n).map fun a => vI (cntN n PS.length (stepR E PS) O (PS.length - k) a))) ∧ u ≠ f) ∧ Same H1 H7 ∧ H7 l6 = some (.lst ((us.take PS.length).reverse.map V.ref)) ∧ H7 tr = some (.tup (PS.reverse.map fun q => V.ref q.1)))
      ⟨none, none, none, [], D2, rfl, hf6, rfl, fun k u e => ?_, s26, h6, hr6⟩ (fun i σ H7 _ ⟨_, _, _, _, _, _, _, _, _, _, z1, z2⟩ => ⟨SqT.of z2, SqL.of z1⟩) ?_ ?_
    · cases k with
      | zero =>
        cases e
        exact ⟨h26, fun z => by rw [z, hf] at h2; cases h2⟩
      | succ k => simp at e
    · rintro i y σ H7 H8 hi ⟨v5, v6, v7, vs, v, rfl, h7, lv, rv, s7, hl7, hr7⟩ ⟨T1, y1, y2, rfl, hT, rfl, e1, e2⟩
      have hq : PS[PS.length - (i + 1)]? = some (PS[PS.length - (i + 1)]'(by omega)) := List.getElem?_eq_getElem _
      generalize PS[PS.length - (i + 1)]'(by omega) = q at hq
      have ey1 : y1 = V.ref q.1 := by
        have e3 : (PS.reverse.map fun q => V.ref q.1)[i]? = some y1 := e1
        rw [List.getElem?_map, List.getElem?_reverse (by omega), show PS.length - 1 - i = PS.length - (i + 1) by omega, hq] at e3
        exact (Option.some.inj e3).symm
      have hu1 : us[PS.length - (i + 1)]? = some (us[PS.length - (i + 1)]'(by omega)) := List.getElem?_eq_getElem _
      generalize us[PS.length - (i + 1)]'(by omega) = u1 at hu1
      have ey2 : y2 = V.ref u1 := by
        have e3 : ((us.take PS.length).reverse.map V.ref)[i]? = some y2 := e2
        have lt : (us.take PS.length).length = PS.length := by rw [List.length_take]; omega
        rw [List.getElem?_map, List.getElem?_reverse (by omega), lt, show PS.length - 1 - i = PS.length - (i + 1) by omega, List.getElem?_take_of_lt (by omega), hu1] at e3
        exact (Option.some.inj e3).symm
      subst ey1 ey2
      have s8 : Same H7 (upd H7 T1 (.tup [.ref q.1, .ref u1])) := same_upd hT
      have hT8 : (upd H7 T1 (.tup [.ref q.1, .ref u1])) T1 = some (.tup [.ref q.1, .ref u1]) := upd_same
      generalize upd H7 T1 (.tup [.ref q.1, .ref u1]) = H8 at s8 hT8
      have s18 := s7.trans s8
      have s08 := s1.trans s18
      have h8 := s8 _ _ h7
      obtain ⟨hv7, vf⟩ := rv i v (by rw [List.getElem?_append_right (by omega), lv, Nat.sub_self]; rfl)
      have hv := s8 _ _ hv7
      have PQ := pc q (List.mem_of_getElem? hq)
      refine ⟨T1, _, rfl, SqT.of hT8, rfl, _, _, rfl, _, _, rfl, rfl, ?_⟩
      refine ⟨_, rfl, 1, rfl, f, _, _, _, rfl, rfl, SqL.of h8, at_last, ?_⟩
      refine ⟨_, rfl, .inl ⟨rfl, _, SqL.of h8⟩, _, rfl, r, rfl, ⟨_, SqL.of (s18 _ _ hr1)⟩, fun D9 hD9 => ?_⟩
      refine lc_val (walk_list (K := K) (a := r) (xs := (List.range n).map vI)) (fun a => vI (cntN n PS.length (stepR E PS) O (PS.length - (i + 1)) a)) (by simp; omega) hD9 (fun H9 s9 => SqL.of (s9 _ _ (s18 _ _ hr1))) ?_ ?_
      · rintro j y H9 H10 Nx hj s9 ⟨rfl, hy⟩ k
        obtain ⟨b, hb, rfl⟩ := get_vI hy
        obtain ⟨bn, rfl⟩ := range_i hb
        have s09 := s08.trans s9
        refine ⟨rfl, _, rfl, _, rfl, u1, _, rfl, .inr (SqT.of (s09 _ _ (rus _ _ hu1))), rfl, flat_vI _, _, rfl, ?_⟩
        show if inV (vI b) ((lotP n (O (PS.length - (i + 1)))).map vI) = true then _ else _
        rw [in_lot]
        refine ite2 (fun z => ?_) (fun z => ?_)
        · have ob := (mem_lotP.mp (of_decide_eq_true z)).2
          have B9 := B.same s09
          obtain ⟨dx9, q19, q29, q39, hx9⟩ := B9.obj
          refine ⟨_, rfl, x, dx9, _, rfl, hx9, bf_within _ _ _ _, _, rfl, _, rfl, _, rfl, q.1, _, _, _, rfl, rfl, SqT.of (s09 _ _ PQ.1), atI_nat (get_map (pace_get PQ.2 bn)), c, x, n, b, _, E, rfl, B9, bn, fun H11 t11 ht11 s11 => ?_⟩
          obtain ⟨W, eW⟩ : ∃ W, W = lotP n (Near E ((q.2.getD b 0 : Nat) : Int) b) := ⟨_, rfl⟩
          rw [← eW] at ht11
          have lW : W.length ≤ n := by rw [eW]; exact lotP_len _ _
          refine ⟨t11, rfl, ⟨_, SqT.of ht11⟩, fun D12 hD12 => ?_⟩
          refine lc_val (walk_tup (K := K) (a := t11) (xs := W.map vI)) (fun k' => vI (cntN n PS.length (stepR E PS) O (PS.length - i) (W.getD k' 0))) (by rw [List.length_map]; omega) hD12 (fun H12 s12 => SqT.of (s12 _ _ ht11)) ?_ ?_
          · rintro k' y' H12 H13 Nx' hk' s12 ⟨rfl, hy'⟩ kk'
            obtain ⟨e', he', rfl⟩ := get_vI hy'
            have en : e' < n := by
              have := List.mem_of_getElem? he'
              rw [eW] at this
              exact (mem_lotP.mp this).1
            have hv12 := s12 _ _ (s11 _ _ (s9 _ _ hv))
            refine ⟨rfl, _, rfl, _, rfl, v, _, _, _, rfl, rfl, SqL.of hv12, atI_nat (row_get en), ?_⟩
            have := kk' _ fun _ _ e => e
            rw [List.getD_eq_getElem?_getD, he'] at this
            exact this
          · intro H12 h12 s12
            have gd : (List.range (W.map vI).length).map (fun k' => vI (cntN n PS.length (stepR E PS) O (PS.length - i) (W.getD k' 0))) = (W.map fun e' => nI (cntN n PS.length (stepR E PS) O (PS.length - i) e')).map V.int := by
              rw [List.length_map, List.map_map]
              refine List.ext_getElem? fun z' => ?_
              rw [List.getElem?_map, List.getElem?_map]
              by_cases hz : z' < W.length
              · rw [List.getElem?_range hz, List.getElem?_eq_getElem hz]
                show some (vI (cntN n PS.length (stepR E PS) O (PS.length - i) (W.getD z' 0))) = some (V.int (nI (cntN n PS.length (stepR E PS) O (PS.length - i) W[z'])))
                rw [List.getD_eq_getElem?_getD, List.getElem?_eq_getElem hz]
                rfl
              · rw [List.getElem?_eq_none (by simpa using hz), List.getElem?_eq_none (by simpa using hz)]
                rfl
            rw [gd] at h12
            refine ⟨D12, _, rfl, SqL.of h12, ?_⟩
            have := k _ (s11.trans s12)
            have es : V.int ((W.map fun e' => nI (cntN n PS.length (stepR E PS) O (PS.length - i) e')).sum) = vI (cntN n PS.length (stepR E PS) O (PS.length - (i + 1)) b) := by
              rw [cnt_next (i := PS.length - (i + 1)) (by omega) ob, show PS.length - (i + 1) + 1 = PS.length - i by omega]
              have el : lotP n (stepR E PS (PS.length - (i + 1)) b) = W := by
                rw [eW]
                exact lotP_congr fun z' _ => ⟨fun ⟨q', hq', nr⟩ => by
                  rw [hq] at hq'
                  cases hq'
                  exact nr, fun nr => ⟨q, hq, nr⟩⟩
              rw [el, show (W.map fun e' => nI (cntN n PS.length (stepR E PS) O (PS.length - i) e')) = (W.map (cntN n PS.length (stepR E PS) O (PS.length - i))).map nI by rw [List.map_map]; rfl, sum_nI]
              rfl
            rw [es]
            exact this
        · have := k _ fun _ _ e => e
          rw [cnt_out fun ob => z (decide_eq_true (mem_lotP.mpr ⟨bn, ob⟩))] at this
          exact this
      intro H9 h9 s9
      rw [List.length_map, List.length_range] at h9
      have h10 := s9 _ _ h8
      have D9f : D9 ≠ f := fun z => by
        rw [z, h8] at hD9
        cases hD9
      refine ⟨f, _, _, rfl, rfl, h10, ?_, ?_⟩
      · rw [List.length_map, List.length_append]
        exact Nat.lt_of_le_of_lt (show vs.length + 1 ≤ 13 by omega) (by decide)
      refine ⟨_, _, _, vs ++ [v], D9, rfl, ?_, by simp [lv], fun k u e => ?_, same_mut (s18.trans s9) H1f, ?_, ?_⟩
      · rw [upd_same, List.map_append (l₁ := vs ++ [v])]
        rfl
      · by_cases hk : k < (vs ++ [v]).length
        · rw [List.getElem?_append_left hk] at e
          obtain ⟨g1, g2⟩ := rv k u e
          rw [upd_ne g2]
          exact ⟨s9 _ _ (s8 _ _ g1), g2⟩
        · rw [List.getElem?_append_right (by omega)] at e
          have ek : k = (vs ++ [v]).length := by
            obtain ⟨z1, _⟩ := List.getElem?_eq_some_iff.mp e
            have z1 : k - (vs ++ [v]).length < 1 := z1
            omega
          rw [ek, Nat.sub_self] at e
          cases e
          have lk : (vs ++ [v]).length = i + 1 := by simp [lv]
          rw [upd_ne D9f, ek, lk]
          exact ⟨h9, D9f⟩
      · rw [upd_ne nfl.symm]
        exact s9 _ _ (s8 _ _ hl7)
      · have g := s9 _ _ (s8 _ _ hr7)
        rw [upd_ne (ne_of g h10 (by intro z; cases z))]
        exact g
    · rintro σ H7 ⟨v5, v6, v7, vs, v, rfl, h7, lv, rv, s7, hl7, hr7⟩
      refine ⟨_, rfl, f, _, rfl, SqL.of h7, fun l9 hl9 => ?_⟩
      have s9 := same_upd (o := HO.lst ((vs ++ [v]).map V.ref).reverse) hl9
      refine h _ l9 ⟨⟨(vs ++ [v]).reverse, by rw [upd_same, List.map_reverse], by simp [lv], fun i u e => ?_⟩⟩ ((s1.trans s7).free hl9) ((s1.trans s7).trans s9)
      have il : i < (vs ++ [v]).length := by
        have := (List.getElem?_eq_some_iff.mp e).1
        simpa using this
      rw [List.getElem?_reverse il, show (vs ++ [v]).length - 1 - i = PS.length - i by simp [lv]] at e
      have := (rv _ u e).1
      rw [show PS.length - (PS.length - i) = i by simp [lv] at il; omega] at this
      exact s9 _ _ this
def spCountAll : Sp := fun vs H Q _ => ∃ (s r : Addr) (n m : Nat) (p : Nat → Prop) (PS : List (Addr × List Nat)) (SN : List (Addr × V × Triple)) (f : Nat → Nat → Nat), vs = [.ref s, .ref r] ∧ n ≤ 8 ∧ StoryAt n H s p PS SN ∧ CountsAt n H r (m + 1) f ∧ ∀ H', Same H H' → Q (vI ((lotP n p).map (f 0)).sum) H'
theorem sc_count_all : FnScope ["story", "counts", "place"] ["story", "counts"] (defScope s_count_all) := ⟨rfl, rfl, rfl, by decide +kernel, rfl, by decide +kernel, by decide +kernel⟩
theorem ok_count_all (T : Tx K mg) : Has P w K mg base (He.ga K "count_all") 1 ["story", "counts"] spCountAll := by
  obtain ⟨fd, F⟩ := T.d_count_all
  refine ⟨⟨fd, F.ok sc_count_all (fun vs H Q E h => ?_) (fun cdv A outer s H vs Q E hr h => ?_), F.bindsN fun _ _ _ _ _ _ us hl => match us, hl with | [_, _], _ => rfl⟩, F.kp⟩
  · obtain ⟨s, r, n, m, p, PS, SN, f, rfl, _⟩ := h
    rfl
  · obtain ⟨sa, r, n, m, p, PS, SN, f, rfl, n8, SA, CA, h⟩ := h
    refine ⟨_, PSs.nox (pss_one (ps_ret (pe_callB (sumK (K := K)) (by rfl) T.free_sum (by decide +kernel) (pa_cons (pe_lc (own := [("place", 2)]) (g := (gName 2)) (tt := tYes) rfl sc_count_all.nd (piT (K := K) (pe_ix (ixT (K := K)) (pv 0) pe_int (fun _ _ => rfl))) (blkOk_by (by kernel_rfl)) (fun _ _ _ _ _ => (pg_name (i := 2) sc_count_all.nd rfl (Or.inl rfl))) (fun _ _ _ _ _ => pts_nil) (fun _ _ _ _ _ => (pe_ix (ixL (K := K)) (pe_ix (ixL (K := K)) (pv 1) pe_int (fun _ _ => rfl)) (pv 2) (fun _ _ => rfl)))) pa_nil)))), ?_⟩
    obtain ⟨tl, tp, ts, hs, htl, htp, hts⟩ := SA.ex
    obtain ⟨us, hus, lus, rus⟩ := CA.ex
    have hu0 : us[0]? = some (us[0]'(by omega)) := List.getElem?_eq_getElem _
    generalize us[0]'(by omega) = u0 at hu0
    have ll := lotP_len n p
    refine ⟨_, rfl, sa, _, 0, _, rfl, rfl, SqT.of hs, rfl, tl, rfl, ⟨_, SqT.of htl⟩, fun D hD => ?_⟩
    refine lc_val (walk_tup (K := K) (a := tl) (xs := (lotP n p).map vI)) (fun k => vI (f 0 ((lotP n p).getD k 0))) (by rw [List.length_map]; omega) hD (fun H1 s1 => SqT.of (s1 _ _ htl)) ?_ ?_
    · rintro i y H1 H2 Nx hi s1 ⟨rfl, hy⟩ k
      obtain ⟨b, hb, rfl⟩ := get_vI hy
      have bn := (mem_lotP.mp (List.mem_of_getElem? hb)).1
      refine ⟨rfl, _, rfl, r, _, 0, _, rfl, rfl, SqL.of (s1 _ _ hus), atI_nat (j := 0) (get_map hu0), _, rfl, u0, _, _, _, rfl, rfl, SqL.of (s1 _ _ (rus 0 u0 hu0)), atI_nat (row_get bn), ?_⟩
      have := k _ fun _ _ e => e
      rw [List.getD_eq_getElem?_getD, hb] at this
      exact this
    · intro H1 h1 s1
      have gd : (List.range ((lotP n p).map vI).length).map (fun k => vI (f 0 ((lotP n p).getD k 0))) = (((lotP n p).map (f 0)).map nI).map V.int := by
        rw [List.length_map, List.map_map, List.map_map]
        refine List.ext_getElem? fun z' => ?_
        rw [List.getElem?_map, List.getElem?_map]
        by_cases hz : z' < (lotP n p).length
        · rw [List.getElem?_range hz, List.getElem?_eq_getElem hz]
          show some (vI (f 0 ((lotP n p).getD z' 0))) = some (V.int (nI (f 0 (lotP n p)[z'])))
          rw [List.getD_eq_getElem?_getD, List.getElem?_eq_getElem hz]
          rfl
        · rw [List.getElem?_eq_none (by simpa using hz), List.getElem?_eq_none (by simpa using hz)]
          rfl
      rw [gd] at h1
      refine ⟨D, _, rfl, SqL.of h1, ?_⟩
      rw [sum_nI]
      exact h _ s1
end
end RL
/-! The walk at a number, place by place. -/
namespace RL
open PySem PySem.Spec PyProof.Rows L2 RLM
/-- the place that the walk with this number takes, and its number among the walks there -/
def pickN (f : Nat → Nat) : List Nat → Nat → Nat × Nat
  | [], k => (0, k)
  | x :: xs, k => if k < f x then (x, k) else pickN f xs (k - f x)
theorem pickN_cons {f : Nat → Nat} {x : Nat} {xs : List Nat} {k : Nat} : pickN f (x :: xs) k = if k < f x then (x, k) else pickN f xs (k - f x) := rfl
theorem pick_in {f : Nat → Nat} : ∀ {xs : List Nat} {k : Nat}, k < (xs.map f).sum → (pickN f xs k).1 ∈ xs ∧ (pickN f xs k).2 < f (pickN f xs k).1
  | [], k, h => by simp at h
  | x :: xs, k, h => by
    rw [List.map_cons, List.sum_cons] at h
    unfold pickN
    split
    · exact ⟨by simp, by assumption⟩
    · obtain ⟨h1, h2⟩ := pick_in (f := f) (xs := xs) (k := k - f x) (by omega)
      exact ⟨List.mem_cons_of_mem _ h1, h2⟩
theorem pick_grow {f : Nat → Nat} {O : Nat → Bool} {g : Nat → List (List Nat)} (h1 : ∀ x, O x = true → f x = (g x).length) (h0 : ∀ x, O x = false → f x = 0) : ∀ {xs : List Nat} {k : Nat}, k < (xs.map f).sum → (grow (xs.filter O) g)[k]? = ((g (pickN f xs k).1)[(pickN f xs k).2]?).map ((pickN f xs k).1 :: ·)
  | [], k, h => by simp at h
  | x :: xs, k, h => by
    rw [List.map_cons, List.sum_cons] at h
    unfold pickN
    rw [List.filter_cons]
    cases e : O x with
    | true =>
      rw [if_pos rfl, get_grow, ← h1 x e]
      split
      · rfl
      · exact pick_grow h1 h0 (by omega)
    | false =>
      have z := h0 x e
      rw [if_neg (by simp), if_neg (by omega), z, Nat.sub_zero]
      exact pick_grow h1 h0 (by omega)
theorem lot_filter {n : Nat} {A O : Nat → Prop} : lotP n (fun b => A b ∧ O b) = (lotP n A).filter fun b => decB (O b) := by
  refine (lotP_of ((lotP_sorted n A).filter _) fun b => ?_).symm
  rw [List.mem_filter, mem_lotP, decB_true]
  exact ⟨fun z => ⟨z.1.1, z.1.2, z.2⟩, fun z => ⟨⟨z.1, z.2.1⟩, z.2.2⟩⟩
/-- what is left to be found of the walk k, when it has begun by ws and has the number r among those -/
def Rem (n : Nat) (p : Nat → Prop) (E : List (Nat × Nat)) (PS : List (Addr × List Nat)) (O : Nat → Nat → Prop) (k : Nat) (ws : List Nat) (r : Nat) : Prop :=
  (ws.length ≤ PS.length → (walks n PS.length p (stepR E PS) O)[k]? = ((grow (lotP n fun b => nextP p E PS ws b ∧ O ws.length b) (tails n PS.length (stepR E PS) O (PS.length - ws.length)))[r]?).map (ws ++ ·) ∧ r < ((lotP n (nextP p E PS ws)).map (cntN n PS.length (stepR E PS) O ws.length)).sum) ∧
  (ws.length = PS.length + 1 → (walks n PS.length p (stepR E PS) O)[k]? = some ws)
theorem rem_start {n : Nat} {p : Nat → Prop} {E : List (Nat × Nat)} {PS : List (Addr × List Nat)} {O : Nat → Nat → Prop} {k : Nat} (h : k < (walks n PS.length p (stepR E PS) O).length) : Rem n p E PS O k [] k := by
  refine ⟨fun _ => ⟨?_, ?_⟩, fun e => by simp at e⟩
  · rw [walks_grow]
    show _ = Option.map (fun v => v) _
    rw [Option.map_id']
    rfl
  · rw [walks_cnt] at h
    exact h
theorem rem_next {n : Nat} {p : Nat → Prop} {E : List (Nat × Nat)} {PS : List (Addr × List Nat)} {O : Nat → Nat → Prop} {k : Nat} {ws : List Nat} {r : Nat} (h : Rem n p E PS O k ws r) (hw : ws.length ≤ PS.length) :
    (pickN (cntN n PS.length (stepR E PS) O ws.length) (lotP n (nextP p E PS ws)) r).1 < n ∧ Rem n p E PS O k (ws ++ [(pickN (cntN n PS.length (stepR E PS) O ws.length) (lotP n (nextP p E PS ws)) r).1]) (pickN (cntN n PS.length (stepR E PS) O ws.length) (lotP n (nextP p E PS ws)) r).2 := by
  obtain ⟨h1, h2⟩ := h.1 hw
  have hg := pick_grow (f := cntN n PS.length (stepR E PS) O ws.length) (O := fun b => decB (O ws.length b)) (g := tails n PS.length (stepR E PS) O (PS.length - ws.length)) (fun x e => cnt_in (decB_true.mp e)) (fun x e => cnt_out fun z => by rw [decB_true.mpr z] at e; cases e) h2
  obtain ⟨hb, hr⟩ := pick_in h2
  rw [lot_filter, hg] at h1
  generalize (pickN (cntN n PS.length (stepR E PS) O ws.length) (lotP n (nextP p E PS ws)) r).1 = b at hb hr h1
  generalize (pickN (cntN n PS.length (stepR E PS) O ws.length) (lotP n (nextP p E PS ws)) r).2 = r' at hr h1
  have bn := (mem_lotP.mp hb).1
  have ob : O ws.length b := by
    rcases Classical.em (O ws.length b) with z | z
    · exact z
    · rw [cnt_out z] at hr
      omega
  have h1' : (walks n PS.length p (stepR E PS) O)[k]? = ((tails n PS.length (stepR E PS) O (PS.length - ws.length) b)[r']?).map ((ws ++ [b]) ++ ·) := by
    rw [h1, Option.map_map]
    congr 1
    funext v
    simp
  have lw : (ws ++ [b]).length = ws.length + 1 := by simp
  refine ⟨bn, fun hl => ?_, fun hl => ?_⟩
  · rw [lw] at hl ⊢
    have e1 : PS.length - ws.length = (PS.length - (ws.length + 1)) + 1 := by omega
    have nx : nextP p E PS (ws ++ [b]) = stepR E PS ws.length b := by
      funext c
      unfold nextP
      rw [lw]
      show stepR E PS ws.length ((ws ++ [b]).getLastD 0) c = _
      rw [List.getLastD_concat]
    rw [nx]
    refine ⟨?_, ?_⟩
    · rw [h1', e1, tails_grow, show PS.length - (PS.length - (ws.length + 1) + 1) = ws.length by omega, show PS.length - (PS.length - (ws.length + 1)) = ws.length + 1 by omega]
    · rw [cnt_next (by omega) ob] at hr
      exact hr
  · have e1 : ws.length = PS.length := by omega
    rw [e1] at hr ob
    rw [cnt_last ob] at hr
    have r0 : r' = 0 := by omega
    rw [h1', e1, Nat.sub_self, r0]
    show (([[]] : List (List Nat))[0]?).map ((ws ++ [b]) ++ ·) = _
    simp
end RL
namespace RL
open PySem PySem.Spec PyProof.Rows L2 RLM
/-- no defaults: positional values, the rest by keywords in the parameters' order -/
theorem kbindsA {K : PySem.W.Frag} {x qual : Str} {params : Arguments} {body : List Stmt} {scope : Scope} {kws : List (Str × V)} {f : Addr} {fd : FuncData} {ps : List Str} (F : FunD K x qual params body scope [] kws f fd) (n : Nat) (ks : List Str)
    (h : ∀ (kV doc pm : Value) (an : Option Addr) (cdv ct : Value) (us ws : List Value), us.length = n → ws.length = ks.length → bindArgs (PySem.W.fnOf x qual params body scope .none kV doc pm an cdv ct) ⟨us, ks.zip ws⟩ = pure (ps.zip (us ++ ws))) : KBn K fd ps n ks (fun us ws => us ++ ws) (fun vs zs => vs ++ zs) := by
  obtain ⟨oc, od, dV, kV, doc, pm, an, cdv, ct, osl, rfl, lk, hcd, hD, hK⟩ := F.ex
  rcases hD with ⟨_, rfl⟩ | ⟨e, _⟩
  · exact ⟨fun s us ws _ l1 l2 => .of_eq (h kV doc pm an cdv ct us ws l1 l2), fun r1 r2 => r1.append r2⟩
  · exact absurd rfl e
/-- a def with keywords keeps its promise -/
structure HasK (P : Program) (w : World) (K : PySem.W.Frag) (mg : Str → Option Value) (base : Heap) (f : Addr) (k : Nat) (ps : List Str) (n : Nat) (ks : List Str) (sp : Sp) : Prop where
  ex : ∃ fd, FnOk P w K mg base CX0 k f fd ps sp ∧ KBn K fd ps n ks (fun us ws => us ++ ws) (fun vs zs => vs ++ zs)
  kp : PySem.W.keepIn K (.ref f) = true
section
variable {P : Program} {w : World} {K : PySem.W.Frag} {mg : Str → Option Value} {base : Heap}
def spPPick : Sp := fun vs H Q _ => ∃ (tp r : Addr) (n k : Nat) (f : Nat → Nat) (xs : List Nat), vs = [.ref tp, .ref r, vI k] ∧ H tp = some (.tup (xs.map vI)) ∧ H r = some (.lst ((List.range n).map fun a => vI (f a))) ∧ (∀ x ∈ xs, x < n) ∧ k < (xs.map f).sum ∧
  ∀ H' t, H' t = some (.tup [vI (pickN f xs k).1, vI (pickN f xs k).2]) → Same H H' → Q (.ref t) H'
theorem sc_pick : FnScope ["places", "row", "number", "at"] ["places", "row", "number"] (defScope s_pick) := ⟨rfl, rfl, rfl, by decide +kernel, rfl, by decide +kernel, by decide +kernel⟩
theorem ok_ppick (T : Tx K mg) : Has P w K mg base (He.ga K "pick") 1 ["places", "row", "number"] spPPick := by
  obtain ⟨fd, F⟩ := T.d_pick
  refine ⟨⟨fd, F.ok sc_pick (fun vs H Q E h => ?_) (fun cdv A outer s H vs Q E hr h => ?_), F.bindsN fun _ _ _ _ _ _ us hl => match us, hl with | [_, _, _], _ => rfl⟩, F.kp⟩
  · obtain ⟨tp, r, n, k, f, xs, rfl, _⟩ := h
    rfl
  · obtain ⟨tp, r, n, k, f, xs, rfl, htp, hrr, xn, lt, h⟩ := h
    refine ⟨_, PSs.nox (pss_cons (ps_set (i := 3) sc_pick.nd rfl (Or.inl rfl) pe_int)
      (pss_cons (ps_while PassesOwn.never (pt_cmpR op_ge (pv 2) (pe_ix (ixL (K := K)) (pv 1) (pe_ix (ixT (K := K)) (pv 0) (pv 3) (fun _ _ => rfl)) (fun _ _ => rfl)) (nomark _)) (pss_cons (ps_aug (i := 2) sc_pick.nd rfl (Or.inl rfl) (pe_ix (ixL (K := K)) (pv 1) (pe_ix (ixT (K := K)) (pv 0) (pv 3) (fun _ _ => rfl)) (fun _ _ => rfl)) ip_sub)
      (pss_one (ps_aug (i := 3) sc_pick.nd rfl (Or.inl rfl) pe_int ip_add))))
      (pss_one (ps_ret (pe_tup (pa_cons (pe_ix (ixT (K := K)) (pv 0) (pv 3) (fun _ _ => rfl)) (pa_cons (pv 2) pa_nil))))))), ?_⟩
    refine ⟨fun m σ H1 => ∃ (j kk : Nat), σ = [some (.ref tp), some (.ref r), some (vI kk), some (vI j)] ∧ j + m = xs.length ∧ pickN f (xs.drop j) kk = pickN f xs k ∧ kk < ((xs.drop j).map f).sum ∧ H1 = H, ⟨xs.length, 0, k, rfl, by omega, rfl, lt, rfl⟩, ?_⟩
    rintro m σ H1 ⟨j, kk, rfl, jm, pk, lt, rfl⟩
    have jl : j < xs.length := by
      rcases Nat.lt_or_ge j xs.length with z | z
      · exact z
      · rw [List.drop_of_length_le z] at lt
        simp at lt
    have hx : xs[j]? = some xs[j] := List.getElem?_eq_getElem jl
    rw [List.drop_eq_getElem_cons jl] at pk lt
    have bn := xn _ (List.getElem_mem jl)
    generalize xs[j] = b at hx pk lt bn
    rw [List.map_cons, List.sum_cons] at lt
    rw [pickN_cons] at pk
    refine ⟨_, rfl, _, rfl, _, rfl, _, rfl, tp, _, _, _, rfl, rfl, SqT.of htp, atI_nat (get_map hx), r, _, _, _, rfl, rfl, SqL.of hrr, atI_nat (row_get bn), _, _, rfl, rfl, ?_⟩
    refine ⟨decide (((f b : Nat) : Int) ≤ ((kk : Nat) : Int)), rfl, ?_⟩
    by_cases hk : kk < f b
    · rw [decide_eq_false (by omega)]
      rw [if_pos hk] at pk
      refine iteF ⟨_, rfl, _, rfl, tp, _, _, _, rfl, rfl, SqT.of htp, atI_nat (get_map hx), _, rfl, (by show 2 ≤ sizeLine; decide), fun t ht => h _ t ?_ (same_upd ht)⟩
      rw [upd_same, ← pk]
    · rw [decide_eq_true (by omega)]
      rw [if_neg hk] at pk
      refine iteT ⟨fun σ' H' => ∃ (j kk : Nat), σ' = [some (.ref tp), some (.ref r), some (vI kk), some (vI j)] ∧ j + (m - 1) = xs.length ∧ pickN f (xs.drop j) kk = pickN f xs k ∧ kk < ((xs.drop j).map f).sum ∧ H' = H1, fun σ' H' z => ⟨m - 1, by omega, z⟩, ?_⟩
      refine ⟨_, rfl, _, rfl, _, rfl, _, rfl, tp, _, _, _, rfl, rfl, SqT.of htp, atI_nat (get_map hx), r, _, _, _, rfl, rfl, SqL.of hrr, atI_nat (row_get bn), _, _, rfl, rfl, ?_⟩
      refine ⟨_, rfl, _, _, rfl, rfl, j + 1, kk - f b, ?_, by omega, pk, by omega, rfl⟩
      show [some (V.ref tp), some (V.ref r), some (V.int (((kk : Nat) : Int) - ((f b : Nat) : Int))), some (V.int (((j : Nat) : Int) + 1))] = _
      rw [show (((kk : Nat) : Int) - ((f b : Nat) : Int)) = ((kk - f b : Nat) : Int) by omega]
      rfl
def spCounted (K : PySem.W.Frag) : Sp := fun vs H Q _ => ∃ (c x s r : Addr) (n k : Nat) (E : List (Nat × Nat)) (p : Nat → Prop) (PS : List (Addr × List Nat)) (SN : List (Addr × V × Triple)) (O : Nat → Nat → Prop), vs = [.ref x, .ref s, .ref r, vI k] ∧ BoardAt K c H x n E ∧ StoryAt n H s p PS SN ∧ CountsAt n H r (PS.length + 1) (cntN n PS.length (stepR E PS) O) ∧ k < (walks n PS.length p (stepR E PS) O).length ∧
  ∀ H' t ws, H' t = some (.tup (ws.map vI)) → (walks n PS.length p (stepR E PS) O)[k]? = some ws → Same H H' → Q (.ref t) H'
theorem sc_counted_walk : FnScope ["board", "story", "counts", "number", "walk", "row", "place"] ["board", "story", "counts", "number"] (defScope s_counted_walk) := ⟨rfl, rfl, rfl, by decide +kernel, rfl, by decide +kernel, by decide +kernel⟩
theorem ok_counted (T : Tx K mg) : Has P w K mg base (He.ga K "counted_walk") 6 ["board", "story", "counts", "number"] (spCounted K) := by
  obtain ⟨⟨fd_pick, F_pick, b_pick⟩, kp_pick⟩ := ok_ppick (P := P) (w := w) (base := base) T
  obtain ⟨⟨fd_next_places, F_next_places, b_next_places⟩, kp_next_places⟩ := ok_next (P := P) (w := w) (base := base) T
  obtain ⟨fd, F⟩ := T.d_counted_walk
  refine ⟨⟨fd, F.ok sc_counted_walk (fun vs H Q E h => ?_) (fun cdv A outer s H vs Q E hr h => ?_), F.bindsN fun _ _ _ _ _ _ us hl => match us, hl with | [_, _, _, _], _ => rfl⟩, F.kp⟩
  · obtain ⟨c, x, s, r, n, k, E, p, PS, SN, O, rfl, _⟩ := h
    rfl
  · obtain ⟨c, x, sa, r, n, k, E, p, PS, SN, O, rfl, B, SA, CA, lt, h⟩ := h
    have hr_pick : Room 1 _ := hr.mono (by decide)
    have hr_next_places : Room 5 _ := hr.mono (by decide)
    refine ⟨_, PSs.nox (pss_cons (ps_set (i := 4) sc_counted_walk.nd rfl (Or.inl rfl) (pe_tup pa_nil))
      (pss_cons (ps_for PassesOwn.never rfl (piL (K := K) (pv 2)) (pg_name (i := 5) sc_counted_walk.nd rfl (Or.inl rfl)) (pss_cons (ps_asg (pe_call F_pick hr_pick rfl T.glo_pick kp_pick b_pick .nil pass0 (pa_cons (pe_call F_next_places hr_next_places rfl T.glo_next_places kp_next_places b_next_places .nil pass0 (pa_cons (pv 0) (pa_cons (pv 1) (pa_cons (pv 4) pa_nil)))) (pa_cons (pv 5) (pa_cons (pv 3) pa_nil)))) (pgT (K := K) (n := 2) rfl (pgs_cons (pg_name (i := 6) sc_counted_walk.nd rfl (Or.inl rfl)) (pgs_cons (pg_name (i := 3) sc_counted_walk.nd rfl (Or.inl rfl)) pgs_nil))))
      (pss_one (ps_set (i := 4) sc_counted_walk.nd rfl (Or.inl rfl) (pe_op catS (pv 4) (pe_tup (pa_cons (pv 6) pa_nil)))))))
      (pss_one (ps_ret (pv 4))))), ?_⟩
    have lp := SA.lp
    refine ⟨Nat.zero_le _, fun t0 ht0 => ?_⟩
    have s1 := same_upd (o := HO.tup []) ht0
    have h1 : (L2.upd H t0 (.tup [])) t0 = some (.tup (([] : List Nat).map vI)) := upd_same
    generalize L2.upd H t0 (.tup []) = H1 at s1 h1
    obtain ⟨us, hus, lus, rus⟩ := CA.ex
    refine ⟨_, rfl, r, rfl, ⟨_, SqL.of (s1 _ _ hus)⟩, for_list (K := K) (a := r) (xs := us.map V.ref) (fun j σ H2 => ∃ (ws : List Nat) (t : Addr) (rr : Nat) (v5 v6 : Option V), σ = [some (.ref x), some (.ref sa), some (.ref r), some (vI rr), some (.ref t), v5, v6] ∧ H2 t = some (.tup (ws.map vI)) ∧ ws.length = j ∧ (∀ b ∈ ws, b < n) ∧ Rem n p E PS O k ws rr ∧ Same H H2)
      ⟨[], t0, k, none, none, rfl, h1, rfl, by simp, rem_start lt, s1⟩ (fun j σ H2 _ ⟨_, _, _, _, _, _, _, _, _, _, s2⟩ => SqL.of (s2 _ _ hus)) ?_ ?_⟩
    · rintro j y σ H2 hy ⟨ws, t, rr, v5, v6, rfl, ht, lw, wn, R, s2⟩
      obtain ⟨u, hu, rfl⟩ := get_mapV hy
      have jl := (List.getElem?_eq_some_iff.mp hu).1
      have lw2 : ws.length ≤ PS.length := by omega
      refine ⟨_, rfl, _, rfl, _, rfl, c, x, sa, t, n, E, p, PS, SN, ws, rfl, B.same s2, SA.same s2, ht, lw2, wn, fun H3 o3 h3 s3 => ?_⟩
      obtain ⟨bn, R'⟩ := rem_next R lw2
      rw [lw] at bn R'
      have lt3 := (R.1 lw2).2
      rw [lw] at lt3
      refine ⟨_, rfl, _, rfl, o3, u, n, rr, cntN n PS.length (stepR E PS) O j, lotP n (nextP p E PS ws), rfl, h3, s3 _ _ (s2 _ _ (rus j u hu)), fun b hb => (mem_lotP.mp hb).1, lt3, fun H4 t4 h4 s4 => ?_⟩
      generalize (pickN (cntN n PS.length (stepR E PS) O j) (lotP n (nextP p E PS ws)) rr).1 = b at h4 bn R'
      generalize (pickN (cntN n PS.length (stepR E PS) O j) (lotP n (nextP p E PS ws)) rr).2 = r4 at h4 R'
      refine ⟨t4, _, rfl, SqT.of h4, rfl, _, _, rfl, _, _, rfl, rfl, ?_⟩
      refine ⟨_, rfl, _, rfl, (by show 1 ≤ sizeLine; decide), fun o5 ho5 => ?_⟩
      have s5 := same_upd (o := HO.tup [vI b]) ho5
      have h5 : (L2.upd H4 o5 (.tup [vI b])) o5 = some (.tup [vI b]) := upd_same
      generalize L2.upd H4 o5 (.tup [vI b]) = H5 at s5 h5
      have s25 := (s3.trans s4).trans s5
      refine ⟨t, o5, _, _, rfl, rfl, s25 _ _ ht, h5, ?_, fun q H6 h6 s6 => ?_⟩
      · rw [List.length_map]
        exact Nat.le_trans (show ws.length + 1 ≤ 13 by omega) (by decide)
      refine ⟨ws ++ [b], q, r4, _, _, rfl, ?_, by simp [lw], fun z hz => ?_, R', (s2.trans s25).trans s6⟩
      · rw [h6, List.map_append]
        rfl
      · rcases List.mem_append.mp hz with e | e
        · exact wn z e
        · rw [List.mem_singleton.mp e]
          exact bn
    · rintro σ H2 ⟨ws, t, rr, v5, v6, rfl, ht, lw, wn, R, s2⟩
      rw [List.length_map, lus] at lw
      exact ⟨_, rfl, h H2 t ws ht (R.2 lw) s2⟩
end
end RL
namespace RL
open PySem PySem.Spec PyProof.Rows L2 RLM
/-- what lets a walk be that is in this place at this beat -/
def atP (O : Nat → Nat → Prop) (i b : Nat) : Nat → Nat → Prop := fun j c => O j c ∧ (j = i → c = b)
theorem tail_at {n m : Nat} {R : Nat → Nat → Nat → Prop} {O : Nat → Nat → Prop} {i b : Nat} {k a : Nat} {w : List Nat} : Tail n m R (atP O i b) k a w ↔ Tail n m R O k a w ∧ ∀ j c, w[j]? = some c → k + 1 + j = i → c = b := by
  constructor
  · intro h
    induction h with
    | stop a => exact ⟨.stop a, fun j c e => by simp at e⟩
    | @go k a d w hi hb r o t ih =>
      refine ⟨.go hi hb r o.1 ih.1, fun j c e => ?_⟩
      cases j with
      | zero =>
        have : d = c := by simpa using e
        subst this
        intro z
        exact o.2 (by omega)
      | succ j =>
        intro z
        exact ih.2 j c (by simpa using e) (by omega)
  · rintro ⟨h, h2⟩
    induction h with
    | stop a => exact .stop a
    | @go k a d w hi hb r o t ih =>
      exact .go hi hb r ⟨o, fun z => h2 0 d rfl (by omega)⟩ (ih fun j c e z => h2 (j + 1) c (by simpa using e) (by omega))
theorem fit_at {n m : Nat} {S : Nat → Prop} {R : Nat → Nat → Nat → Prop} {O : Nat → Nat → Prop} {i b : Nat} {w : List Nat} (hi : i ≤ m) : Fit n m S R (atP O i b) w ↔ Fit n m S R O w ∧ w[i]? = some b := by
  cases w with
  | nil => exact ⟨fun h => h.elim, fun h => h.1.elim⟩
  | cons a w =>
    show (a < n ∧ S a ∧ atP O i b 0 a ∧ Tail n m R (atP O i b) 0 a w) ↔ (a < n ∧ S a ∧ O 0 a ∧ Tail n m R O 0 a w) ∧ _
    rw [tail_at]
    constructor
    · rintro ⟨h1, h2, h3, h4, h5⟩
      refine ⟨⟨h1, h2, h3.1, h4⟩, ?_⟩
      cases i with
      | zero => rw [h3.2 rfl]; rfl
      | succ i =>
        have l := h4.len
        have e : w[i]? = some (w[i]'(by omega)) := List.getElem?_eq_getElem _
        show w[i]? = _
        rw [e, h5 i _ e (by omega)]
    · rintro ⟨⟨h1, h2, h3, h4⟩, h5⟩
      refine ⟨h1, h2, ⟨h3, fun z => ?_⟩, h4, fun j c e z => ?_⟩
      · rw [← z] at h5
        simpa using h5
      · rw [← z, show 0 + 1 + j = j + 1 by omega] at h5
        have h5 : w[j]? = some b := h5
        rw [e] at h5
        cases h5
        rfl
/-- some walk that fits is there just where the place is known -/
theorem at_known {n : Nat} {p : Nat → Prop} {E : List (Nat × Nat)} {PS : List (Addr × List Nat)} {O : Nat → Nat → Prop} {i b : Nat} (hi : i ≤ PS.length) : walks n PS.length p (stepR E PS) (atP O i b) ≠ [] ↔ KnownP n p E PS O i b := by
  unfold KnownP
  rw [← known_iff hi]
  constructor
  · intro h
    obtain ⟨w, ws, e⟩ := List.exists_cons_of_ne_nil h
    have hw : w ∈ walks n PS.length p (stepR E PS) (atP O i b) := by rw [e]; simp
    exact ⟨w, (fit_at hi).1 (mem_walks.1 hw)⟩
  · rintro ⟨w, hw⟩ e
    have := mem_walks.2 ((fit_at (S := p) hi).2 hw)
    rw [e] at this
    cases this
section
variable {P : Program} {w : World} {K : PySem.W.Frag} {mg : Str → Option Value} {base : Heap}
def spCheckBeat : Sp := fun vs H Q _ => ∃ (s : Addr) (n i : Nat) (p : Nat → Prop) (PS : List (Addr × List Nat)) (SN : List (Addr × V × Triple)), vs = [.ref s, vI i] ∧ StoryAt n H s p PS SN ∧ i ≤ PS.length ∧ Q .non H
theorem sc_check_beat : FnScope ["story", "beat"] ["story", "beat"] (defScope s_check_beat) := ⟨rfl, rfl, rfl, by decide +kernel, rfl, by decide +kernel, by decide +kernel⟩
theorem ok_check_beat (T : Tx K mg) : Has P w K mg base (He.ga K "check_beat") 3 ["story", "beat"] spCheckBeat := by
  obtain ⟨⟨fd_is_between, F_is_between, b_is_between⟩, kp_is_between⟩ := ok_is_between (P := P) (w := w) (base := base) T
  obtain ⟨⟨fd_last_beat, F_last_beat, b_last_beat⟩, kp_last_beat⟩ := ok_last (P := P) (w := w) (base := base) T
  obtain ⟨fd, F⟩ := T.d_check_beat
  refine ⟨⟨fd, F.ok sc_check_beat (fun vs H Q E h => ?_) (fun cdv A outer s H vs Q E hr h => ?_), F.bindsN fun _ _ _ _ _ _ us hl => match us, hl with | [_, _], _ => rfl⟩, F.kp⟩
  · obtain ⟨s, n, i, p, PS, SN, rfl, _⟩ := h
    rfl
  · obtain ⟨sa, n, i, p, PS, SN, rfl, SA, hi, h⟩ := h
    have hr_is_between : Room 2 _ := hr.mono (by decide)
    have hr_last_beat : Room 1 _ := hr.mono (by decide)
    refine ⟨_, PSs.nox (pss_one (ps_if (pt_not (pt_val (pe_call F_is_between hr_is_between rfl T.glo_is_between kp_is_between b_is_between .nil pass0 (pa_cons (pv 1) (pa_cons pe_int (pa_cons (pe_call F_last_beat hr_last_beat rfl T.glo_last_beat kp_last_beat b_last_beat .nil pass0 (pa_cons (pv 0) pa_nil)) pa_nil)))))) (pss_one ps_never) pss_nil)), ?_⟩
    refine ⟨_, rfl, _, rfl, sa, n, p, PS, SN, rfl, SA, _, _, _, rfl, _, rfl, ?_⟩
    rw [decide_eq_true (show (0 : Int) ≤ ((i : Nat) : Int) ∧ ((i : Nat) : Int) ≤ ((PS.length : Nat) : Int) from ⟨by omega, by omega⟩)]
    exact iteF h
def spWalkBy (K : PySem.W.Frag) : Sp := fun vs H Q _ => ∃ (c x s : Addr) (n i b : Nat) (E : List (Nat × Nat)) (M : Nat → Nat → Nat) (p : Nat → Prop) (PS : List (Addr × List Nat)) (SN : List (Addr × V × Triple)), vs = [.ref x, .ref s, vI i, vI b] ∧ BoardAt K c H x n E ∧ Spans n E M ∧ StoryAt n H s p PS SN ∧ (∃ a, a < n ∧ p a) ∧ i ≤ PS.length ∧ b < n ∧
  (walks n PS.length p (stepR E PS) (atP (openP M SN) i b) = [] → ∀ H', Same H H' → Q .non H') ∧
  ∀ H' t ws, H' t = some (.tup (ws.map vI)) → (walks n PS.length p (stepR E PS) (atP (openP M SN) i b))[0]? = some ws → Same H H' → Q (.ref t) H'
theorem sc_walk_by : FnScope ["board", "story", "beat", "place", "lots", "counts"] ["board", "story", "beat", "place"] (defScope s_walk_by) := ⟨rfl, rfl, rfl, by decide +kernel, rfl, by decide +kernel, by decide +kernel⟩
theorem ok_walk_by (T : Tx K mg) : Has P w K mg base (He.ga K "walk_by") 10 ["board", "story", "beat", "place"] (spWalkBy K) := by
  obtain ⟨⟨fd_look_story, F_look_story, b_look_story⟩, kp_look_story⟩ := ok_look_story (P := P) (w := w) (base := base) T
  obtain ⟨⟨fd_check_beat, F_check_beat, b_check_beat⟩, kp_check_beat⟩ := ok_check_beat (P := P) (w := w) (base := base) T
  obtain ⟨⟨fd_check_place, F_check_place, b_check_place⟩, kp_check_place⟩ := ok_check (P := P) (w := w) (base := base) T
  obtain ⟨⟨fd_answering, F_answering, b_answering⟩, kp_answering⟩ := ok_answering (P := P) (w := w) (base := base) T
  obtain ⟨⟨fd_meet, F_meet, b_meet⟩, kp_meet⟩ := ok_meet (P := P) (w := w) (base := base) T
  obtain ⟨⟨fd_onward_counts, F_onward_counts, b_onward_counts⟩, kp_onward_counts⟩ := ok_counts (P := P) (w := w) (base := base) T
  obtain ⟨⟨fd_count_all, F_count_all, b_count_all⟩, kp_count_all⟩ := ok_count_all (P := P) (w := w) (base := base) T
  obtain ⟨⟨fd_counted_walk, F_counted_walk, b_counted_walk⟩, kp_counted_walk⟩ := ok_counted (P := P) (w := w) (base := base) T
  obtain ⟨fd, F⟩ := T.d_walk_by
  refine ⟨⟨fd, F.ok sc_walk_by (fun vs H Q E h => ?_) (fun cdv A outer s H vs Q E hr h => ?_), F.bindsN fun _ _ _ _ _ _ us hl => match us, hl with | [_, _, _, _], _ => rfl⟩, F.kp⟩
  · obtain ⟨c, x, s, n, i, b, E, M, p, PS, SN, rfl, _⟩ := h
    rfl
  · obtain ⟨c, x, sa, n, i, b, E, M, p, PS, SN, rfl, B, S, SA, ex, hi, bn, h0, h⟩ := h
    have hr_look_story : Room 9 _ := hr.mono (by decide)
    have hr_check_beat : Room 3 _ := hr.mono (by decide)
    have hr_check_place : Room 3 _ := hr.mono (by decide)
    have hr_answering : Room 9 _ := hr.mono (by decide)
    have hr_meet : Room 1 _ := hr.mono (by decide)
    have hr_onward_counts : Room 5 _ := hr.mono (by decide)
    have hr_count_all : Room 1 _ := hr.mono (by decide)
    have hr_counted_walk : Room 6 _ := hr.mono (by decide)
    refine ⟨_, PSs.nox (pss_cons (ps_expr (pe_call F_look_story hr_look_story rfl T.glo_look_story kp_look_story b_look_story .nil pass0 (pa_cons (pv 0) (pa_cons (pv 1) pa_nil))))
      (pss_cons (ps_expr (pe_call F_check_beat hr_check_beat rfl T.glo_check_beat kp_check_beat b_check_beat .nil pass0 (pa_cons (pv 1) (pa_cons (pv 2) pa_nil))))
      (pss_cons (ps_expr (pe_meth (pv 0) T.cl T.m_check_place F_check_place hr_check_place b_check_place .nil pass0 (pa_cons (pv 3) pa_nil)))
      (pss_cons (ps_set (i := 4) sc_walk_by.nd rfl (Or.inl rfl) (pe_call F_answering hr_answering rfl T.glo_answering kp_answering b_answering .nil pass0 (pa_cons (pv 0) (pa_cons (pv 1) pa_nil))))
      (pss_cons (ps_asg (pe_call F_meet hr_meet rfl T.glo_meet kp_meet b_meet .nil pass0 (pa_cons (pe_ix (ixL (K := K)) (pv 4) (pv 2) (fun _ _ => rfl)) (pa_cons (pe_tup (pa_cons (pv 3) pa_nil)) pa_nil))) (pg_sub (pv 4) (pv 2) set_list))
      (pss_cons (ps_set (i := 5) sc_walk_by.nd rfl (Or.inl rfl) (pe_call F_onward_counts hr_onward_counts rfl T.glo_onward_counts kp_onward_counts b_onward_counts .nil pass0 (pa_cons (pv 0) (pa_cons (pe_ix (ixT (K := K)) (pv 1) pe_int (fun _ _ => rfl)) (pa_cons (pv 4) pa_nil)))))
      (pss_cons (ps_if (pt_cmpR op_eq (pe_call F_count_all hr_count_all rfl T.glo_count_all kp_count_all b_count_all .nil pass0 (pa_cons (pv 1) (pa_cons (pv 5) pa_nil))) pe_int (nomark _)) (pss_one (ps_ret pe_non)) pss_nil)
      (pss_one (ps_ret (pe_call F_counted_walk hr_counted_walk rfl T.glo_counted_walk kp_counted_walk b_counted_walk .nil pass0 (pa_cons (pv 0) (pa_cons (pv 1) (pa_cons (pv 5) (pa_cons pe_int pa_nil)))))))))))))), ?_⟩
    have n8 := B.hi
    have lp := SA.lp
    refine ⟨_, rfl, _, rfl, c, x, sa, n, E, p, PS, SN, rfl, B, SA, ex, fun H1 s1 => ?_⟩
    refine ⟨_, rfl, _, rfl, sa, n, i, p, PS, SN, rfl, SA.same s1, hi, ?_⟩
    obtain ⟨dx, q1, q2, q3, hx⟩ := (B.same s1).obj
    refine ⟨_, rfl, x, dx, _, rfl, hx, bf_check _ _ _ _, _, rfl, c, x, n, b, E, rfl, B.same s1, bn, ?_⟩
    refine ⟨_, rfl, _, rfl, c, x, sa, n, E, M, p, PS, SN, rfl, B.same s1, S, SA.same s1, fun H2 l LA Hl s2 => ?_⟩
    have s12 := s1.trans s2
    obtain ⟨us, hus, lus, rus⟩ := LA.ex
    have il : i < us.length := by omega
    have hu : us[i]? = some us[i] := List.getElem?_eq_getElem il
    refine ⟨_, rfl, _, rfl, l, _, _, _, rfl, rfl, SqL.of hus, atI_nat (get_map hu), _, rfl, (by show 1 ≤ sizeLine; decide), fun o ho => ?_⟩
    have s3 := same_upd (o := HO.tup [vI b]) ho
    have ho3 : (L2.upd H2 o (.tup [vI b])) o = some (.tup ((lotP n fun x => x = b).map vI)) := by
      rw [upd_same, lotP_one bn]
      rfl
    generalize L2.upd H2 o (.tup [vI b]) = H3 at s3 ho3
    refine ⟨_, o, n, openP M SN i, fun x => x = b, rfl, n8, s3 _ _ (rus i _ hu), ho3, fun H4 t4 h4 s4 => ?_⟩
    have s24 := s3.trans s4
    have hus4 := s24 _ _ hus
    refine ⟨_, rfl, _, rfl, l, _, _, i, rfl, rfl, hus4, ixN_nat (by simpa using il), ?_⟩
    have s5 : Same H (L2.upd H4 l (.lst ((us.map V.ref).set i (.ref t4)))) := same_mut (s12.trans s24) (s1.free Hl)
    have LA5 : LotsAt n (L2.upd H4 l (.lst ((us.map V.ref).set i (.ref t4)))) l (PS.length + 1) (atP (openP M SN) i b) := by
      refine ⟨⟨us.set i t4, by rw [upd_same, List.map_set], by rw [List.length_set]; exact lus, fun j u e => ?_⟩⟩
      rw [List.getElem?_set] at e
      by_cases ei : i = j
      · rw [if_pos ei, if_pos il] at e
        cases e
        rw [upd_ne (ne_of h4 hus4 (by intro z; cases z)), h4, lotP_congr fun c _ => ?_]
        rw [← ei]
        exact ⟨fun z => ⟨z.1, fun _ => z.2⟩, fun z => ⟨z.1, z.2 rfl⟩⟩
      · rw [if_neg ei] at e
        have g := s24 _ _ (rus j u e)
        rw [upd_ne (ne_of g hus4 (by intro z; cases z)), g, lotP_congr fun c _ => ?_]
        exact ⟨fun z => ⟨z, fun w => absurd w.symm ei⟩, fun z => z.1⟩
    generalize L2.upd H4 l (.lst ((us.map V.ref).set i (.ref t4))) = H5 at s5 LA5
    obtain ⟨tl, tp, ts, hs5, htl5, htp5, hts5⟩ := (SA.same s5).ex
    refine ⟨_, rfl, _, rfl, sa, _, 1, _, rfl, rfl, SqT.of hs5, rfl, _, rfl, c, x, tp, l, n, E, PS, atP (openP M SN) i b, rfl, B.same s5, htp5, (SA.same s5).pc, lp, LA5, fun H6 r CA _ s6 => ?_⟩
    have s06 := s5.trans s6
    refine ⟨_, rfl, _, rfl, sa, r, n, PS.length, p, PS, SN, _, rfl, n8, SA.same s06, CA, fun H7 s7 => ?_⟩
    rw [← walks_cnt]
    have s07 := s06.trans s7
    refine ⟨rfl, _, rfl, ?_⟩
    refine ite2 (fun z => ?_) (fun z => ?_)
    · have z1 : (((walks n PS.length p (stepR E PS) (atP (openP M SN) i b)).length : Nat) : Int) = 0 := V.int.inj (of_decide_eq_true z)
      exact h0 (List.eq_nil_of_length_eq_zero (by omega)) H7 s07
    · have pos : 0 < (walks n PS.length p (stepR E PS) (atP (openP M SN) i b)).length := by
        rcases Nat.eq_zero_or_pos (walks n PS.length p (stepR E PS) (atP (openP M SN) i b)).length with e | e
        · exact absurd (decide_eq_true (show V.int (((walks n PS.length p (stepR E PS) (atP (openP M SN) i b)).length : Nat) : Int) = V.int 0 by rw [e]; rfl)) z
        · exact e
      exact ⟨_, rfl, _, rfl, _, rfl, c, x, sa, r, n, 0, E, p, PS, SN, _, rfl, B.same s07, SA.same s07, CA.same s7, pos, fun H8 t ws ht e s8 => h H8 t ws ht e (s07.trans s8)⟩
end
end RL
/-! A story on its board, by the law and by the program; lots that are kept while numbers are drawn. -/
namespace RL
open PySem PySem.Spec PyProof.Rows L2 RLM
structure Dat (K : PySem.W.Frag) (b c : Addr) (H : Hp) (D x sa : Addr) (n : Nat) (rs : List Addr) (M : Nat → Nat → Nat) (E : List (Nat × Nat)) (p : Nat → Prop) (PS : List (Addr × List Nat)) (SN : List (Addr × V × Triple)) : Prop where
  ta : TabAt c H D n rs M
  bd : BoardAt K c H x n E
  sa : StoryAt n H sa p PS SN
  bx : Box b c H
theorem Dat.same {K : PySem.W.Frag} {b c : Addr} {H H' : Hp} {D x sa : Addr} {n : Nat} {rs : List Addr} {M : Nat → Nat → Nat} {E : List (Nat × Nat)} {p : Nat → Prop} {PS : List (Addr × List Nat)} {SN : List (Addr × V × Triple)} (s : Same H H') (d : Dat K b c H D x sa n rs M E p PS SN) : Dat K b c H' D x sa n rs M E p PS SN :=
  ⟨d.ta.same s, d.bd.same s, d.sa.same s, d.bx.same s⟩
theorem Dat.keep {K : PySem.W.Frag} {b c : Addr} {H H' : Hp} {D x sa : Addr} {n : Nat} {rs : List Addr} {M : Nat → Nat → Nat} {E : List (Nat × Nat)} {p : Nat → Prop} {PS : List (Addr × List Nat)} {SN : List (Addr × V × Triple)} (k : Kc c H H') (B : Box b c H') (d : Dat K b c H D x sa n rs M E p PS SN) : Dat K b c H' D x sa n rs M E p PS SN :=
  ⟨d.ta.keep k, d.bd.keep k d.bx.lst, d.sa.tk (k.tk d.bx.lst), B⟩
theorem LotsAt.keep {n : Nat} {c : Addr} {H H' : Hp} {D : Addr} {m : Nat} {p : Nat → Nat → Prop} (k : Kc c H H') (hc : ∃ ys, H c = some (.lst ys)) (ne : D ≠ c) (h : LotsAt n H D m p) : LotsAt n H' D m p := by
  obtain ⟨us, h1, l1, r1⟩ := h.ex
  exact ⟨⟨us, k _ _ ne (fun _ z => by cases z) h1, l1, fun i v e => k.tup hc (r1 i v e)⟩⟩
theorem LotsAt.ne {n : Nat} {b c : Addr} {H : Hp} {D : Addr} {m : Nat} {p : Nat → Nat → Prop} (h : LotsAt n H D m p) (B : Box b c H) : D ≠ b := by
  obtain ⟨us, h1, _⟩ := h.ex
  obtain ⟨kvs, hb⟩ := B.dict
  exact ne_of h1 hb (by intro z; cases z)
/-- one lot more at the end -/
def snocP (q : Nat → Nat → Prop) (m : Nat) (r : Nat → Prop) : Nat → Nat → Prop := fun i => if i = m then r else q i
theorem snocP_old {q : Nat → Nat → Prop} {m i : Nat} {r : Nat → Prop} (h : i < m) : snocP q m r i = q i := if_neg (by omega)
theorem snocP_new {q : Nat → Nat → Prop} {m : Nat} {r : Nat → Prop} : snocP q m r m = r := if_pos rfl
theorem LotsAt.snoc {n : Nat} {H : Hp} {D t : Addr} {m : Nat} {q : Nat → Nat → Prop} {r : Nat → Prop} {us : List Addr} (h1 : H D = some (.lst (us.map V.ref))) (l1 : us.length = m) (r1 : ∀ (i : Nat) (u : Addr), us[i]? = some u → H u = some (.tup ((lotP n (q i)).map vI))) (ht : H t = some (.tup ((lotP n r).map vI))) : LotsAt n (L2.upd H D (.lst (us.map V.ref ++ [V.ref t]))) D (m + 1) (snocP q m r) := by
  refine ⟨⟨us ++ [t], by rw [upd_same, List.map_append]; rfl, by simp [l1], fun k u e => ?_⟩⟩
  by_cases hk : k < us.length
  · rw [List.getElem?_append_left hk] at e
    have g := r1 k u e
    rw [upd_ne (ne_of g h1 (by intro z; cases z)), snocP_old (by omega)]
    exact g
  · rw [List.getElem?_append_right (by omega)] at e
    have ek : k = us.length := by
      obtain ⟨z1, _⟩ := List.getElem?_eq_some_iff.mp e
      have z1 : k - us.length < 1 := z1
      omega
    rw [ek, Nat.sub_self] at e
    cases e
    rw [upd_ne (ne_of ht h1 (by intro z; cases z)), ek, l1, snocP_new]
    exact ht
/-- one lot more at the beginning -/
def consP (r : Nat → Prop) (q : Nat → Nat → Prop) : Nat → Nat → Prop
  | 0 => r
  | i + 1 => q i
theorem LotsAt.one {n : Nat} {H : Hp} {D t : Addr} {r : Nat → Prop} (h : H D = some (.lst [V.ref t])) (ht : H t = some (.tup ((lotP n r).map vI))) : LotsAt n H D 1 (fun _ => r) := by
  refine ⟨⟨[t], h, rfl, fun i u e => ?_⟩⟩
  cases i with
  | zero =>
    cases e
    exact ht
  | succ i => simp at e
theorem refs_inj : ∀ {us vs : List Addr}, us.map V.ref = vs.map V.ref → us = vs
  | [], [], _ => rfl
  | [], _ :: _, h => by cases h
  | _ :: _, [], h => by cases h
  | u :: us, v :: vs, h => by
    have h := List.cons.inj h
    rw [V.ref.inj h.1, refs_inj h.2]
theorem LotsAt.take {n : Nat} {H H' : Hp} {D D' : Addr} {m k : Nat} {q : Nat → Nat → Prop} (h : LotsAt n H D m q) (s : Same H H') (hk : k ≤ m) (us : List Addr) (hu : H D = some (.lst (us.map V.ref))) (h' : H' D' = some (.lst ((us.take k).map V.ref))) : LotsAt n H' D' k q := by
  obtain ⟨vs, h1, l1, r1⟩ := h.ex
  rw [hu] at h1
  have e : us = vs := by
    have e1 := HO.lst.inj (Option.some.inj h1)
    exact refs_inj e1
  subst e
  refine ⟨⟨us.take k, h', by rw [List.length_take]; omega, fun i u e => s _ _ (r1 i u ?_)⟩⟩
  have il := (List.getElem?_eq_some_iff.mp e).1
  rw [List.length_take] at il
  rw [List.getElem?_take_of_lt (by omega)] at e
  exact e
theorem LotsAt.drop {n : Nat} {H H' : Hp} {D D' : Addr} {m k : Nat} {q : Nat → Nat → Prop} (h : LotsAt n H D m q) (s : Same H H') (us : List Addr) (hu : H D = some (.lst (us.map V.ref))) (h' : H' D' = some (.lst ((us.drop k).map V.ref))) : LotsAt n H' D' (m - k) (fun i => q (k + i)) := by
  obtain ⟨vs, h1, l1, r1⟩ := h.ex
  rw [hu] at h1
  have e : us = vs := by
    have e1 := HO.lst.inj (Option.some.inj h1)
    exact refs_inj e1
  subst e
  refine ⟨⟨us.drop k, h', by rw [List.length_drop]; omega, fun i u e => s _ _ (r1 (k + i) u ?_)⟩⟩
  rw [List.getElem?_drop] at e
  exact e
end RL
/-! A paper: a walk, or lots ahead or behind. -/
namespace RL
open PySem PySem.Spec PyProof.Rows L2 RLM
section
variable {P : Program} {w : World} {K : PySem.W.Frag} {mg : Str → Option Value} {base : Heap}
def spPaper (K : PySem.W.Frag) : Sp := fun vs H Q _ => ∃ (c x s : Addr) (n i b : Nat) (E : List (Nat × Nat)) (M : Nat → Nat → Nat) (p : Nat → Prop) (PS : List (Addr × List Nat)) (SN : List (Addr × V × Triple)), vs = [.ref x, .ref s, vI i, vI b] ∧ BoardAt K c H x n E ∧ Spans n E M ∧ StoryAt n H s p PS SN ∧ (∃ a, a < n ∧ p a) ∧ i ≤ PS.length ∧ b < n ∧
  (∀ H' t tw ws, H' t = some (.tup [.str "walk", .ref tw]) → H' tw = some (.tup (ws.map vI)) → Fit n PS.length p (stepR E PS) (openP M SN) ws → ws[i]? = some b → (walks n PS.length p (stepR E PS) (atP (openP M SN) i b))[0]? = some ws → Same H H' → Q (.ref t) H') ∧
  (¬ KnownP n p E PS (openP M SN) i b → ∀ H' t l, H' t = some (.tup [.str "ahead", .ref l]) → LotsAt n H' l (i + 1) (ForthP n p (stepR E PS) (openP M SN)) → ¬ ForthP n p (stepR E PS) (openP M SN) i b → H l = none → Same H H' → Q (.ref t) H') ∧
  (¬ KnownP n p E PS (openP M SN) i b → ∀ H' t l, H' t = some (.tup [.str "behind", .ref l]) → LotsAt n H' l (PS.length + 1 - i) (fun k => BackP n PS.length (stepR E PS) (openP M SN) (PS.length - (i + k))) → ForthP n p (stepR E PS) (openP M SN) i b → H l = none → Same H H' → Q (.ref t) H')
theorem sc_paper : FnScope ["board", "story", "beat", "place", "walk", "lots"] ["board", "story", "beat", "place"] (defScope s_paper) := ⟨rfl, rfl, rfl, by decide +kernel, rfl, by decide +kernel, by decide +kernel⟩
theorem ok_paper (T : Tx K mg) : Has P w K mg base (He.ga K "paper") 11 ["board", "story", "beat", "place"] (spPaper K) := by
  obtain ⟨⟨fd_walk_by, F_walk_by, b_walk_by⟩, kp_walk_by⟩ := ok_walk_by (P := P) (w := w) (base := base) T
  obtain ⟨⟨fd_forth, F_forth, b_forth⟩, kp_forth⟩ := ok_pforth (P := P) (w := w) (base := base) T
  obtain ⟨⟨fd_back, F_back, b_back⟩, kp_back⟩ := ok_pback (P := P) (w := w) (base := base) T
  obtain ⟨fd, F⟩ := T.d_paper
  refine ⟨⟨fd, F.ok sc_paper (fun vs H Q E h => ?_) (fun cdv A outer s H vs Q E hr h => ?_), F.bindsN fun _ _ _ _ _ _ us hl => match us, hl with | [_, _, _, _], _ => rfl⟩, F.kp⟩
  · obtain ⟨c, x, s, n, i, b, E, M, p, PS, SN, rfl, _⟩ := h
    rfl
  · obtain ⟨c, x, sa, n, i, b, E, M, p, PS, SN, rfl, B, S, SA, ex, hi, bn, hw, ha, hb⟩ := h
    have hr_walk_by : Room 10 _ := hr.mono (by decide)
    have hr_forth : Room 10 _ := hr.mono (by decide)
    have hr_back : Room 10 _ := hr.mono (by decide)
    refine ⟨_, PSs.nox (pss_cons (ps_set (i := 4) sc_paper.nd rfl (Or.inl rfl) (pe_call F_walk_by hr_walk_by rfl T.glo_walk_by kp_walk_by b_walk_by .nil pass0 (pa_cons (pv 0) (pa_cons (pv 1) (pa_cons (pv 2) (pa_cons (pv 3) pa_nil))))))
      (pss_cons (ps_if (pt_cmpR op_notN (pv 4) pe_non (nomark _)) (pss_one (ps_ret (pe_tup (pa_cons pe_str (pa_cons (pv 4) pa_nil))))) pss_nil)
      (pss_cons (ps_set (i := 5) sc_paper.nd rfl (Or.inl rfl) (pe_call F_forth hr_forth rfl T.glo_forth kp_forth b_forth .nil pass0 (pa_cons (pv 0) (pa_cons (pv 1) pa_nil))))
      (pss_cons (ps_if (pt_cmpR (show OpR _ (compareOp .NotIn) (rIn K true) from op_notIn_seq) (pv 3) (pe_ix (ixL (K := K)) (pv 5) (pv 2) (fun _ _ => rfl)) (by rfl)) (pss_one (ps_ret (pe_tup (pa_cons pe_str (pa_cons (pe_slice (slL (K := K)) (pv 5) po_none (po_some (pe_op op_add (pv 2) pe_int))) pa_nil))))) pss_nil)
      (pss_one (ps_ret (pe_tup (pa_cons pe_str (pa_cons (pe_slice (slL (K := K)) (pe_call F_back hr_back rfl T.glo_back kp_back b_back .nil pass0 (pa_cons (pv 0) (pa_cons (pv 1) pa_nil))) (po_some (pv 2)) po_none) pa_nil))))))))), ?_⟩
    refine ⟨_, rfl, _, rfl, _, rfl, _, rfl, c, x, sa, n, i, b, E, M, p, PS, SN, rfl, B, S, SA, ex, hi, bn, fun e0 H1 s1 => ?_, fun H1 t ws ht e0 s1 => ?_⟩
    · have nk : ¬ KnownP n p E PS (openP M SN) i b := fun z => (at_known hi).2 z e0
      refine ⟨_, rfl, rfl, _, rfl, iteF ?_⟩
      refine ⟨_, rfl, _, rfl, c, x, sa, n, E, M, p, PS, SN, rfl, B.same s1, S, SA.same s1, ex, fun H2 l LA fl s2 => ?_⟩
      obtain ⟨us, hus, lus, rus⟩ := LA.ex
      have hui : us[i]? = some (us[i]'(by omega)) := List.getElem?_eq_getElem _
      generalize us[i]'(by omega) = ui at hui
      have s12 := s1.trans s2
      have fl0 := s1.free fl
      refine ⟨_, rfl, _, rfl, _, rfl, l, _, _, _, rfl, rfl, SqL.of hus, atI_nat (get_map hui), ui, _, rfl, .inr (SqT.of (rus i ui hui)), rfl, flat_vI _, _, rfl, ?_⟩
      show if (!inV (vI b) ((lotP n (ForthP n p (stepR E PS) (openP M SN) i)).map vI)) = true then _ else _
      rw [in_lot]
      by_cases hf : b ∈ lotP n (ForthP n p (stepR E PS) (openP M SN) i)
      · rw [decide_eq_true hf]
        refine iteF ?_
        refine ⟨_, rfl, _, rfl, c, x, sa, n, E, M, p, PS, SN, rfl, B.same s12, S, SA.same s12, ex, fun H3 l3 LA3 fl3 s3 => ?_⟩
        obtain ⟨vs, hvs, lvs, rvs⟩ := LA3.ex
        refine ⟨_, rfl, _, rfl, l3, _, rfl, SqL.of hvs, fun l4 hl4 => ?_⟩
        have e4 : cutV (vs.map V.ref) (some ((i : Nat) : Int)) none = (vs.drop i).map V.ref := by rw [cut_from i, List.map_drop]
        have s4 := same_upd (o := HO.lst (cutV (vs.map V.ref) (some ((i : Nat) : Int)) none)) hl4
        have h4 : (L2.upd H3 l4 (.lst (cutV (vs.map V.ref) (some ((i : Nat) : Int)) none))) l4 = some (.lst ((vs.drop i).map V.ref)) := by rw [upd_same, e4]
        generalize L2.upd H3 l4 (.lst (cutV (vs.map V.ref) (some ((i : Nat) : Int)) none)) = H4 at s4 h4
        refine ⟨(by show 2 ≤ sizeLine; decide), fun t ht => ?_⟩
        have s5 := same_upd (o := HO.tup [.str "behind", .ref l4]) ht
        have s15 := ((s12.trans s3).trans s4).trans s5
        exact hb nk _ t l4 upd_same ((LA3.drop s4 vs hvs h4).same s5) (mem_lotP.mp hf).2 ((s12.trans s3).free hl4) s15
      · rw [decide_eq_false hf]
        refine iteT ?_
        refine ⟨_, rfl, _, rfl, _, _, rfl, rfl, _, rfl, l, _, rfl, SqL.of hus, fun l3 hl3 => ?_⟩
        have e3 : cutV (us.map V.ref) none (some (((i : Nat) : Int) + 1)) = (us.take (i + 1)).map V.ref := by
          have := cut_to (xs := us.map V.ref) (i + 1)
          rw [show ((i + 1 : Nat) : Int) = ((i : Nat) : Int) + 1 from rfl] at this
          rw [this, List.map_take]
        have s3 := same_upd (o := HO.lst (cutV (us.map V.ref) none (some (((i : Nat) : Int) + 1)))) hl3
        have h3 : (L2.upd H2 l3 (.lst (cutV (us.map V.ref) none (some (((i : Nat) : Int) + 1))))) l3 = some (.lst ((us.take (i + 1)).map V.ref)) := by rw [upd_same, e3]
        generalize L2.upd H2 l3 (.lst (cutV (us.map V.ref) none (some (((i : Nat) : Int) + 1)))) = H3 at s3 h3
        refine ⟨(by show 2 ≤ sizeLine; decide), fun t ht => ?_⟩
        have s4 := same_upd (o := HO.tup [.str "ahead", .ref l3]) ht
        exact ha nk _ t l3 upd_same ((LA.take s3 (by omega) us hus h3).same s4) (fun z => hf (mem_lotP.mpr ⟨bn, z⟩)) (s12.free hl3) ((s12.trans s3).trans s4)
    · have mw := List.mem_of_getElem? e0
      have fw := (fit_at hi).1 (mem_walks.1 mw)
      refine ⟨_, rfl, rfl, _, rfl, iteT ?_⟩
      refine ⟨_, rfl, (by show 2 ≤ sizeLine; decide), fun t2 ht2 => ?_⟩
      have s2 := same_upd (o := HO.tup [.str "walk", .ref t]) ht2
      exact hw _ t2 t ws upd_same (s2 _ _ ht) fw.1 fw.2 e0 (s1.trans s2)
end
end RL
namespace RL
open PySem PySem.Spec PyProof.Rows L2 RLM
theorem all_bools {bs : List Bool} : bs.all id = true ↔ ∀ b ∈ bs, b = true := List.all_eq_true
theorem all_snoc {bs : List Bool} {b : Bool} : (bs ++ [b]).all id = true ↔ bs.all id = true ∧ b = true := by
  rw [List.all_append, Bool.and_eq_true]
  simp
section
variable {P : Program} {w : World} {K : PySem.W.Frag} {mg : Str → Option Value} {base : Heap}
def spAllHave : Sp := fun vs H Q _ => ∃ (a b : Addr) (n m : Nat) (q r : Nat → Nat → Prop), vs = [.ref a, .ref b] ∧ n ≤ 8 ∧ m ≤ 100 ∧ LotsAt n H a m q ∧ LotsAt n H b m r ∧ ∀ H', Same H H' → Q (.bl (decB (∀ j, j < m → ∀ c, c < n → r j c → q j c))) H'
theorem sc_all_have : FnScope ["lots", "needed", "lot", "places", "place"] ["lots", "needed"] (defScope s_all_have) := ⟨rfl, rfl, rfl, by decide +kernel, rfl, by decide +kernel, by decide +kernel⟩
theorem ok_all_have (T : Tx K mg) : Has P w K mg base (He.ga K "all_have") 1 ["lots", "needed"] spAllHave := by
  obtain ⟨fd, F⟩ := T.d_all_have
  refine ⟨⟨fd, F.ok sc_all_have (fun vs H Q E h => ?_) (fun cdv A outer s H vs Q E hr h => ?_), F.bindsN fun _ _ _ _ _ _ us hl => match us, hl with | [_, _], _ => rfl⟩, F.kp⟩
  · obtain ⟨a, b, n, m, q, r, rfl, _⟩ := h
    rfl
  · obtain ⟨a, b, n, m, q, r, rfl, n8, m100, LA, LB, h⟩ := h
    refine ⟨_, PSs.nox (pss_one (ps_ret (pe_callB (allK (K := K)) (by rfl) T.free_all (by decide +kernel) (pa_cons (pe_lc2 (own := [("lot", 2), ("places", 3), ("place", 4)]) (vs1 := [4]) (tt := tYes) (g1 := (gName 4)) (tt1 := tYes) rfl sc_all_have.nd (pi_zh false false (K := K) (by rfl) T.free_zip (pa_cons (pv 0) (pa_cons (pv 1) pa_nil))) (blkOk_by (by kernel_rfl)) (by decide) (fun _ _ _ _ _ => (pgT (K := K) (n := 2) rfl (pgs_cons (pg_name (i := 2) sc_all_have.nd rfl (Or.inl rfl)) (pgs_cons (pg_name (i := 3) sc_all_have.nd rfl (Or.inl rfl)) pgs_nil)))) (fun _ _ _ _ _ => pts_nil) (fun _ _ _ _ _ => (piT (K := K) (pv 3))) (fun _ _ _ _ _ => (pg_name (i := 4) sc_all_have.nd rfl (Or.inl rfl))) (fun _ _ _ _ _ => pts_nil) (fun _ _ _ _ _ => (pe_cmpR (inSq (K := K)) (pv 4) (pv 2) (by rfl)))) pa_nil)))), ?_⟩
    obtain ⟨us, hus, lus, rus⟩ := LA.ex
    obtain ⟨ws, hws, lws, rws⟩ := LB.ex
    refine ⟨_, rfl, _, rfl, a, b, _, _, rfl, SqL.of hus, SqL.of hws, fun D hD => ?_⟩
    refine it_any (walk_zh (u1 := false) (u2 := false) (K := K) (a := a) (b := b) (xs := us.map V.ref) (ys := ws.map V.ref) (n := m) (by simp [lus, lws])) (fun i H1 => ∃ bs : List Bool, H1 D = some (.lst (bs.map V.bl)) ∧ bs.length ≤ 8 * i ∧ (bs.all id = true ↔ ∀ j, j < i → ∀ c, c < n → r j c → q j c) ∧ Same H H1) ⟨[], upd_same, by simp, ⟨fun _ j hj => absurd hj (Nat.not_lt_zero _), fun _ => rfl⟩, same_upd hD⟩ (fun i H1 _ ⟨_, _, _, _, s1⟩ => ⟨SqL.of (s1 _ _ hus), SqL.of (s1 _ _ hws)⟩) ?_ ?_
    · rintro i y H1 H2 hi ⟨bs, hb, lb, ab, s1⟩ ⟨T1, y1, y2, rfl, hT, rfl, e1, e2⟩
      obtain ⟨u, hu, rfl⟩ := get_mapV (show (us.map V.ref)[i]? = some y1 from e1)
      obtain ⟨v, hv, rfl⟩ := get_mapV (show (ws.map V.ref)[i]? = some y2 from e2)
      have s2 : Same H1 (L2.upd H1 T1 (.tup [.ref u, .ref v])) := same_upd hT
      have hT2 : (L2.upd H1 T1 (.tup [.ref u, .ref v])) T1 = some (.tup [.ref u, .ref v]) := upd_same
      generalize L2.upd H1 T1 (.tup [.ref u, .ref v]) = H2 at s2 hT2
      have s12 := s1.trans s2
      have hu2 := s12 _ _ (rus i u hu)
      have hv2 := s12 _ _ (rws i v hv)
      have hb2 := s2 _ _ hb
      refine ⟨T1, _, rfl, SqT.of hT2, rfl, _, _, rfl, _, _, rfl, rfl, rfl, yesT ?_⟩
      refine ⟨_, rfl, v, rfl, ⟨_, SqT.of hv2⟩, ?_⟩
      refine it_any (walk_tup (K := K) (a := v) (xs := (lotP n (r i)).map vI)) (fun k H3 => ∃ cs : List Bool, H3 D = some (.lst (cs.map V.bl)) ∧ cs.length ≤ 8 * i + k ∧ (cs.all id = true ↔ (∀ j, j < i → ∀ c, c < n → r j c → q j c) ∧ ∀ c ∈ (lotP n (r i)).take k, q i c) ∧ Same H H3) ⟨bs, hb2, by omega, by rw [ab]; simp, s12⟩ (fun k H3 _ ⟨_, _, _, _, s3⟩ => SqT.of (s3 _ _ (rws i v hv))) ?_ ?_
      · rintro k z H3 _ hk ⟨cs, hc, lc, ac, s3⟩ ⟨rfl, hz⟩
        obtain ⟨d, hd, rfl⟩ := get_vI hz
        have kl : k < 8 := by
          rw [List.length_map] at hk
          have := lotP_len n (r i)
          omega
        refine ⟨rfl, yesT ?_⟩
        refine ⟨_, rfl, _, rfl, u, _, rfl, .inr (SqT.of (s3 _ _ (rus i u hu))), rfl, flat_vI _, ?_⟩
        rw [in_lot]
        refine ⟨_, hc, ?_, cs ++ [decide (d ∈ lotP n (q i))], ?_, by simp; omega, ?_, same_mut s3 hD⟩
        · rw [List.length_map]
          exact Nat.lt_of_le_of_lt (show cs.length ≤ 1000 by omega) (by decide)
        · rw [upd_same, List.map_append]
          rfl
        · rw [all_snoc, ac, List.take_add_one, hd, decide_eq_true_iff]
          have dn := (mem_lotP.mp (List.mem_of_getElem? hd)).1
          constructor
          · rintro ⟨⟨z1, z2⟩, z3⟩
            refine ⟨z1, fun c hcm => ?_⟩
            rcases List.mem_append.mp hcm with e | e
            · exact z2 c e
            · have : c = d := by simpa using e
              rw [this]
              exact (mem_lotP.mp z3).2
          · rintro ⟨z1, z2⟩
            exact ⟨⟨z1, fun c hcm => z2 c (List.mem_append_left _ hcm)⟩, mem_lotP.mpr ⟨dn, z2 d (List.mem_append_right _ (by simp))⟩⟩
      · rintro H3 ⟨cs, hc, lc, ac, s3⟩
        rw [List.length_map] at lc ac
        rw [List.take_length] at ac
        have l8 := lotP_len n (r i)
        refine ⟨cs, hc, by omega, ?_, s3⟩
        rw [ac]
        constructor
        · rintro ⟨z1, z2⟩ j hj c cn rc
          rcases Nat.lt_or_ge j i with e | e
          · exact z1 j e c cn rc
          · have : j = i := by omega
            subst this
            exact z2 c (mem_lotP.mpr ⟨cn, rc⟩)
        · intro z
          exact ⟨fun j hj => z j (by omega), fun c hc => z i (Nat.lt_succ_self i) c (mem_lotP.mp hc).1 (mem_lotP.mp hc).2⟩
    · rintro H1 ⟨bs, hb, lb, ab, s1⟩
      refine ⟨D, bs, rfl, SqL.of hb, ?_⟩
      have e : bs.all id = decB (∀ j, j < m → ∀ c, c < n → r j c → q j c) := Bool.eq_iff_iff.mpr (ab.trans decB_true.symm)
      rw [e]
      exact h H1 s1
/-- what each lot needs, by the one ahead -/
def needA (n : Nat) (p : Nat → Prop) (E : List (Nat × Nat)) (PS : List (Addr × List Nat)) (O q : Nat → Nat → Prop) : Nat → Nat → Prop
  | 0, c => p c ∧ O 0 c
  | j + 1, c => (∃ a, a < n ∧ q j a ∧ stepR E PS j a c) ∧ O (j + 1) c
theorem needA_step {n : Nat} {p : Nat → Prop} {E : List (Nat × Nat)} {PS : List (Addr × List Nat)} {O q : Nat → Nat → Prop} {j : Nat} {e : Addr × List Nat} (he : PS[j]? = some e) : lotP n (fun b => stepP n E e.2 (q j) b ∧ O (j + 1) b) = lotP n (needA n p E PS O q (j + 1)) := lotP_congr fun b hb => by
  constructor
  · rintro ⟨⟨a, an, qa, nr⟩, o⟩
    exact ⟨⟨a, an, qa, e, he, nr⟩, o⟩
  · rintro ⟨⟨a, an, qa, e', he', nr⟩, o⟩
    rw [he] at he'
    cases he'
    exact ⟨⟨a, an, qa, nr⟩, o⟩
def spShutA (K : PySem.W.Frag) : Sp := fun vs H Q _ => ∃ (c x s l : Addr) (n i m : Nat) (E : List (Nat × Nat)) (M : Nat → Nat → Nat) (p : Nat → Prop) (PS : List (Addr × List Nat)) (SN : List (Addr × V × Triple)) (q : Nat → Nat → Prop), vs = [.ref x, .ref s, vI i, .ref l] ∧ BoardAt K c H x n E ∧ Spans n E M ∧ StoryAt n H s p PS SN ∧ i ≤ PS.length ∧ LotsAt n H l m q ∧ m ≤ 100 ∧
  ∀ H', Same H H' → Q (.bl (decB (m = i + 1 ∧ ∀ j, j < i + 1 → ∀ c, c < n → needA n p E PS (openP M SN) q j c → q j c))) H'
theorem sc_shut_ahead : FnScope ["board", "story", "beat", "lots", "fitting", "needed", "pace", "lot", "fit"] ["board", "story", "beat", "lots"] (defScope s_shut_ahead) := ⟨rfl, rfl, rfl, by decide +kernel, rfl, by decide +kernel, by decide +kernel⟩
theorem ok_shutA (T : Tx K mg) : Has P w K mg base (He.ga K "shut_ahead") 10 ["board", "story", "beat", "lots"] (spShutA K) := by
  obtain ⟨⟨fd_answering, F_answering, b_answering⟩, kp_answering⟩ := ok_answering (P := P) (w := w) (base := base) T
  obtain ⟨⟨fd_meet, F_meet, b_meet⟩, kp_meet⟩ := ok_meet (P := P) (w := w) (base := base) T
  obtain ⟨⟨fd_step, F_step, b_step⟩, kp_step⟩ := ok_step (P := P) (w := w) (base := base) T
  obtain ⟨⟨fd_all_have, F_all_have, b_all_have⟩, kp_all_have⟩ := ok_all_have (P := P) (w := w) (base := base) T
  obtain ⟨fd, F⟩ := T.d_shut_ahead
  refine ⟨⟨fd, F.ok sc_shut_ahead (fun vs H Q E h => ?_) (fun cdv A outer s H vs Q E hr h => ?_), F.bindsN fun _ _ _ _ _ _ us hl => match us, hl with | [_, _, _, _], _ => rfl⟩, F.kp⟩
  · obtain ⟨c, x, s, l, n, i, m, E, M, p, PS, SN, q, rfl, _⟩ := h
    rfl
  · obtain ⟨c, x, sa, l, n, i, m, E, M, p, PS, SN, q, rfl, B, S, SA, hi, LQ, m100, h⟩ := h
    have hr_answering : Room 9 _ := hr.mono (by decide)
    have hr_meet : Room 1 _ := hr.mono (by decide)
    have hr_step : Room 5 _ := hr.mono (by decide)
    have hr_all_have : Room 1 _ := hr.mono (by decide)
    refine ⟨_, PSs.nox (pss_cons (ps_if (pt_cmpR op_ne (pe_callB (lenK (K := K)) (by rfl) T.free_len (by decide +kernel) (pa_cons (pv 3) pa_nil)) (pe_op op_add (pv 2) pe_int) (nomark _)) (pss_one (ps_ret pe_bl)) pss_nil)
      (pss_cons (ps_set (i := 4) sc_shut_ahead.nd rfl (Or.inl rfl) (pe_call F_answering hr_answering rfl T.glo_answering kp_answering b_answering .nil pass0 (pa_cons (pv 0) (pa_cons (pv 1) pa_nil))))
      (pss_cons (ps_set (i := 5) sc_shut_ahead.nd rfl (Or.inl rfl) (pe_lst (pa_cons (pe_call F_meet hr_meet rfl T.glo_meet kp_meet b_meet .nil pass0 (pa_cons (pe_ix (ixT (K := K)) (pv 1) pe_int (fun _ _ => rfl)) (pa_cons (pe_ix (ixL (K := K)) (pv 4) pe_int (fun _ _ => rfl)) pa_nil))) pa_nil)))
      (pss_cons (ps_for PassesOwn.never rfl (pi_z3 true false false (K := K) (by rfl) T.free_zip (pa_cons (pe_ix (ixT (K := K)) (pv 1) pe_int (fun _ _ => rfl)) (pa_cons (pe_slice (slL (K := K)) (pv 3) po_none (po_some (pe_un un_neg pe_int))) (pa_cons (pe_slice (slL (K := K)) (pv 4) (po_some pe_int) po_none) pa_nil)))) (pgT (K := K) (n := 3) rfl (pgs_cons (pg_name (i := 6) sc_shut_ahead.nd rfl (Or.inl rfl)) (pgs_cons (pg_name (i := 7) sc_shut_ahead.nd rfl (Or.inl rfl)) (pgs_cons (pg_name (i := 8) sc_shut_ahead.nd rfl (Or.inl rfl)) pgs_nil)))) (pss_one (ps_expr (bmK (K := K) PySem.F.plainAttrs_list PySem.F.slot_list_append PySem.F.type_list_append mt_append (pv 5) (pa_cons (pe_call F_meet hr_meet rfl T.glo_meet kp_meet b_meet .nil pass0 (pa_cons (pe_call F_step hr_step rfl T.glo_step kp_step b_step .nil pass0 (pa_cons (pv 0) (pa_cons (pv 6) (pa_cons (pv 7) pa_nil)))) (pa_cons (pv 8) pa_nil))) pa_nil)))))
      (pss_one (ps_ret (pe_call F_all_have hr_all_have rfl T.glo_all_have kp_all_have b_all_have .nil pass0 (pa_cons (pv 3) (pa_cons (pv 5) pa_nil))))))))), ?_⟩
    have n8 := B.hi
    have lp := SA.lp
    obtain ⟨tl, tp, ts, hs, htl, htp, hts⟩ := SA.ex
    obtain ⟨us, hus, lus, rus⟩ := LQ.ex
    refine ⟨_, rfl, l, _, rfl, .inl (SqL.of hus), _, rfl, _, _, rfl, rfl, rfl, _, rfl, ?_⟩
    rw [List.length_map, lus]
    by_cases hm : m = i + 1
    case neg =>
      have e : (!decide (V.int ((m : Nat) : Int) = V.int (((i : Nat) : Int) + 1))) = true := by
        rw [decide_eq_false (fun z => hm (by have := V.int.inj z; omega))]
        rfl
      rw [e]
      refine iteT ?_
      have := h H fun _ _ e => e
      rw [show decB (m = i + 1 ∧ ∀ j, j < i + 1 → ∀ c, c < n → needA n p E PS (openP M SN) q j c → q j c) = false from Bool.eq_false_iff.mpr fun z => hm (decB_true.mp z).1] at this
      exact this
    case pos =>
      subst hm
      have e : (!decide (V.int (((i + 1 : Nat)) : Int) = V.int (((i : Nat) : Int) + 1))) = false := by
        rw [decide_eq_true (by congr 1)]
        rfl
      rw [e]
      refine iteF ?_
      refine ⟨_, rfl, _, rfl, c, x, sa, n, E, M, p, PS, SN, rfl, B, S, SA, fun H2 lf LF _ s2 => ?_⟩
      obtain ⟨fs, hfs, lfs, rfs⟩ := LF.ex
      have hf0 : fs[0]? = some (fs[0]'(by omega)) := List.getElem?_eq_getElem _
      generalize fs[0]'(by omega) = f0 at hf0
      refine ⟨_, rfl, sa, _, 0, _, rfl, rfl, SqT.of (s2 _ _ hs), rfl, _, rfl, lf, _, 0, _, rfl, rfl, SqL.of hfs, atI_nat (j := 0) (get_map hf0), ?_⟩
      refine ⟨tl, f0, n, p, openP M SN 0, rfl, n8, s2 _ _ htl, rfs 0 _ hf0, fun H3 t0 ht0 s3 => ?_⟩
      refine ⟨(by show 1 ≤ sizeLine; decide), fun g hg => ?_⟩
      have s4 := same_upd (o := HO.lst [V.ref t0]) hg
      have hg4 : (L2.upd H3 g (.lst [V.ref t0])) g = some (.lst [V.ref t0]) := upd_same
      have ht4 := s4 _ _ ht0
      have s24 := s3.trans s4
      have H2g : H2 g = none := s3.free hg
      generalize L2.upd H3 g (.lst [V.ref t0]) = H4 at s4 hg4 ht4 s24
      have s04 := s2.trans s24
      refine ⟨_, rfl, sa, _, 1, _, rfl, rfl, SqT.of (s04 _ _ hs), rfl, _, rfl, 1, rfl, _, rfl, l, _, rfl, SqL.of (s04 _ _ hus), fun l1 hl1 => ?_⟩
      have s5 := same_upd (o := HO.lst (cutV (us.map V.ref) none (some (-1)))) hl1
      have h15 : (L2.upd H4 l1 (.lst (cutV (us.map V.ref) none (some (-1))))) l1 = some (.lst ((us.take i).map V.ref)) := by rw [upd_same, cut_init lus]
      have hg5 := s5 _ _ hg4
      have s25 := s24.trans s5
      have n1g : g ≠ l1 := ne_of_none hg4 hl1
      generalize L2.upd H4 l1 (.lst (cutV (us.map V.ref) none (some (-1)))) = H5 at s5 h15 hg5 s25
      refine ⟨_, rfl, 1, rfl, lf, _, rfl, SqL.of (s25 _ _ hfs), fun l2 hl2 => ?_⟩
      have s6 := same_upd (o := HO.lst (cutV (fs.map V.ref) (some 1) none)) hl2
      have h26 : (L2.upd H5 l2 (.lst (cutV (fs.map V.ref) (some 1) none))) l2 = some (.lst ((fs.drop 1).map V.ref)) := by rw [upd_same, show cutV (fs.map V.ref) (some 1) none = (fs.map V.ref).drop 1 from cut_from 1, List.map_drop]
      have h16 := s6 _ _ h15
      have hg6 := s6 _ _ hg5
      have ht6 := s6 _ _ (s5 _ _ ht4)
      have n2g : g ≠ l2 := ne_of_none hg5 hl2
      have s26 := s25.trans s6
      generalize L2.upd H5 l2 (.lst (cutV (fs.map V.ref) (some 1) none)) = H6 at s6 h26 h16 hg6 ht6 s26
      have s06 := s2.trans s26
      refine ⟨tp, l1, l2, _, _, _, rfl, SqT.of (s06 _ _ htp), SqL.of h16, SqL.of h26, ?_⟩
      refine for_it (walk_z3 (u1 := true) (u2 := false) (u3 := false) (K := K) (a := tp) (b := l1) (c := l2) (xs := PS.map fun q => V.ref q.1) (ys := (us.take i).map V.ref) (zs := (fs.drop 1).map V.ref) (n := i) (by simp [lus, lfs]; omega)) (fun j σ H7 => ∃ (v6 v7 v8 : Option V) (vs : List Addr), σ = [some (.ref x), some (.ref sa), some (vI i), some (.ref l), some (.ref lf), some (.ref g), v6, v7, v8] ∧ H7 g = some (.lst (vs.map V.ref)) ∧ vs.length = j + 1 ∧ (∀ (k : Nat) (u : Addr), vs[k]? = some u → H7 u = some (.tup ((lotP n (needA n p E PS (openP M SN) q k)).map vI))) ∧ Same H2 H7 ∧ H7 l1 = some (.lst ((us.take i).map V.ref)) ∧ H7 l2 = some (.lst ((fs.drop 1).map V.ref)))
        ⟨none, none, none, [t0], rfl, hg6, rfl, fun k u e => ?_, s26, h16, h26⟩ (fun j σ H7 _ ⟨_, _, _, _, _, _, _, _, s7, h17, h27⟩ => ⟨SqT.of (s7 _ _ (s2 _ _ htp)), SqL.of h17, SqL.of h27⟩) ?_ ?_
      · cases k with
        | zero =>
          cases e
          exact ht6
        | succ k => simp at e
      · rintro j y σ H7 H8 hj ⟨v6, v7, v8, vs, rfl, hg7, lv, rv, s7, h17, h27⟩ ⟨T1, y1, y2, y3, rfl, hT, rfl, e1, e2, e3⟩
        obtain ⟨qq, hq, rfl⟩ := get_mapV (show (PS.map fun q => V.ref q.1)[j]? = some y1 from e1)
        obtain ⟨u, hu, rfl⟩ := get_mapV (show ((us.take i).map V.ref)[j]? = some y2 from e2)
        obtain ⟨f1, hf1, rfl⟩ := get_mapV (show ((fs.drop 1).map V.ref)[j]? = some y3 from e3)
        rw [List.getElem?_take_of_lt hj] at hu
        rw [List.getElem?_drop, Nat.add_comm] at hf1
        have s8 : Same H7 (L2.upd H7 T1 (.tup [.ref qq.1, .ref u, .ref f1])) := same_upd hT
        have hT8 : (L2.upd H7 T1 (.tup [.ref qq.1, .ref u, .ref f1])) T1 = some (.tup [.ref qq.1, .ref u, .ref f1]) := upd_same
        generalize L2.upd H7 T1 (.tup [.ref qq.1, .ref u, .ref f1]) = H8 at s8 hT8
        have s28 := s7.trans s8
        have s08 := s2.trans s28
        have hg8 := s8 _ _ hg7
        have PQ := SA.pc qq (List.mem_of_getElem? hq)
        refine ⟨T1, _, rfl, SqT.of hT8, rfl, _, _, rfl, _, _, rfl, _, _, rfl, rfl, ?_⟩
        refine ⟨_, rfl, .inl ⟨rfl, _, SqL.of hg8⟩, _, rfl, _, rfl, _, rfl, c, x, qq.1, u, n, E, qq.2, q j, rfl, B.same s08, s08 _ _ PQ.1, PQ.2, s08 _ _ (rus j u hu), fun H9 t9 ht9 s9 => ?_⟩
        refine ⟨_, rfl, t9, f1, n, _, openP M SN (j + 1), rfl, n8, ht9, s9 _ _ (s28 _ _ (rfs (j + 1) f1 hf1)), fun H10 t10 ht10 s10 => ?_⟩
        have s810 := s9.trans s10
        have hg10 := s810 _ _ hg8
        refine ⟨g, _, _, rfl, rfl, hg10, ?_, ?_⟩
        · rw [List.length_map]
          exact Nat.lt_of_le_of_lt (show vs.length ≤ 13 by omega) (by decide)
        refine ⟨_, _, _, vs ++ [t10], rfl, ?_, by simp [lv], fun k u e => ?_, same_mut (s28.trans s810) H2g, ?_, ?_⟩
        · rw [upd_same, List.map_append]
          rfl
        · by_cases hk : k < vs.length
          · rw [List.getElem?_append_left hk] at e
            have gg := s810 _ _ (s8 _ _ (rv k u e))
            rw [upd_ne (ne_of gg hg10 (by intro z; cases z))]
            exact gg
          · rw [List.getElem?_append_right (by omega)] at e
            have ek : k = vs.length := by
              obtain ⟨h1, _⟩ := List.getElem?_eq_some_iff.mp e
              have h1 : k - vs.length < 1 := h1
              omega
            rw [ek, Nat.sub_self] at e
            cases e
            rw [upd_ne (ne_of ht10 hg10 (by intro z; cases z)), ek, lv, ← needA_step hq]
            exact ht10
        · rw [upd_ne n1g.symm]
          exact s810 _ _ (s8 _ _ h17)
        · rw [upd_ne n2g.symm]
          exact s810 _ _ (s8 _ _ h27)
      · rintro σ H7 ⟨v6, v7, v8, vs, rfl, hg7, lv, rv, s7, h17, h27⟩
        have s07 := s2.trans s7
        refine ⟨_, rfl, _, rfl, l, g, n, i + 1, q, needA n p E PS (openP M SN) q, rfl, n8, m100, LQ.same s07, ⟨⟨vs, hg7, lv, rv⟩⟩, fun H8 s8 => ?_⟩
        have := h H8 (s07.trans s8)
        rw [show decB (i + 1 = i + 1 ∧ ∀ j, j < i + 1 → ∀ c, c < n → needA n p E PS (openP M SN) q j c → q j c) = decB (∀ j, j < i + 1 → ∀ c, c < n → needA n p E PS (openP M SN) q j c → q j c) from Bool.eq_iff_iff.mpr (by rw [decB_true, decB_true]; exact ⟨fun z => z.2, fun z => ⟨rfl, z⟩⟩)] at this
        exact this
/-- what each lot needs, by the one behind, from beat i on -/
def needB (n : Nat) (E : List (Nat × Nat)) (PS : List (Addr × List Nat)) (O q : Nat → Nat → Prop) (i k b : Nat) : Prop := if k < PS.length - i then (∃ c, c < n ∧ q (k + 1) c ∧ stepR E PS (i + k) b c) ∧ O (i + k) b else O PS.length b
theorem needB_step {n : Nat} {E : List (Nat × Nat)} {PS : List (Addr × List Nat)} {O q : Nat → Nat → Prop} {i k : Nat} (hk : k < PS.length - i) {e : Addr × List Nat} (he : PS[i + k]? = some e) : lotP n (fun b => beforeP n E e.2 (q (k + 1)) b ∧ O (i + k) b) = lotP n (needB n E PS O q i k) := lotP_congr fun b hb => by
  unfold needB
  rw [if_pos hk]
  constructor
  · rintro ⟨⟨a, an, qa, nr⟩, o⟩
    exact ⟨⟨a, an, qa, e, he, nr⟩, o⟩
  · rintro ⟨⟨a, an, qa, e', he', nr⟩, o⟩
    rw [he] at he'
    cases he'
    exact ⟨⟨a, an, qa, nr⟩, o⟩
def spShutB (K : PySem.W.Frag) : Sp := fun vs H Q _ => ∃ (c x s l : Addr) (n i m : Nat) (E : List (Nat × Nat)) (M : Nat → Nat → Nat) (p : Nat → Prop) (PS : List (Addr × List Nat)) (SN : List (Addr × V × Triple)) (q : Nat → Nat → Prop), vs = [.ref x, .ref s, vI i, .ref l] ∧ BoardAt K c H x n E ∧ Spans n E M ∧ StoryAt n H s p PS SN ∧ i ≤ PS.length ∧ LotsAt n H l m q ∧ m ≤ 100 ∧
  ∀ H', Same H H' → Q (.bl (decB (m = PS.length - i + 1 ∧ ∀ j, j < PS.length - i + 1 → ∀ c, c < n → needB n E PS (openP M SN) q i j c → q j c))) H'
theorem sc_shut_behind : FnScope ["board", "story", "beat", "lots", "fitting", "needed", "pace", "lot", "fit"] ["board", "story", "beat", "lots"] (defScope s_shut_behind) := ⟨rfl, rfl, rfl, by decide +kernel, rfl, by decide +kernel, by decide +kernel⟩
theorem ok_shutB (T : Tx K mg) : Has P w K mg base (He.ga K "shut_behind") 10 ["board", "story", "beat", "lots"] (spShutB K) := by
  obtain ⟨⟨fd_answering, F_answering, b_answering⟩, kp_answering⟩ := ok_answering (P := P) (w := w) (base := base) T
  obtain ⟨⟨fd_meet, F_meet, b_meet⟩, kp_meet⟩ := ok_meet (P := P) (w := w) (base := base) T
  obtain ⟨⟨fd_before, F_before, b_before⟩, kp_before⟩ := ok_before (P := P) (w := w) (base := base) T
  obtain ⟨⟨fd_last_beat, F_last_beat, b_last_beat⟩, kp_last_beat⟩ := ok_last (P := P) (w := w) (base := base) T
  obtain ⟨⟨fd_all_have, F_all_have, b_all_have⟩, kp_all_have⟩ := ok_all_have (P := P) (w := w) (base := base) T
  obtain ⟨fd, F⟩ := T.d_shut_behind
  refine ⟨⟨fd, F.ok sc_shut_behind (fun vs H Q E h => ?_) (fun cdv A outer s H vs Q E hr h => ?_), F.bindsN fun _ _ _ _ _ _ us hl => match us, hl with | [_, _, _, _], _ => rfl⟩, F.kp⟩
  · obtain ⟨c, x, s, l, n, i, m, E, M, p, PS, SN, q, rfl, _⟩ := h
    rfl
  · obtain ⟨c, x, sa, l, n, i, m, E, M, p, PS, SN, q, rfl, B, S, SA, hi, LQ, m100, h⟩ := h
    have hr_answering : Room 9 _ := hr.mono (by decide)
    have hr_meet : Room 1 _ := hr.mono (by decide)
    have hr_before : Room 5 _ := hr.mono (by decide)
    have hr_last_beat : Room 1 _ := hr.mono (by decide)
    have hr_all_have : Room 1 _ := hr.mono (by decide)
    refine ⟨_, PSs.nox (pss_cons (ps_if (pt_cmpR op_ne (pe_callB (lenK (K := K)) (by rfl) T.free_len (by decide +kernel) (pa_cons (pv 3) pa_nil)) (pe_op op_add (pe_op op_sub (pe_call F_last_beat hr_last_beat rfl T.glo_last_beat kp_last_beat b_last_beat .nil pass0 (pa_cons (pv 1) pa_nil)) (pv 2)) pe_int) (nomark _)) (pss_one (ps_ret pe_bl)) pss_nil)
      (pss_cons (ps_set (i := 4) sc_shut_behind.nd rfl (Or.inl rfl) (pe_call F_answering hr_answering rfl T.glo_answering kp_answering b_answering .nil pass0 (pa_cons (pv 0) (pa_cons (pv 1) pa_nil))))
      (pss_cons (ps_set (i := 5) sc_shut_behind.nd rfl (Or.inl rfl) (pe_lst pa_nil))
      (pss_cons (ps_for PassesOwn.never rfl (pi_z3 true false false (K := K) (by rfl) T.free_zip (pa_cons (pe_slice slTS (pe_ix (ixT (K := K)) (pv 1) pe_int (fun _ _ => rfl)) (po_some (pv 2)) po_none) (pa_cons (pe_slice (slL (K := K)) (pv 3) (po_some pe_int) po_none) (pa_cons (pe_slice (slL (K := K)) (pv 4) (po_some (pv 2)) po_none) pa_nil)))) (pgT (K := K) (n := 3) rfl (pgs_cons (pg_name (i := 6) sc_shut_behind.nd rfl (Or.inl rfl)) (pgs_cons (pg_name (i := 7) sc_shut_behind.nd rfl (Or.inl rfl)) (pgs_cons (pg_name (i := 8) sc_shut_behind.nd rfl (Or.inl rfl)) pgs_nil)))) (pss_one (ps_expr (bmK (K := K) PySem.F.plainAttrs_list PySem.F.slot_list_append PySem.F.type_list_append mt_append (pv 5) (pa_cons (pe_call F_meet hr_meet rfl T.glo_meet kp_meet b_meet .nil pass0 (pa_cons (pe_call F_before hr_before rfl T.glo_before kp_before b_before .nil pass0 (pa_cons (pv 0) (pa_cons (pv 6) (pa_cons (pv 7) pa_nil)))) (pa_cons (pv 8) pa_nil))) pa_nil)))))
      (pss_cons (ps_expr (bmK (K := K) PySem.F.plainAttrs_list PySem.F.slot_list_append PySem.F.type_list_append mt_append (pv 5) (pa_cons (pe_ix (ixL (K := K)) (pv 4) (pe_un un_neg pe_int) (fun _ _ => rfl)) pa_nil)))
      (pss_one (ps_ret (pe_call F_all_have hr_all_have rfl T.glo_all_have kp_all_have b_all_have .nil pass0 (pa_cons (pv 3) (pa_cons (pv 5) pa_nil)))))))))), ?_⟩
    have n8 := B.hi
    have lp := SA.lp
    obtain ⟨tl, tp, ts, hs, htl, htp, hts⟩ := SA.ex
    obtain ⟨us, hus, lus, rus⟩ := LQ.ex
    refine ⟨_, rfl, l, _, rfl, .inl (SqL.of hus), _, rfl, sa, n, p, PS, SN, rfl, SA, _, rfl, _, _, rfl, rfl, _, _, rfl, rfl, rfl, _, rfl, ?_⟩
    rw [List.length_map, lus]
    by_cases hm : m = PS.length - i + 1
    case neg =>
      have e : (!decide (V.int ((m : Nat) : Int) = V.int (((PS.length : Nat) : Int) - ((i : Nat) : Int) + 1))) = true := by
        rw [decide_eq_false (fun z => hm (by have := V.int.inj z; omega))]
        rfl
      rw [e]
      refine iteT ?_
      have := h H fun _ _ e => e
      rw [show decB (m = PS.length - i + 1 ∧ ∀ j, j < PS.length - i + 1 → ∀ c, c < n → needB n E PS (openP M SN) q i j c → q j c) = false from Bool.eq_false_iff.mpr fun z => hm (decB_true.mp z).1] at this
      exact this
    case pos =>
      have e : (!decide (V.int ((m : Nat) : Int) = V.int (((PS.length : Nat) : Int) - ((i : Nat) : Int) + 1))) = false := by
        rw [decide_eq_true (by congr 1; omega)]
        rfl
      rw [e]
      refine iteF ?_
      refine ⟨_, rfl, _, rfl, c, x, sa, n, E, M, p, PS, SN, rfl, B, S, SA, fun H2 lf LF _ s2 => ?_⟩
      obtain ⟨fs, hfs, lfs, rfs⟩ := LF.ex
      refine ⟨Nat.zero_le _, fun g hg => ?_⟩
      have s3 := same_upd (o := HO.lst []) hg
      have hg3 : (L2.upd H2 g (.lst [])) g = some (.lst (([] : List Addr).map V.ref)) := upd_same
      generalize L2.upd H2 g (.lst []) = H3 at s3 hg3
      have s03 := s2.trans s3
      refine ⟨_, rfl, sa, _, 1, _, rfl, rfl, SqT.of (s03 _ _ hs), rfl, _, rfl, _, rfl, tp, _, rfl, s03 _ _ htp, fun tq H4 htq s4 => ?_⟩
      have htq : H4 tq = some (.tup ((PS.drop i).map fun q => V.ref q.1)) := by rw [htq, show cutV (PS.map fun q => V.ref q.1) (some ((i : Nat) : Int)) none = (PS.map fun q => V.ref q.1).drop i from cut_from i, List.map_drop]
      have hg4 := s4 _ _ hg3
      have s24 := s3.trans s4
      refine ⟨_, rfl, 1, rfl, l, _, rfl, SqL.of (s2.trans s24 _ _ hus), fun l1 hl1 => ?_⟩
      have s5 := same_upd (o := HO.lst (cutV (us.map V.ref) (some 1) none)) hl1
      have h15 : (L2.upd H4 l1 (.lst (cutV (us.map V.ref) (some 1) none))) l1 = some (.lst ((us.drop 1).map V.ref)) := by rw [upd_same, show cutV (us.map V.ref) (some 1) none = (us.map V.ref).drop 1 from cut_from 1, List.map_drop]
      have hg5 := s5 _ _ hg4
      have htq5 := s5 _ _ htq
      have s25 := s24.trans s5
      have n1g : g ≠ l1 := ne_of_none hg4 hl1
      generalize L2.upd H4 l1 (.lst (cutV (us.map V.ref) (some 1) none)) = H5 at s5 h15 hg5 htq5 s25
      refine ⟨_, rfl, _, rfl, _, rfl, lf, _, rfl, SqL.of (s25 _ _ hfs), fun l2 hl2 => ?_⟩
      have s6 := same_upd (o := HO.lst (cutV (fs.map V.ref) (some ((i : Nat) : Int)) none)) hl2
      have h26 : (L2.upd H5 l2 (.lst (cutV (fs.map V.ref) (some ((i : Nat) : Int)) none))) l2 = some (.lst ((fs.drop i).map V.ref)) := by rw [upd_same, show cutV (fs.map V.ref) (some ((i : Nat) : Int)) none = (fs.map V.ref).drop i from cut_from i, List.map_drop]
      have h16 := s6 _ _ h15
      have hg6 := s6 _ _ hg5
      have htq6 := s6 _ _ htq5
      have n2g : g ≠ l2 := ne_of_none hg5 hl2
      have s26 := s25.trans s6
      generalize L2.upd H5 l2 (.lst (cutV (fs.map V.ref) (some ((i : Nat) : Int)) none)) = H6 at s6 h26 h16 hg6 htq6 s26
      have s06 := s2.trans s26
      refine ⟨tq, l1, l2, _, _, _, rfl, SqT.of htq6, SqL.of h16, SqL.of h26, ?_⟩
      refine for_it (walk_z3 (u1 := true) (u2 := false) (u3 := false) (K := K) (a := tq) (b := l1) (c := l2) (xs := (PS.drop i).map fun q => V.ref q.1) (ys := (us.drop 1).map V.ref) (zs := (fs.drop i).map V.ref) (n := PS.length - i) (by simp [lus, lfs]; omega)) (fun j σ H7 => ∃ (v6 v7 v8 : Option V) (vs : List Addr), σ = [some (.ref x), some (.ref sa), some (vI i), some (.ref l), some (.ref lf), some (.ref g), v6, v7, v8] ∧ H7 g = some (.lst (vs.map V.ref)) ∧ vs.length = j ∧ (∀ (k : Nat) (u : Addr), vs[k]? = some u → H7 u = some (.tup ((lotP n (needB n E PS (openP M SN) q i k)).map vI))) ∧ Same H2 H7 ∧ H7 tq = some (.tup ((PS.drop i).map fun q => V.ref q.1)) ∧ H7 l1 = some (.lst ((us.drop 1).map V.ref)) ∧ H7 l2 = some (.lst ((fs.drop i).map V.ref)))
        ⟨none, none, none, [], rfl, hg6, rfl, fun k u e => (by simp at e), s26, htq6, h16, h26⟩ (fun j σ H7 _ ⟨_, _, _, _, _, _, _, _, _, hq7, h17, h27⟩ => ⟨SqT.of hq7, SqL.of h17, SqL.of h27⟩) ?_ ?_
      · rintro j y σ H7 H8 hj ⟨v6, v7, v8, vs, rfl, hg7, lv, rv, s7, hq7, h17, h27⟩ ⟨T1, y1, y2, y3, rfl, hT, rfl, e1, e2, e3⟩
        obtain ⟨qq, hq, rfl⟩ := get_mapV (show ((PS.drop i).map fun q => V.ref q.1)[j]? = some y1 from e1)
        obtain ⟨u, hu, rfl⟩ := get_mapV (show ((us.drop 1).map V.ref)[j]? = some y2 from e2)
        obtain ⟨f1, hf1, rfl⟩ := get_mapV (show ((fs.drop i).map V.ref)[j]? = some y3 from e3)
        rw [List.getElem?_drop] at hq hf1
        rw [List.getElem?_drop, Nat.add_comm] at hu
        have s8 : Same H7 (L2.upd H7 T1 (.tup [.ref qq.1, .ref u, .ref f1])) := same_upd hT
        have hT8 : (L2.upd H7 T1 (.tup [.ref qq.1, .ref u, .ref f1])) T1 = some (.tup [.ref qq.1, .ref u, .ref f1]) := upd_same
        generalize L2.upd H7 T1 (.tup [.ref qq.1, .ref u, .ref f1]) = H8 at s8 hT8
        have s28 := s7.trans s8
        have s08 := s2.trans s28
        have hg8 := s8 _ _ hg7
        have PQ := SA.pc qq (List.mem_of_getElem? hq)
        refine ⟨T1, _, rfl, SqT.of hT8, rfl, _, _, rfl, _, _, rfl, _, _, rfl, rfl, ?_⟩
        refine ⟨_, rfl, .inl ⟨rfl, _, SqL.of hg8⟩, _, rfl, _, rfl, _, rfl, c, x, qq.1, u, n, E, qq.2, q (j + 1), rfl, B.same s08, s08 _ _ PQ.1, PQ.2, s08 _ _ (rus (j + 1) u hu), fun H9 t9 ht9 s9 => ?_⟩
        refine ⟨_, rfl, t9, f1, n, _, openP M SN (i + j), rfl, n8, ht9, s9 _ _ (s28 _ _ (rfs (i + j) f1 hf1)), fun H10 t10 ht10 s10 => ?_⟩
        have s810 := s9.trans s10
        have hg10 := s810 _ _ hg8
        have hq10 := s810 _ _ (s8 _ _ hq7)
        refine ⟨g, _, _, rfl, rfl, hg10, ?_, ?_⟩
        · rw [List.length_map]
          exact Nat.lt_of_le_of_lt (show vs.length ≤ 13 by omega) (by decide)
        refine ⟨_, _, _, vs ++ [t10], rfl, ?_, by simp [lv], fun k u e => ?_, same_mut (s28.trans s810) hg, ?_, ?_, ?_⟩
        · rw [upd_same, List.map_append]
          rfl
        · by_cases hk : k < vs.length
          · rw [List.getElem?_append_left hk] at e
            have gg := s810 _ _ (s8 _ _ (rv k u e))
            rw [upd_ne (ne_of gg hg10 (by intro z; cases z))]
            exact gg
          · rw [List.getElem?_append_right (by omega)] at e
            have ek : k = vs.length := by
              obtain ⟨h1, _⟩ := List.getElem?_eq_some_iff.mp e
              have h1 : k - vs.length < 1 := h1
              omega
            rw [ek, Nat.sub_self] at e
            cases e
            rw [upd_ne (ne_of ht10 hg10 (by intro z; cases z)), ek, lv, ← needB_step hj hq]
            exact ht10
        · rw [upd_ne (ne_of hq10 hg10 (by intro z; cases z))]
          exact hq10
        · rw [upd_ne n1g.symm]
          exact s810 _ _ (s8 _ _ h17)
        · rw [upd_ne n2g.symm]
          exact s810 _ _ (s8 _ _ h27)
      · rintro σ H7 ⟨v6, v7, v8, vs, rfl, hg7, lv, rv, s7, hq7, h17, h27⟩
        have s07 := s2.trans s7
        have hfl : fs[PS.length]? = some (fs[PS.length]'(by omega)) := List.getElem?_eq_getElem _
        generalize fs[PS.length]'(by omega) = fl at hfl
        have efs : fs.map V.ref = (fs.take PS.length).map V.ref ++ [V.ref fl] := by
          have : fs = fs.take PS.length ++ [fl] := by
            have e := List.take_append_drop PS.length fs
            rw [List.drop_eq_getElem_cons (by omega), List.drop_of_length_le (by omega)] at e
            have e2 : fs[PS.length]'(by omega) = fl := by
              have := hfl
              rw [List.getElem?_eq_getElem (by omega)] at this
              exact Option.some.inj this
            rw [e2] at e
            exact e.symm
          conv => lhs; rw [this]
          rw [List.map_append]
          rfl
        refine ⟨_, rfl, .inl ⟨rfl, _, SqL.of hg7⟩, _, rfl, 1, rfl, lf, _, _, _, rfl, rfl, SqL.of (s7 _ _ hfs), (by rw [efs]; exact atI_last _ _), ?_⟩
        refine ⟨g, _, _, rfl, rfl, hg7, ?_, ?_⟩
        · rw [List.length_map]
          exact Nat.lt_of_le_of_lt (show vs.length ≤ 13 by omega) (by decide)
        have s8 : Same H2 (L2.upd H7 g (.lst (vs.map V.ref ++ [V.ref fl]))) := same_mut s7 hg
        have LN : LotsAt n (L2.upd H7 g (.lst (vs.map V.ref ++ [V.ref fl]))) g m (needB n E PS (openP M SN) q i) := by
          refine ⟨⟨vs ++ [fl], by rw [upd_same, List.map_append]; rfl, by simp [lv, hm], fun k u e => ?_⟩⟩
          by_cases hk : k < vs.length
          · rw [List.getElem?_append_left hk] at e
            have gg := rv k u e
            rw [upd_ne (ne_of gg hg7 (by intro z; cases z))]
            exact gg
          · rw [List.getElem?_append_right (by omega)] at e
            have ek : k = vs.length := by
              obtain ⟨h1, _⟩ := List.getElem?_eq_some_iff.mp e
              have h1 : k - vs.length < 1 := h1
              omega
            rw [ek, Nat.sub_self] at e
            cases e
            have gg := s7 _ _ (rfs PS.length fl hfl)
            rw [upd_ne (ne_of gg hg7 (by intro z; cases z)), gg, lotP_congr fun b _ => ?_]
            unfold needB
            rw [if_neg (by omega)]
        generalize L2.upd H7 g (.lst (vs.map V.ref ++ [V.ref fl])) = H8 at s8 LN
        have s08 := s2.trans s8
        refine ⟨_, rfl, _, rfl, l, g, n, m, q, needB n E PS (openP M SN) q i, rfl, n8, m100, LQ.same s08, LN, fun H9 s9 => ?_⟩
        have := h H9 (s08.trans s9)
        rw [show decB (m = PS.length - i + 1 ∧ ∀ j, j < PS.length - i + 1 → ∀ c, c < n → needB n E PS (openP M SN) q i j c → q j c) = decB (∀ j, j < m → ∀ c, c < n → needB n E PS (openP M SN) q i j c → q j c) from Bool.eq_iff_iff.mpr (by rw [decB_true, decB_true, hm]; exact ⟨fun z => z.2, fun z => ⟨rfl, z⟩⟩)] at this
        exact this
/-- a row of lots of a paper -/
def RowOk (n : Nat) (p : Nat → Prop) (E : List (Nat × Nat)) (PS : List (Addr × List Nat)) (O q : Nat → Nat → Prop) (i b m : Nat) (aw : Bool) : Prop := match aw with
  | true => (m = i + 1 ∧ ∀ j, j < i + 1 → ∀ c, c < n → needA n p E PS O q j c → q j c) ∧ ¬ q (m - 1) b
  | false => (m = PS.length - i + 1 ∧ ∀ j, j < PS.length - i + 1 → ∀ c, c < n → needB n E PS O q i j c → q j c) ∧ ¬ q 0 b
def spHoldsL (K : PySem.W.Frag) : Sp := fun vs H Q _ => ∃ (c x s t l : Addr) (n i b m : Nat) (E : List (Nat × Nat)) (M : Nat → Nat → Nat) (p : Nat → Prop) (PS : List (Addr × List Nat)) (SN : List (Addr × V × Triple)) (q : Nat → Nat → Prop) (aw : Bool), vs = [.ref x, .ref s, vI i, vI b, .ref t] ∧ BoardAt K c H x n E ∧ Spans n E M ∧ StoryAt n H s p PS SN ∧ (∃ a, a < n ∧ p a) ∧ i ≤ PS.length ∧ b < n ∧ H t = some (.tup [.str (if aw = true then "ahead" else "behind"), .ref l]) ∧ LotsAt n H l m q ∧ 1 ≤ m ∧ m ≤ 100 ∧
  ∀ H', Same H H' → Q (.bl (decB (RowOk n p E PS (openP M SN) q i b m aw))) H'
theorem sc_holds : FnScope ["board", "story", "beat", "place", "paper", "word", "told", "lot"] ["board", "story", "beat", "place", "paper"] (defScope s_holds) := ⟨rfl, rfl, rfl, by decide +kernel, rfl, by decide +kernel, by decide +kernel⟩
theorem okf_holdsL (T : Tx K mg) {fd : FuncData} (F : FnP K "holds" "holds" s_holds [] (He.ga K "holds") fd) : FnOk P w K mg base CX0 11 (He.ga K "holds") fd ["board", "story", "beat", "place", "paper"] (spHoldsL K) := by
  obtain ⟨⟨fd_look_story, F_look_story, b_look_story⟩, kp_look_story⟩ := ok_look_story (P := P) (w := w) (base := base) T
  obtain ⟨⟨fd_check_beat, F_check_beat, b_check_beat⟩, kp_check_beat⟩ := ok_check_beat (P := P) (w := w) (base := base) T
  obtain ⟨⟨fd_check_place, F_check_place, b_check_place⟩, kp_check_place⟩ := ok_check (P := P) (w := w) (base := base) T
  obtain ⟨⟨fd_fits, F_fits, b_fits⟩, kp_fits⟩ := ok_fits (P := P) (w := w) (base := base) T
  obtain ⟨⟨fd_is_lot, F_is_lot, b_is_lot⟩, kp_is_lot⟩ := ok_is_lot (P := P) (w := w) (base := base) T
  obtain ⟨⟨fd_shut_ahead, F_shut_ahead, b_shut_ahead⟩, kp_shut_ahead⟩ := ok_shutA (P := P) (w := w) (base := base) T
  obtain ⟨⟨fd_shut_behind, F_shut_behind, b_shut_behind⟩, kp_shut_behind⟩ := ok_shutB (P := P) (w := w) (base := base) T
  refine F.ok sc_holds (fun vs H Q E h => ?_) (fun cdv A outer s H vs Q E hr h => ?_)
  · obtain ⟨c, x, s, t, l, n, i, b, m, E, M, p, PS, SN, q, aw, rfl, _⟩ := h
    rfl
  · obtain ⟨c, x, sa, t, l, n, i, b, m, E, M, p, PS, SN, q, aw, rfl, B, S, SA, ex, hi, bn, ht, LQ, m1, m100, h⟩ := h
    have hr_look_story : Room 9 _ := hr.mono (by decide)
    have hr_check_beat : Room 3 _ := hr.mono (by decide)
    have hr_check_place : Room 3 _ := hr.mono (by decide)
    have hr_fits : Room 10 _ := hr.mono (by decide)
    have hr_is_lot : Room 3 _ := hr.mono (by decide)
    have hr_shut_ahead : Room 10 _ := hr.mono (by decide)
    have hr_shut_behind : Room 10 _ := hr.mono (by decide)
    refine ⟨_, PSs.nox (pss_cons (ps_expr (pe_call F_look_story hr_look_story rfl T.glo_look_story kp_look_story b_look_story .nil pass0 (pa_cons (pv 0) (pa_cons (pv 1) pa_nil))))
      (pss_cons (ps_expr (pe_call F_check_beat hr_check_beat rfl T.glo_check_beat kp_check_beat b_check_beat .nil pass0 (pa_cons (pv 1) (pa_cons (pv 2) pa_nil))))
      (pss_cons (ps_expr (pe_meth (pv 0) T.cl T.m_check_place F_check_place hr_check_place b_check_place .nil pass0 (pa_cons (pv 3) pa_nil)))
      (pss_cons (ps_asg (pv 4) (pgT (K := K) (n := 2) rfl (pgs_cons (pg_name (i := 5) sc_holds.nd rfl (Or.inl rfl)) (pgs_cons (pg_name (i := 6) sc_holds.nd rfl (Or.inl rfl)) pgs_nil))))
      (pss_cons (ps_if (pt_cmpR op_eq (pv 5) pe_str (nomark _)) (pss_one (ps_ret (pe_and (pe_call F_fits hr_fits rfl T.glo_fits kp_fits b_fits .nil pass0 (pa_cons (pv 0) (pa_cons (pv 1) (pa_cons (pv 6) pa_nil)))) (pe_one (pe_cmpR op_eq (pe_ix (ixT (K := K)) (pv 6) (pv 2) (fun _ _ => rfl)) (pv 3) (nomark _)))))) pss_nil)
      (pss_cons (ps_if (pt_not (pt_val (pe_callB (allK (K := K)) (by rfl) T.free_all (by decide +kernel) (pa_cons (pe_lc (own := [("lot", 7)]) (g := (gName 7)) (tt := tYes) rfl sc_holds.nd (piL (K := K) (pv 6)) (blkOk_by (by kernel_rfl)) (fun _ _ _ _ _ => (pg_name (i := 7) sc_holds.nd rfl (Or.inl rfl))) (fun _ _ _ _ _ => pts_nil) (fun _ _ _ _ _ => (pe_call F_is_lot hr_is_lot rfl T.glo_is_lot kp_is_lot b_is_lot .nil pass0 (pa_cons (pv 0) (pa_cons (pv 7) pa_nil))))) pa_nil)))) (pss_one (ps_ret pe_bl)) pss_nil)
      (pss_cons (ps_if (pt_cmpR op_eq (pv 5) pe_str (nomark _)) (pss_one (ps_ret (pe_and (pe_call F_shut_ahead hr_shut_ahead rfl T.glo_shut_ahead kp_shut_ahead b_shut_ahead .nil pass0 (pa_cons (pv 0) (pa_cons (pv 1) (pa_cons (pv 2) (pa_cons (pv 6) pa_nil))))) (pe_one (pe_cmpR (show OpR _ (compareOp .NotIn) (rIn K true) from op_notIn_seq) (pv 3) (pe_ix (ixL (K := K)) (pv 6) (pe_un un_neg pe_int) (fun _ _ => rfl)) (by rfl)))))) pss_nil)
      (pss_cons (ps_if (pt_cmpR op_eq (pv 5) pe_str (nomark _)) (pss_one (ps_ret (pe_and (pe_call F_shut_behind hr_shut_behind rfl T.glo_shut_behind kp_shut_behind b_shut_behind .nil pass0 (pa_cons (pv 0) (pa_cons (pv 1) (pa_cons (pv 2) (pa_cons (pv 6) pa_nil))))) (pe_one (pe_cmpR (show OpR _ (compareOp .NotIn) (rIn K true) from op_notIn_seq) (pv 3) (pe_ix (ixL (K := K)) (pv 6) pe_int (fun _ _ => rfl)) (by rfl)))))) pss_nil)
      (pss_one (ps_ret pe_bl)))))))))), ?_⟩
    obtain ⟨us, hus, lus, rus⟩ := LQ.ex
    have hul : us[m - 1]? = some (us[m - 1]'(by omega)) := List.getElem?_eq_getElem _
    generalize us[m - 1]'(by omega) = ul at hul
    have hu0 : us[0]? = some (us[0]'(by omega)) := List.getElem?_eq_getElem _
    generalize us[0]'(by omega) = u0 at hu0
    refine ⟨_, rfl, _, rfl, c, x, sa, n, E, p, PS, SN, rfl, B, SA, ex, fun H1 s1 => ?_⟩
    refine ⟨_, rfl, _, rfl, sa, n, i, p, PS, SN, rfl, SA.same s1, hi, ?_⟩
    obtain ⟨dx, q1, q2, q3, hx⟩ := (B.same s1).obj
    refine ⟨_, rfl, x, dx, _, rfl, hx, bf_check _ _ _ _, _, rfl, c, x, n, b, E, rfl, B.same s1, bn, ?_⟩
    refine ⟨_, rfl, t, _, rfl, SqT.of (s1 _ _ ht), rfl, _, _, rfl, _, _, rfl, rfl, ?_⟩
    cases aw with
    | true =>
      refine ⟨_, rfl, rfl, _, rfl, iteF ?_⟩
      refine ⟨_, rfl, l, rfl, ⟨_, SqL.of (s1 _ _ hus)⟩, fun D hD => ?_⟩
      refine lc_val (walk_list (K := K) (a := l) (xs := us.map V.ref)) (fun _ => .bl true) (by rw [List.length_map]; omega) hD (fun H2 s2 => SqL.of (s2 _ _ (s1 _ _ hus))) ?_ ?_
      · rintro k y H2 H3 Nx hk s2 ⟨rfl, hy⟩ kk
        obtain ⟨u, hu, rfl⟩ := get_mapV hy
        have s12 := s1.trans s2
        exact ⟨rfl, _, rfl, _, rfl, c, x, u, n, E, _, rfl, B.same s12, s12 _ _ (rus k u hu), kk⟩
      intro H2 h2 s2
      refine ⟨D, (List.range (us.map V.ref).length).map fun _ => true, rfl, SqL.of (by rw [h2, List.map_map]; rfl), _, rfl, ?_⟩
      rw [all_true (by simp)]
      refine iteF ?_
      have s12 := s1.trans s2
      refine ⟨_, rfl, rfl, _, rfl, iteT ?_⟩
      refine ⟨_, rfl, _, rfl, _, rfl, _, rfl, c, x, sa, l, n, i, m, E, M, p, PS, SN, q, rfl, B.same s12, S, SA.same s12, hi, LQ.same s12, m100, fun H3 s3 => ⟨_, rfl, ?_⟩⟩
      have s13 := s12.trans s3
      cases e : decB (m = i + 1 ∧ ∀ j, j < i + 1 → ∀ c, c < n → needA n p E PS (openP M SN) q j c → q j c) with
      | false =>
        refine iteF ?_
        have := h H3 s13
        rw [show decB (RowOk n p E PS (openP M SN) q i b m true) = false from Bool.eq_false_iff.mpr fun z => by rw [decB_true.mpr (decB_true.mp z).1] at e; cases e] at this
        exact this
      | true =>
        refine iteT ?_
        have eus : us.map V.ref = (us.take (m - 1)).map V.ref ++ [V.ref ul] := by
          have : us = us.take (m - 1) ++ [ul] := by
            have e := List.take_append_drop (m - 1) us
            rw [List.drop_eq_getElem_cons (by omega), List.drop_of_length_le (by omega)] at e
            have e2 : us[m - 1]'(by omega) = ul := by
              have := hul
              rw [List.getElem?_eq_getElem (by omega)] at this
              exact Option.some.inj this
            rw [e2] at e
            exact e.symm
          conv => lhs; rw [this]
          rw [List.map_append]
          rfl
        refine ⟨_, rfl, _, rfl, 1, rfl, l, _, _, _, rfl, rfl, SqL.of (s13 _ _ hus), (by rw [eus]; exact atI_last _ _), ul, _, rfl, .inr (SqT.of (s13 _ _ (rus _ ul hul))), rfl, flat_vI _, ?_⟩
        have := h H3 s13
        rw [show decB (RowOk n p E PS (openP M SN) q i b m true) = !inV (vI b) ((lotP n (q (m - 1))).map vI) from Bool.eq_iff_iff.mpr (by
          rw [in_lot, decB_true, Bool.not_eq_true', decide_eq_false_iff_not, mem_lotP]
          exact ⟨fun z w => z.2 w.2, fun z => ⟨decB_true.mp e, fun w => z ⟨bn, w⟩⟩⟩)] at this
        exact this
    | false =>
      refine ⟨_, rfl, rfl, _, rfl, iteF ?_⟩
      refine ⟨_, rfl, l, rfl, ⟨_, SqL.of (s1 _ _ hus)⟩, fun D hD => ?_⟩
      refine lc_val (walk_list (K := K) (a := l) (xs := us.map V.ref)) (fun _ => .bl true) (by rw [List.length_map]; omega) hD (fun H2 s2 => SqL.of (s2 _ _ (s1 _ _ hus))) ?_ ?_
      · rintro k y H2 H3 Nx hk s2 ⟨rfl, hy⟩ kk
        obtain ⟨u, hu, rfl⟩ := get_mapV hy
        have s12 := s1.trans s2
        exact ⟨rfl, _, rfl, _, rfl, c, x, u, n, E, _, rfl, B.same s12, s12 _ _ (rus k u hu), kk⟩
      intro H2 h2 s2
      refine ⟨D, (List.range (us.map V.ref).length).map fun _ => true, rfl, SqL.of (by rw [h2, List.map_map]; rfl), _, rfl, ?_⟩
      rw [all_true (by simp)]
      refine iteF ?_
      have s12 := s1.trans s2
      refine ⟨_, rfl, rfl, _, rfl, iteF ?_⟩
      refine ⟨_, rfl, rfl, _, rfl, iteT ?_⟩
      refine ⟨_, rfl, _, rfl, _, rfl, _, rfl, c, x, sa, l, n, i, m, E, M, p, PS, SN, q, rfl, B.same s12, S, SA.same s12, hi, LQ.same s12, m100, fun H3 s3 => ⟨_, rfl, ?_⟩⟩
      have s13 := s12.trans s3
      cases e : decB (m = PS.length - i + 1 ∧ ∀ j, j < PS.length - i + 1 → ∀ c, c < n → needB n E PS (openP M SN) q i j c → q j c) with
      | false =>
        refine iteF ?_
        have := h H3 s13
        rw [show decB (RowOk n p E PS (openP M SN) q i b m false) = false from Bool.eq_false_iff.mpr fun z => by rw [decB_true.mpr (decB_true.mp z).1] at e; cases e] at this
        exact this
      | true =>
        refine iteT ?_
        refine ⟨_, rfl, _, rfl, l, _, 0, _, rfl, rfl, SqL.of (s13 _ _ hus), atI_nat (j := 0) (get_map hu0), u0, _, rfl, .inr (SqT.of (s13 _ _ (rus _ u0 hu0))), rfl, flat_vI _, ?_⟩
        have := h H3 s13
        rw [show decB (RowOk n p E PS (openP M SN) q i b m false) = !inV (vI b) ((lotP n (q 0)).map vI) from Bool.eq_iff_iff.mpr (by
          rw [in_lot, decB_true, Bool.not_eq_true', decide_eq_false_iff_not, mem_lotP]
          exact ⟨fun z w => z.2 w.2, fun z => ⟨decB_true.mp e, fun w => z ⟨bn, w⟩⟩⟩)] at this
        exact this
theorem ok_holdsL (T : Tx K mg) : Has P w K mg base (He.ga K "holds") 11 ["board", "story", "beat", "place", "paper"] (spHoldsL K) := by
  obtain ⟨fd, F⟩ := T.d_holds
  exact ⟨⟨fd, okf_holdsL T F, F.bindsN fun _ _ _ _ _ _ us hl => match us, hl with | [_, _, _, _, _], _ => rfl⟩, F.kp⟩
end
end RL
/-! A paper that shows a walk, of any numbers, holds or not. -/
namespace RL
open PySem PySem.Spec PyProof.Rows L2 RLM
section
variable {P : Program} {w : World} {K : PySem.W.Frag} {mg : Str → Option Value} {base : Heap}
/-- a walk of a paper: it fits, and is at the place -/
def WalkOk (n : Nat) (p : Nat → Prop) (E : List (Nat × Nat)) (PS : List (Addr × List Nat)) (O : Nat → Nat → Prop) (i b : Nat) (zs : List Int) : Prop := FitZ n PS.length p (stepR E PS) O zs ∧ zs[i]? = some ((b : Nat) : Int)
theorem walk_not {n i b : Nat} {p : Nat → Prop} {E : List (Nat × Nat)} {PS : List (Addr × List Nat)} {O : Nat → Nat → Prop} {zs : List Int} (k : ¬ FitZ n PS.length p (stepR E PS) O zs) : decB (WalkOk n p E PS O i b zs) = false := Bool.eq_false_iff.mpr fun z => k (decB_true.mp z).1
theorem walk_is {n i b w : Nat} {p : Nat → Prop} {E : List (Nat × Nat)} {PS : List (Addr × List Nat)} {O : Nat → Nat → Prop} {zs : List Int} (k : FitZ n PS.length p (stepR E PS) O zs) (e : zs[i]? = some (nI w)) : decB (WalkOk n p E PS O i b zs) = decide (vI w = vI b) := Bool.eq_iff_iff.mpr (decB_true.trans (by
  rw [decide_eq_true_iff]
  constructor
  · rintro ⟨_, h⟩
    rw [e] at h
    have : nI w = ((b : Nat) : Int) := Option.some.inj h
    show V.int (nI w) = V.int ((b : Nat) : Int)
    rw [this]
  · intro h
    refine ⟨k, ?_⟩
    rw [e]
    exact congrArg some (V.int.inj h)))
def spHoldsZ (K : PySem.W.Frag) : Sp := fun vs H Q _ => ∃ (c x s t tw : Addr) (n i b : Nat) (E : List (Nat × Nat)) (M : Nat → Nat → Nat) (p : Nat → Prop) (PS : List (Addr × List Nat)) (SN : List (Addr × V × Triple)) (zs : List Int), vs = [.ref x, .ref s, vI i, vI b, .ref t] ∧ BoardAt K c H x n E ∧ Spans n E M ∧ StoryAt n H s p PS SN ∧ (∃ a, a < n ∧ p a) ∧ i ≤ PS.length ∧ b < n ∧ H t = some (.tup [.str "walk", .ref tw]) ∧ H tw = some (.tup (zs.map V.int)) ∧
  ∀ H', Same H H' → Q (.bl (decB (WalkOk n p E PS (openP M SN) i b zs))) H'
theorem okf_holdsZ (T : Tx K mg) {fd : FuncData} (F : FnP K "holds" "holds" s_holds [] (He.ga K "holds") fd) : FnOk P w K mg base CX0 11 (He.ga K "holds") fd ["board", "story", "beat", "place", "paper"] (spHoldsZ K) := by
  obtain ⟨⟨fd_look_story, F_look_story, b_look_story⟩, kp_look_story⟩ := ok_look_story (P := P) (w := w) (base := base) T
  obtain ⟨⟨fd_check_beat, F_check_beat, b_check_beat⟩, kp_check_beat⟩ := ok_check_beat (P := P) (w := w) (base := base) T
  obtain ⟨⟨fd_check_place, F_check_place, b_check_place⟩, kp_check_place⟩ := ok_check (P := P) (w := w) (base := base) T
  obtain ⟨⟨fd_fits, F_fits, b_fits⟩, kp_fits⟩ := ok_fits (P := P) (w := w) (base := base) T
  obtain ⟨⟨fd_is_lot, F_is_lot, b_is_lot⟩, kp_is_lot⟩ := ok_is_lot (P := P) (w := w) (base := base) T
  obtain ⟨⟨fd_shut_ahead, F_shut_ahead, b_shut_ahead⟩, kp_shut_ahead⟩ := ok_shutA (P := P) (w := w) (base := base) T
  obtain ⟨⟨fd_shut_behind, F_shut_behind, b_shut_behind⟩, kp_shut_behind⟩ := ok_shutB (P := P) (w := w) (base := base) T
  refine F.ok sc_holds (fun vs H Q E h => ?_) (fun cdv A outer s H vs Q E hr h => ?_)
  · obtain ⟨c, x, s, t, tw, n, i, b, E, M, p, PS, SN, zs, rfl, _⟩ := h
    rfl
  · obtain ⟨c, x, sa, t, tw, n, i, b, E, M, p, PS, SN, zs, rfl, B, S, SA, ex, hi, bn, ht, htw, h⟩ := h
    have hr_look_story : Room 9 _ := hr.mono (by decide)
    have hr_check_beat : Room 3 _ := hr.mono (by decide)
    have hr_check_place : Room 3 _ := hr.mono (by decide)
    have hr_fits : Room 10 _ := hr.mono (by decide)
    have hr_is_lot : Room 3 _ := hr.mono (by decide)
    have hr_shut_ahead : Room 10 _ := hr.mono (by decide)
    have hr_shut_behind : Room 10 _ := hr.mono (by decide)
    refine ⟨_, PSs.nox (pss_cons (ps_expr (pe_call F_look_story hr_look_story rfl T.glo_look_story kp_look_story b_look_story .nil pass0 (pa_cons (pv 0) (pa_cons (pv 1) pa_nil))))
      (pss_cons (ps_expr (pe_call F_check_beat hr_check_beat rfl T.glo_check_beat kp_check_beat b_check_beat .nil pass0 (pa_cons (pv 1) (pa_cons (pv 2) pa_nil))))
      (pss_cons (ps_expr (pe_meth (pv 0) T.cl T.m_check_place F_check_place hr_check_place b_check_place .nil pass0 (pa_cons (pv 3) pa_nil)))
      (pss_cons (ps_asg (pv 4) (pgT (K := K) (n := 2) rfl (pgs_cons (pg_name (i := 5) sc_holds.nd rfl (Or.inl rfl)) (pgs_cons (pg_name (i := 6) sc_holds.nd rfl (Or.inl rfl)) pgs_nil))))
      (pss_cons (ps_if (pt_cmpR op_eq (pv 5) pe_str (nomark _)) (pss_one (ps_ret (pe_and (pe_call F_fits hr_fits rfl T.glo_fits kp_fits b_fits .nil pass0 (pa_cons (pv 0) (pa_cons (pv 1) (pa_cons (pv 6) pa_nil)))) (pe_one (pe_cmpR op_eq (pe_ix (ixT (K := K)) (pv 6) (pv 2) (fun _ _ => rfl)) (pv 3) (nomark _)))))) pss_nil)
      (pss_cons (ps_if (pt_not (pt_val (pe_callB (allK (K := K)) (by rfl) T.free_all (by decide +kernel) (pa_cons (pe_lc (own := [("lot", 7)]) (g := (gName 7)) (tt := tYes) rfl sc_holds.nd (piL (K := K) (pv 6)) (blkOk_by (by kernel_rfl)) (fun _ _ _ _ _ => (pg_name (i := 7) sc_holds.nd rfl (Or.inl rfl))) (fun _ _ _ _ _ => pts_nil) (fun _ _ _ _ _ => (pe_call F_is_lot hr_is_lot rfl T.glo_is_lot kp_is_lot b_is_lot .nil pass0 (pa_cons (pv 0) (pa_cons (pv 7) pa_nil))))) pa_nil)))) (pss_one (ps_ret pe_bl)) pss_nil)
      (pss_cons (ps_if (pt_cmpR op_eq (pv 5) pe_str (nomark _)) (pss_one (ps_ret (pe_and (pe_call F_shut_ahead hr_shut_ahead rfl T.glo_shut_ahead kp_shut_ahead b_shut_ahead .nil pass0 (pa_cons (pv 0) (pa_cons (pv 1) (pa_cons (pv 2) (pa_cons (pv 6) pa_nil))))) (pe_one (pe_cmpR (show OpR _ (compareOp .NotIn) (rIn K true) from op_notIn_seq) (pv 3) (pe_ix (ixL (K := K)) (pv 6) (pe_un un_neg pe_int) (fun _ _ => rfl)) (by rfl)))))) pss_nil)
      (pss_cons (ps_if (pt_cmpR op_eq (pv 5) pe_str (nomark _)) (pss_one (ps_ret (pe_and (pe_call F_shut_behind hr_shut_behind rfl T.glo_shut_behind kp_shut_behind b_shut_behind .nil pass0 (pa_cons (pv 0) (pa_cons (pv 1) (pa_cons (pv 2) (pa_cons (pv 6) pa_nil))))) (pe_one (pe_cmpR (show OpR _ (compareOp .NotIn) (rIn K true) from op_notIn_seq) (pv 3) (pe_ix (ixL (K := K)) (pv 6) pe_int (fun _ _ => rfl)) (by rfl)))))) pss_nil)
      (pss_one (ps_ret pe_bl)))))))))), ?_⟩
    refine ⟨_, rfl, _, rfl, c, x, sa, n, E, p, PS, SN, rfl, B, SA, ex, fun H1 s1 => ?_⟩
    refine ⟨_, rfl, _, rfl, sa, n, i, p, PS, SN, rfl, SA.same s1, hi, ?_⟩
    obtain ⟨dx, q1, q2, q3, hx⟩ := (B.same s1).obj
    refine ⟨_, rfl, x, dx, _, rfl, hx, bf_check _ _ _ _, _, rfl, c, x, n, b, E, rfl, B.same s1, bn, ?_⟩
    refine ⟨_, rfl, t, _, rfl, SqT.of (s1 _ _ ht), rfl, _, _, rfl, _, _, rfl, rfl, ?_⟩
    refine ⟨_, rfl, rfl, _, rfl, iteT ?_⟩
    refine ⟨_, rfl, _, rfl, _, rfl, c, x, sa, tw, n, E, M, p, PS, SN, zs, rfl, B.same s1, S, SA.same s1, ex, s1 _ _ htw, fun H2 s2 => ?_⟩
    have s12 := s1.trans s2
    by_cases fz : FitZ n PS.length p (stepR E PS) (openP M SN) zs
    · rw [decB_true.mpr fz]
      refine ⟨_, rfl, iteT ?_⟩
      obtain ⟨ws, rfl, fw⟩ := id fz
      have lw := fw.len
      have ew : ws[i]? = some (ws[i]'(by omega)) := List.getElem?_eq_getElem _
      generalize ws[i]'(by omega) = w0 at ew
      have ez : (ws.map nI)[i]? = some (nI w0) := get_map ew
      refine ⟨_, rfl, _, rfl, tw, _, _, _, rfl, rfl, SqT.of (s12 _ _ htw), atI_nat (get_map ez), _, rfl, rfl, ?_⟩
      have := h H2 s12
      rw [walk_is fz ez] at this
      exact this
    · rw [show decB (FitZ n PS.length p (stepR E PS) (openP M SN) zs) = false from Bool.eq_false_iff.mpr fun z => fz (decB_true.mp z)]
      have := h H2 s12
      rw [walk_not fz] at this
      exact ⟨_, rfl, iteF this⟩
theorem ok_holdsZ (T : Tx K mg) : Has P w K mg base (He.ga K "holds") 11 ["board", "story", "beat", "place", "paper"] (spHoldsZ K) := by
  obtain ⟨fd, F⟩ := T.d_holds
  exact ⟨⟨fd, okf_holdsZ T F, F.bindsN fun _ _ _ _ _ _ us hl => match us, hl with | [_, _, _, _, _], _ => rfl⟩, F.kp⟩
/-- a paper holds or not, of lots or of a walk -/
def spHoldsU (K : PySem.W.Frag) : Sp := fun vs H Q E => spHoldsL K vs H Q E ∨ spHoldsZ K vs H Q E
theorem ok_holdsU (T : Tx K mg) : Has P w K mg base (He.ga K "holds") 11 ["board", "story", "beat", "place", "paper"] (spHoldsU K) := by
  obtain ⟨fd, F⟩ := T.d_holds
  have A := okf_holdsL (P := P) (w := w) (base := base) T F
  have B := okf_holdsZ (P := P) (w := w) (base := base) T F
  exact ⟨⟨fd, ⟨fun vs H Q E h => h.elim (A.len vs H Q E) (B.len vs H Q E), fun A0 outer s H args us vs Q E r e b v h => h.elim (A.run A0 outer s H args us vs Q E r e b v) (B.run A0 outer s H args us vs Q E r e b v)⟩, F.bindsN fun _ _ _ _ _ _ us hl => match us, hl with | [_, _, _, _, _], _ => rfl⟩, F.kp⟩
end
end RL
/-! A paper is right, by the law. -/
namespace RL
open PySem PySem.Spec PyProof.Rows L2 RLM
section
variable {P : Program} {w : World} {K : PySem.W.Frag} {mg : Str → Option Value} {base : Heap}
/-- a paper that tells what it should -/
inductive RightAt (n i b : Nat) (p : Nat → Prop) (E : List (Nat × Nat)) (PS : List (Addr × List Nat)) (O : Nat → Nat → Prop) (H : Hp) (t : Addr) : Prop
  | walk (tw : Addr) (ws : List Nat) : H t = some (.tup [.str "walk", .ref tw]) → H tw = some (.tup (ws.map vI)) → Fit n PS.length p (stepR E PS) O ws → ws[i]? = some b → RightAt n i b p E PS O H t
  | ahead (l : Addr) : H t = some (.tup [.str "ahead", .ref l]) → LotsAt n H l (i + 1) (ForthP n p (stepR E PS) O) → ¬ ForthP n p (stepR E PS) O i b → RightAt n i b p E PS O H t
  | behind (l : Addr) : H t = some (.tup [.str "behind", .ref l]) → LotsAt n H l (PS.length + 1 - i) (fun k => BackP n PS.length (stepR E PS) O (PS.length - (i + k))) → ¬ BackP n PS.length (stepR E PS) O (PS.length - i) b → RightAt n i b p E PS O H t
theorem filt_true (xs : List Nat) (t : Nat → Bool) : (xs.filter t).map (fun _ => V.bl true) = (List.replicate (xs.filter t).length true).map V.bl := by
  rw [List.map_replicate]
  exact List.map_const' ..
theorem back_step {n a z : Nat} {E : List (Nat × Nat)} {PS : List (Addr × List Nat)} {O : Nat → Nat → Prop} {q : Addr × List Nat} (hq : PS[a]? = some q) (ha : a < PS.length) (zn : z < n) (o : O a z) (h : beforeP n E q.2 (BackP n PS.length (stepR E PS) O (PS.length - (a + 1))) z) : BackP n PS.length (stepR E PS) O (PS.length - a) z := by
  obtain ⟨c, cn, bc, nr⟩ := h
  have e : PS.length - a = (PS.length - (a + 1)) + 1 := by omega
  have e2 : PS.length - ((PS.length - (a + 1)) + 1) = a := by omega
  rw [e]
  refine ⟨zn, ?_, c, bc, ?_⟩
  · rw [e2]
    exact o
  · rw [e2]
    exact ⟨q, hq, nr⟩
def spRight (K : PySem.W.Frag) : Sp := fun vs H Q _ => ∃ (c D s t : Addr) (n i b : Nat) (rs : List Addr) (M : Nat → Nat → Nat) (E : List (Nat × Nat)) (p : Nat → Prop) (PS : List (Addr × List Nat)) (SN : List (Addr × V × Triple)), vs = [.ref D, .ref s, vI i, vI b, .ref t] ∧ n ≤ 8 ∧ TabAt c H D n rs M ∧ Spans n E M ∧ StoryAt n H s p PS SN ∧ i ≤ PS.length ∧ b < n ∧ RightAt n i b p E PS (openP M SN) H t ∧ ∀ H', Same H H' → Q (.bl true) H'
theorem sc__law_paper_right : FnScope ["_law_spans_here", "_law_story_here", "_law_beat", "_law_place", "_law_shown", "_law_word", "_law_lots", "_law_opened", "_law_last", "_law_good", "_law_at", "_law_reached_here", "_law_early", "_law_one", "_law_to"] ["_law_spans_here", "_law_story_here", "_law_beat", "_law_place", "_law_shown"] (defScope s__law_paper_right) := ⟨rfl, rfl, rfl, by decide +kernel, rfl, by decide +kernel, by decide +kernel⟩
theorem ok_right (T : Tx K mg) : Has P w K mg base (He.ga K "_law_paper_right") 3 ["_law_spans_here", "_law_story_here", "_law_beat", "_law_place", "_law_shown"] (spRight K) := by
  obtain ⟨⟨fd_law_open, F_law_open, b_law_open⟩, kp_law_open⟩ := ok_open (P := P) (w := w) (base := base) T
  obtain ⟨⟨fd_law_fit, F_law_fit, b_law_fit⟩, kp_law_fit⟩ := ok_lfit (P := P) (w := w) (base := base) T
  obtain ⟨⟨fd_law_reached, F_law_reached, b_law_reached⟩, kp_law_reached⟩ := ok_reached (P := P) (w := w) (base := base) T
  obtain ⟨⟨fd_law_into, F_law_into, b_law_into⟩, kp_law_into⟩ := ok_into (P := P) (w := w) (base := base) T
  obtain ⟨fd, F⟩ := T.d__law_paper_right
  refine ⟨⟨fd, F.ok sc__law_paper_right (fun vs H Q E h => ?_) (fun cdv A outer s H vs Q E hr h => ?_), F.bindsN fun _ _ _ _ _ _ us hl => match us, hl with | [_, _, _, _, _], _ => rfl⟩, F.kp⟩
  · obtain ⟨c, D, s, t, n, i, b, rs, M, E, p, PS, SN, rfl, _⟩ := h
    rfl
  · obtain ⟨c, D, sa, t, n, i, b, rs, M, E, p, PS, SN, rfl, n8, TA, S, SA, hi, bn, ra, h⟩ := h
    have hr_law_open : Room 2 _ := hr.mono (by decide)
    have hr_law_fit : Room 2 _ := hr.mono (by decide)
    have hr_law_reached : Room 1 _ := hr.mono (by decide)
    have hr_law_into : Room 1 _ := hr.mono (by decide)
    refine ⟨_, PSs.nox (pss_cons (ps_asg (pv 4) (pgT (K := K) (n := 2) rfl (pgs_cons (pg_name (i := 5) sc__law_paper_right.nd rfl (Or.inl rfl)) (pgs_cons (pg_name (i := 6) sc__law_paper_right.nd rfl (Or.inr rfl)) pgs_nil))))
      (pss_cons (ps_asg (pe_tup (pa_cons (pe_call F_law_open hr_law_open rfl T.glo_law_open kp_law_open b_law_open .nil pass0 (pa_cons (pv 0) (pa_cons (pv 1) pa_nil))) (pa_cons (pe_callB (lenK (K := K)) (by rfl) T.free_len (by decide +kernel) (pa_cons (pe_ix (ixT (K := K)) (pv 1) pe_int (fun _ _ => rfl)) pa_nil)) pa_nil))) (pgT (K := K) (n := 2) rfl (pgs_cons (pg_name (i := 7) sc__law_paper_right.nd rfl (Or.inr rfl)) (pgs_cons (pg_name (i := 8) sc__law_paper_right.nd rfl (Or.inl rfl)) pgs_nil))))
      (pss_cons (ps_if (pt_cmpR op_eq (pv 5) pe_str (nomark _)) (pss_one (ps_ret (pe_and (pe_call F_law_fit hr_law_fit rfl T.glo_law_fit kp_law_fit b_law_fit .nil pass0 (pa_cons (pv 0) (pa_cons (pv 1) (pa_cons (pv 6) pa_nil)))) (pe_one (pe_cmpR op_eq (pe_ix (ixT (K := K)) (pv 6) (pv 2) (fun _ _ => rfl)) (pv 3) (nomark _)))))) pss_nil)
      (pss_cons (ps_if (pt_cmpR op_eq (pv 5) pe_str (nomark _)) (pss_cons (ps_if (PW.pt (pw_or (pt_cmpR op_ne (pe_callB (lenK (K := K)) (by rfl) T.free_len (by decide +kernel) (pa_cons (pv 6) pa_nil)) (pe_op op_add (pv 2) pe_int) (nomark _)) (pw_or1 (pt_cmpR (inSq (K := K)) (pv 3) (pe_ix (ixL (K := K)) (pv 6) (pe_un un_neg pe_int) (fun _ _ => rfl)) (by rfl))))) (pss_one (ps_ret pe_bl)) pss_nil)
      (pss_cons (ps_setLc (i := 9) (own := [("_law_one", 13)]) (g := (gName 13)) rfl sc__law_paper_right.nd rfl rfl (sw_true rfl rfl rfl (by decide +kernel)) (piT (K := K) (pe_ix (ixT (K := K)) (pv 1) pe_int (fun _ _ => rfl))) (blkOk_by (by kernel_rfl)) (fun _ _ _ _ _ => (pg_name (i := 13) sc__law_paper_right.nd rfl (Or.inl rfl))) (fun _ _ _ _ _ => (pts_one (pt_cmpR (inSq (K := K)) (pv 13) (pe_ix (ixL (K := K)) (pv 7) pe_int (fun _ _ => rfl)) (by rfl)))) (fun _ _ _ _ _ => (pe_cmpR (inSq (K := K)) (pv 13) (pe_ix (ixL (K := K)) (pv 6) pe_int (fun _ _ => rfl)) (by rfl))))
      (pss_cons (ps_for PassesOwn.never rfl (pi_range1 (by rfl) T.free_range (pa_cons (pv 2) pa_nil)) (pg_name (i := 10) sc__law_paper_right.nd rfl (Or.inr rfl)) (pss_cons (ps_set (i := 11) sc__law_paper_right.nd rfl (Or.inl rfl) (pe_call F_law_reached hr_law_reached rfl T.glo_law_reached kp_law_reached b_law_reached .nil pass0 (pa_cons (pv 0) (pa_cons (pe_ix (ixT (K := K)) (pe_ix (ixT (K := K)) (pv 1) pe_int (fun _ _ => rfl)) (pv 10) (fun _ _ => rfl)) (pa_cons (pe_ix (ixL (K := K)) (pv 6) (pv 10) (fun _ _ => rfl)) pa_nil)))))
      (pss_one (ps_set (i := 9) sc__law_paper_right.nd rfl (Or.inl rfl) (pe_op op_cat (pv 9) (pe_lc (own := [("_law_to", 14)]) (g := (gName 14)) rfl sc__law_paper_right.nd (piT (K := K) (pv 11)) (blkOk_by (by kernel_rfl)) (fun _ _ _ _ _ => (pg_name (i := 14) sc__law_paper_right.nd rfl (Or.inl rfl))) (fun _ _ _ _ _ => (pts_one (pt_cmpR (inSq (K := K)) (pv 14) (pe_ix (ixL (K := K)) (pv 7) (pe_op op_add (pv 10) pe_int) (fun _ _ => rfl)) (by rfl)))) (fun _ _ _ _ _ => (pe_cmpR (inSq (K := K)) (pv 14) (pe_ix (ixL (K := K)) (pv 6) (pe_op op_add (pv 10) pe_int) (fun _ _ => rfl)) (by rfl)))))))))
      (pss_one (ps_ret (pe_callB (allK (K := K)) (by rfl) T.free_all (by decide +kernel) (pa_cons (pv 9) pa_nil))))))) pss_nil)
      (pss_cons (ps_if (PW.pt (pw_or (pt_cmpR op_ne (pe_callB (lenK (K := K)) (by rfl) T.free_len (by decide +kernel) (pa_cons (pv 6) pa_nil)) (pe_op op_sub (pe_op op_add (pv 8) pe_int) (pv 2)) (nomark _)) (pw_or1 (pt_cmpR (inSq (K := K)) (pv 3) (pe_ix (ixL (K := K)) (pv 6) pe_int (fun _ _ => rfl)) (by rfl))))) (pss_one (ps_ret pe_bl)) pss_nil)
      (pss_cons (ps_setLc (i := 9) (own := [("_law_one", 13)]) (g := (gName 13)) (tt := tYes) rfl sc__law_paper_right.nd rfl rfl (sw_true rfl rfl rfl (by decide +kernel)) (piT (K := K) (pe_ix (ixL (K := K)) (pv 7) (pv 8) (fun _ _ => rfl))) (blkOk_by (by kernel_rfl)) (fun _ _ _ _ _ => (pg_name (i := 13) sc__law_paper_right.nd rfl (Or.inl rfl))) (fun _ _ _ _ _ => pts_nil) (fun _ _ _ _ _ => (pe_cmpR (inSq (K := K)) (pv 13) (pe_ix (ixL (K := K)) (pv 6) (pe_un un_neg pe_int) (fun _ _ => rfl)) (by rfl))))
      (pss_cons (ps_for PassesOwn.never rfl (pi_range2 (by rfl) T.free_range (pa_cons (pv 2) (pa_cons (pv 8) pa_nil))) (pg_name (i := 10) sc__law_paper_right.nd rfl (Or.inr rfl)) (pss_cons (ps_set (i := 12) sc__law_paper_right.nd rfl (Or.inl rfl) (pe_call F_law_into hr_law_into rfl T.glo_law_into kp_law_into b_law_into .nil pass0 (pa_cons (pv 0) (pa_cons (pe_ix (ixT (K := K)) (pe_ix (ixT (K := K)) (pv 1) pe_int (fun _ _ => rfl)) (pv 10) (fun _ _ => rfl)) (pa_cons (pe_ix (ixL (K := K)) (pv 6) (pe_op op_sub (pe_op op_add (pv 10) pe_int) (pv 2)) (fun _ _ => rfl)) pa_nil)))))
      (pss_one (ps_set (i := 9) sc__law_paper_right.nd rfl (Or.inl rfl) (pe_op op_cat (pv 9) (pe_lc (own := [("_law_one", 13)]) (g := (gName 13)) rfl sc__law_paper_right.nd (piT (K := K) (pv 12)) (blkOk_by (by kernel_rfl)) (fun _ _ _ _ _ => (pg_name (i := 13) sc__law_paper_right.nd rfl (Or.inl rfl))) (fun _ _ _ _ _ => (pts_one (pt_cmpR (inSq (K := K)) (pv 13) (pe_ix (ixL (K := K)) (pv 7) (pv 10) (fun _ _ => rfl)) (by rfl)))) (fun _ _ _ _ _ => (pe_cmpR (inSq (K := K)) (pv 13) (pe_ix (ixL (K := K)) (pv 6) (pe_op op_sub (pv 10) (pv 2)) (fun _ _ => rfl)) (by rfl)))))))))
      (pss_one (ps_ret (pe_callB (allK (K := K)) (by rfl) T.free_all (by decide +kernel) (pa_cons (pv 9) pa_nil))))))))))), ?_⟩
    have ht : ∃ (s : Str) (l : Addr), H t = some (.tup [.str s, .ref l]) := by
      cases ra with
      | walk tw ws ht _ _ _ => exact ⟨_, _, ht⟩
      | ahead l ht _ _ => exact ⟨_, _, ht⟩
      | behind l ht _ _ => exact ⟨_, _, ht⟩
    obtain ⟨sw, l, ht⟩ := ht
    refine ⟨_, rfl, t, _, rfl, SqT.of ht, rfl, _, _, rfl, _, _, rfl, rfl, ?_⟩
    obtain ⟨tl, tp, ts, hsa, htl, htp, hts⟩ := SA.ex
    have lp := SA.lp
    refine ⟨_, rfl, _, rfl, c, D, sa, n, rs, M, p, PS, SN, rfl, n8, TA, SA, fun H1 op LO _ s1 => ?_⟩
    refine ⟨_, rfl, sa, _, 1, _, rfl, rfl, SqT.of (s1 _ _ hsa), rfl, tp, _, rfl, .inr (SqT.of (s1 _ _ htp)), (by show 2 ≤ sizeLine; decide), fun o ho => ?_⟩
    have s2 := same_upd (o := HO.tup [.ref op, V.int (((PS.map fun q => V.ref q.1).length : Nat) : Int)]) ho
    have h2 : (upd H1 o (.tup [.ref op, V.int (((PS.map fun q => V.ref q.1).length : Nat) : Int)])) o = some (.tup [.ref op, vI PS.length]) := by
      rw [upd_same, List.length_map]
      rfl
    generalize upd H1 o (.tup [.ref op, V.int (((PS.map fun q => V.ref q.1).length : Nat) : Int)]) = H2 at s2 h2
    refine ⟨o, _, rfl, SqT.of h2, rfl, _, _, rfl, _, _, rfl, rfl, ?_⟩
    have s02 := s1.trans s2
    have LO := LO.same s2
    have TA := TA.same s02
    have SA := SA.same s02
    have hsa := s02 _ _ hsa
    have htl := s02 _ _ htl
    have htp := s02 _ _ htp
    obtain ⟨os, hos, los, eos⟩ := LO.ex
    clear s1 s2 h2 ho hts
    cases ra with
    | walk tw ws ht' htw fw ew =>
      rw [ht] at ht'
      cases ht'
      refine ⟨_, rfl, rfl, _, rfl, iteT ?_⟩
      have fz : decB (FitZ n PS.length p (stepR E PS) (openP M SN) (ws.map nI)) = true := decB_true.mpr ⟨ws, rfl, fw⟩
      have lw := fw.len
      refine ⟨_, rfl, _, rfl, _, rfl, c, D, sa, l, n, rs, E, M, p, PS, SN, ws.map nI, rfl, n8, TA, S, SA, by rw [← vI_map]; exact s02 _ _ htw, by rw [List.length_map]; omega, fun H3 s3 => ?_⟩
      rw [fz]
      refine ⟨_, rfl, iteT ?_⟩
      refine ⟨_, rfl, _, rfl, l, _, _, _, rfl, rfl, SqT.of (s3 _ _ (s02 _ _ htw)), atI_nat (get_map ew), _, rfl, rfl, ?_⟩
      have := h H3 (s02.trans s3)
      rw [← decide_eq_true (rfl : vI b = vI b)] at this
      exact this
    | ahead l' ht' LF nf =>
      rw [ht] at ht'
      cases ht'
      refine ⟨_, rfl, rfl, _, rfl, iteF ?_⟩
      refine ⟨_, rfl, rfl, _, rfl, iteT ?_⟩
      have LF := LF.same s02
      obtain ⟨fs, hfs, lfs, efs⟩ := LF.ex
      refine ⟨_, rfl, l, _, rfl, .inl (SqL.of hfs), _, rfl, _, _, rfl, rfl, rfl, _, rfl, ?_⟩
      show if (!decide (V.int (((fs.map V.ref).length : Nat) : Int) = V.int (((i : Nat) : Int) + 1))) = true then _ else _
      rw [decide_eq_true (show V.int (((fs.map V.ref).length : Nat) : Int) = V.int (((i : Nat) : Int) + 1) by rw [List.length_map, lfs]; rfl)]
      refine iteF ?_
      have hfl : fs[i]? = some (fs[i]'(by omega)) := List.getElem?_eq_getElem _
      generalize fs[i]'(by omega) = fl at hfl
      have efl : fs.map V.ref = (fs.take i).map V.ref ++ [V.ref fl] := by
        have : fs = fs.take i ++ [fl] := by
          have e := List.take_append_drop i fs
          rw [List.drop_eq_getElem_cons (by omega), List.drop_of_length_le (by omega)] at e
          have e2 : fs[i]'(by omega) = fl := by
            have := hfl
            rw [List.getElem?_eq_getElem (by omega)] at this
            exact Option.some.inj this
          rw [e2] at e
          exact e.symm
        conv => lhs; rw [this]
        rw [List.map_append]
        rfl
      refine ⟨_, rfl, _, rfl, 1, rfl, l, _, _, _, rfl, rfl, SqL.of hfs, (by rw [efl]; exact atI_last _ _), fl, _, rfl, .inr (SqT.of (efs _ fl hfl)), rfl, flat_vI _, _, rfl, ?_⟩
      show if inV (vI b) ((lotP n (ForthP n p (stepR E PS) (openP M SN) i)).map vI) = true then _ else _
      rw [in_lot, decide_eq_false (fun z => nf (mem_lotP.mp z).2)]
      refine iteF ?_
      have hf0 : fs[0]? = some (fs[0]'(by omega)) := List.getElem?_eq_getElem _
      generalize fs[0]'(by omega) = f0 at hf0
      have ho0 : os[0]? = some (os[0]'(by omega)) := List.getElem?_eq_getElem _
      generalize os[0]'(by omega) = o0 at ho0
      have lpp := lotP_len n p
      refine ⟨_, rfl, sa, _, 0, _, rfl, rfl, SqT.of hsa, rfl, tl, rfl, ⟨_, SqT.of htl⟩, fun g hg => ?_⟩
      refine lc_filtG (walk_tup (K := K) (a := tl) (xs := (lotP n p).map vI)) (lotP n p) (fun _ => .bl true) (fun z => decide (z ∈ lotP n (openP M SN 0))) (by simp) (by rw [List.length_map]; omega) hg (fun H3 s3 => SqT.of (s3 _ _ htl)) ?_ ?_
      · rintro k z x H4 H3 N1 N0 hz s3 ⟨rfl, ex⟩ k1 k0
        obtain ⟨z', hz', rfl⟩ := get_vI ex
        rw [hz] at hz'
        cases hz'
        have pz := (mem_lotP.mp (List.mem_of_getElem? hz))
        refine ⟨rfl, _, rfl, _, rfl, op, _, 0, _, rfl, rfl, SqL.of (s3 _ _ hos), atI_nat (j := 0) (get_map ho0), o0, _, rfl, .inr (SqT.of (s3 _ _ (eos 0 o0 ho0))), rfl, flat_vI _, _, rfl, ?_⟩
        show if inV (vI z) ((lotP n (openP M SN 0)).map vI) = true then _ else _
        rw [in_lot]
        refine ite2 (fun y => ?_) (fun y => k0 _ (Bool.eq_false_iff.mpr y) fun _ _ e => e)
        refine ⟨_, rfl, _, rfl, l, _, 0, _, rfl, rfl, SqL.of (s3 _ _ hfs), atI_nat (j := 0) (get_map hf0), f0, _, rfl, .inr (SqT.of (s3 _ _ (efs 0 f0 hf0))), rfl, flat_vI _, ?_⟩
        show N1 (.bl (inV (vI z) ((lotP n (ForthP n p (stepR E PS) (openP M SN) 0)).map vI))) _
        rw [in_lot, decide_eq_true (mem_lotP.mpr ⟨pz.1, pz.1, pz.2, (mem_lotP.mp (of_decide_eq_true y)).2⟩)]
        exact k1 _ y fun _ _ e => e
      intro H3 h3 s3
      rw [filt_true] at h3
      have lfl : ((lotP n p).filter fun z => decide (z ∈ lotP n (openP M SN 0))).length ≤ 8 := Nat.le_trans (List.length_filter_le _ _) (by omega)
      generalize ((lotP n p).filter fun z => decide (z ∈ lotP n (openP M SN 0))).length = k0 at h3 lfl
      refine ⟨_, rfl, (i : Int), rfl, by omega, by omega, for_range (lo := 0) (n := ((i : Nat) : Int).toNat) (fun j σ H' => ∃ (g' : Addr) (k : Nat) (v10 v11 v14 : Option V), σ = [some (.ref D), some (.ref sa), some (vI i), some (vI b), some (.ref t), some (.str "ahead"), some (.ref l), some (.ref op), some (vI PS.length), some (.ref g'), v10, v11, none, none, v14] ∧ H' g' = some (.lst ((List.replicate k true).map V.bl)) ∧ k ≤ 8 * (j + 1) ∧ Same H2 H') ⟨g, k0, none, none, none, rfl, h3, by omega, s3⟩ ?_ ?_⟩
      · rintro j σ H4 hj ⟨g', k, v10, v11, v14, rfl, hg', lk, s4⟩
        have ji : j < i := by omega
        rw [Int.zero_add]
        have SA4 := SA.same s4
        have hq : PS[j]? = some (PS[j]'(by omega)) := List.getElem?_eq_getElem _
        generalize PS[j]'(by omega) = q at hq
        have pcq := SA4.pc q (List.mem_of_getElem? hq)
        have hfj : fs[j]? = some (fs[j]'(by omega)) := List.getElem?_eq_getElem _
        generalize fs[j]'(by omega) = fj at hfj
        have hfk : fs[j + 1]? = some (fs[j + 1]'(by omega)) := List.getElem?_eq_getElem _
        generalize fs[j + 1]'(by omega) = fk at hfk
        have hok : os[j + 1]? = some (os[j + 1]'(by omega)) := List.getElem?_eq_getElem _
        generalize os[j + 1]'(by omega) = ok at hok
        refine ⟨_, rfl, _, rfl, sa, _, 1, _, rfl, rfl, SqT.of (s4 _ _ hsa), rfl, _, rfl, tp, _, _, _, rfl, rfl, SqT.of (s4 _ _ htp), atI_nat (get_map (f := fun q : Addr × List Nat => V.ref q.1) hq), _, rfl, _, rfl, l, _, _, _, rfl, rfl, SqL.of (s4 _ _ hfs), atI_nat (get_map hfj), c, D, q.1, fj, rs, M, n, E, q.2, _, rfl, TA.same s4, S, n8, pcq.1, pcq.2, s4 _ _ (efs j fj hfj), fun H5 tr htr s5 => ?_⟩
        have s25 := s4.trans s5
        have lst := lotP_len n (stepP n E q.2 (ForthP n p (stepR E PS) (openP M SN) j))
        refine ⟨_, rfl, _, rfl, tr, rfl, ⟨_, SqT.of htr⟩, fun g2 hg2 => ?_⟩
        refine lc_filtG (walk_tup (K := K) (a := tr) (xs := (lotP n (stepP n E q.2 (ForthP n p (stepR E PS) (openP M SN) j))).map vI)) (lotP n (stepP n E q.2 (ForthP n p (stepR E PS) (openP M SN) j))) (fun _ => .bl true) (fun z => decide (z ∈ lotP n (openP M SN (j + 1)))) (by simp) (by rw [List.length_map]; omega) hg2 (fun H6 s6 => SqT.of (s6 _ _ htr)) ?_ ?_
        · rintro k' z x H7 H6 N1 N0 hz s6 ⟨rfl, ex⟩ k1 k0
          obtain ⟨z', hz', rfl⟩ := get_vI ex
          rw [hz] at hz'
          cases hz'
          have pz := (mem_lotP.mp (List.mem_of_getElem? hz))
          have s26 := s25.trans s6
          refine ⟨rfl, _, rfl, _, rfl, _, rfl, _, _, rfl, rfl, op, _, _, _, rfl, rfl, SqL.of (s26 _ _ hos), (show _ from atI_nat (j := j + 1) (get_map hok)), ok, _, rfl, .inr (SqT.of (s26 _ _ (eos _ ok hok))), rfl, flat_vI _, _, rfl, ?_⟩
          show if inV (vI z) ((lotP n (openP M SN (j + 1))).map vI) = true then _ else _
          rw [in_lot]
          refine ite2 (fun y => ?_) (fun y => k0 _ (Bool.eq_false_iff.mpr y) fun _ _ e => e)
          refine ⟨_, rfl, _, rfl, _, rfl, _, _, rfl, rfl, l, _, _, _, rfl, rfl, SqL.of (s26 _ _ hfs), (show _ from atI_nat (j := j + 1) (get_map hfk)), fk, _, rfl, .inr (SqT.of (s26 _ _ (efs _ fk hfk))), rfl, flat_vI _, ?_⟩
          show N1 (.bl (inV (vI z) ((lotP n (ForthP n p (stepR E PS) (openP M SN) (j + 1))).map vI))) _
          rw [in_lot, decide_eq_true (by rw [← forth_next hq]; exact mem_lotP.mpr ⟨pz.1, pz.2, (mem_lotP.mp (of_decide_eq_true y)).2⟩)]
          exact k1 _ y fun _ _ e => e
        intro H6 h6 s6
        rw [filt_true] at h6
        have lf2 : ((lotP n (stepP n E q.2 (ForthP n p (stepR E PS) (openP M SN) j))).filter fun z => decide (z ∈ lotP n (openP M SN (j + 1)))).length ≤ 8 := Nat.le_trans (List.length_filter_le _ _) (by omega)
        generalize ((lotP n (stepP n E q.2 (ForthP n p (stepR E PS) (openP M SN) j))).filter fun z => decide (z ∈ lotP n (openP M SN (j + 1)))).length = k2 at h6 lf2
        refine ⟨g', g2, _, _, rfl, rfl, (s5.trans s6) _ _ hg', h6, ?_, fun g3 hg3 => ⟨g3, k + k2, _, _, _, rfl, ?_, by omega, (s25.trans s6).trans (same_upd hg3)⟩⟩
        · simp only [List.length_map, List.length_replicate]
          exact Nat.le_trans (show k + k2 ≤ 1000 by omega) (by decide)
        · rw [upd_same, ← List.map_append, List.replicate_append_replicate]
      rintro σ H4 ⟨g', k, v10, v11, v14, rfl, hg', lk, s4⟩
      refine ⟨_, rfl, g', List.replicate k true, rfl, SqL.of hg', ?_⟩
      rw [all_true (fun z hz => (List.mem_replicate.mp hz).2)]
      exact h H4 (s02.trans s4)
    | behind l' ht' LB nb =>
      rw [ht] at ht'
      cases ht'
      refine ⟨_, rfl, rfl, _, rfl, iteF ?_⟩
      refine ⟨_, rfl, rfl, _, rfl, iteF ?_⟩
      have LB := LB.same s02
      obtain ⟨fs, hfs, lfs, efs⟩ := LB.ex
      refine ⟨_, rfl, l, _, rfl, .inl (SqL.of hfs), _, rfl, _, _, rfl, rfl, _, rfl, _, _, rfl, rfl, rfl, _, rfl, ?_⟩
      show if (!decide (V.int (((fs.map V.ref).length : Nat) : Int) = V.int (((PS.length : Nat) : Int) + 1 - ((i : Nat) : Int)))) = true then _ else _
      rw [decide_eq_true (show V.int (((fs.map V.ref).length : Nat) : Int) = V.int (((PS.length : Nat) : Int) + 1 - ((i : Nat) : Int)) by rw [List.length_map, lfs]; congr 1; omega)]
      refine iteF ?_
      have hf0 : fs[0]? = some (fs[0]'(by omega)) := List.getElem?_eq_getElem _
      generalize fs[0]'(by omega) = f0 at hf0
      refine ⟨_, rfl, _, rfl, l, _, 0, _, rfl, rfl, SqL.of hfs, atI_nat (j := 0) (get_map hf0), f0, _, rfl, .inr (SqT.of (efs 0 f0 hf0)), rfl, flat_vI _, _, rfl, ?_⟩
      show if inV (vI b) ((lotP n (BackP n PS.length (stepR E PS) (openP M SN) (PS.length - (i + 0)))).map vI) = true then _ else _
      rw [in_lot, decide_eq_false (show ¬ b ∈ lotP n (BackP n PS.length (stepR E PS) (openP M SN) (PS.length - (i + 0))) from fun z => nb (mem_lotP.mp z).2)]
      refine iteF ?_
      have hfl : fs[PS.length - i]? = some (fs[PS.length - i]'(by omega)) := List.getElem?_eq_getElem _
      generalize fs[PS.length - i]'(by omega) = fl at hfl
      have efl : fs.map V.ref = (fs.take (PS.length - i)).map V.ref ++ [V.ref fl] := by
        have : fs = fs.take (PS.length - i) ++ [fl] := by
          have e := List.take_append_drop (PS.length - i) fs
          rw [List.drop_eq_getElem_cons (by omega), List.drop_of_length_le (by omega)] at e
          have e2 : fs[PS.length - i]'(by omega) = fl := by
            have := hfl
            rw [List.getElem?_eq_getElem (by omega)] at this
            exact Option.some.inj this
          rw [e2] at e
          exact e.symm
        conv => lhs; rw [this]
        rw [List.map_append]
        rfl
      have tfl := efs _ fl hfl
      have z0 : PS.length - (i + (PS.length - i)) = 0 := by omega
      simp only [z0] at tfl
      have hoL : os[PS.length]? = some (os[PS.length]'(by omega)) := List.getElem?_eq_getElem _
      generalize os[PS.length]'(by omega) = oL at hoL
      have toL := eos _ oL hoL
      have lo1 := lotP_len n (openP M SN PS.length)
      refine ⟨_, rfl, _, rfl, op, _, _, _, rfl, rfl, SqL.of hos, atI_nat (get_map hoL), oL, rfl, ⟨_, SqT.of toL⟩, fun g hg => ?_⟩
      refine lc_val (walk_tup (K := K) (a := oL) (xs := (lotP n (openP M SN PS.length)).map vI)) (fun _ => .bl true) (by rw [List.length_map]; omega) hg (fun H3 s3 => SqT.of (s3 _ _ toL)) ?_ ?_
      · rintro k x H4 H3 Nx hk s3 ⟨rfl, ex⟩ kk
        obtain ⟨z, hz, rfl⟩ := get_vI ex
        have pz := (mem_lotP.mp (List.mem_of_getElem? hz))
        refine ⟨rfl, _, rfl, _, rfl, 1, rfl, l, _, _, _, rfl, rfl, SqL.of (s3 _ _ hfs), (by rw [efl]; exact atI_last _ _), fl, _, rfl, .inr (SqT.of (s3 _ _ tfl)), rfl, flat_vI _, ?_⟩
        show Nx (.bl (inV (vI z) ((lotP n (BackP n PS.length (stepR E PS) (openP M SN) 0)).map vI))) _
        rw [in_lot, decide_eq_true (mem_lotP.mpr ⟨pz.1, pz.1, pz.2⟩)]
        exact kk _ fun _ _ e => e
      intro H3 h3 s3
      have h3 : H3 g = some (.lst ((List.replicate (lotP n (openP M SN PS.length)).length true).map V.bl)) := by
        rw [h3, List.map_replicate, List.length_map]
        congr 2
        rw [List.map_const', List.length_range]
      generalize (lotP n (openP M SN PS.length)).length = k0 at h3 lo1
      refine ⟨_, rfl, _, rfl, (i : Int), (PS.length : Int), rfl, ⟨by omega, by omega, by omega, by omega⟩, for_range (lo := (i : Int)) (n := (((PS.length : Nat) : Int) - ((i : Nat) : Int)).toNat) (fun j σ H' => ∃ (g' : Addr) (k : Nat) (v10 v12 v13 : Option V), σ = [some (.ref D), some (.ref sa), some (vI i), some (vI b), some (.ref t), some (.str "behind"), some (.ref l), some (.ref op), some (vI PS.length), some (.ref g'), v10, none, v12, v13, none] ∧ H' g' = some (.lst ((List.replicate k true).map V.bl)) ∧ k ≤ 8 * (j + 1) ∧ Same H2 H') ⟨g, k0, none, none, none, rfl, h3, by omega, s3⟩ ?_ ?_⟩
      · rintro j σ H4 hj ⟨g', k, v10, v12, v13, rfl, hg', lk, s4⟩
        have ji : i + j < PS.length := by omega
        have SA4 := SA.same s4
        have hq : PS[i + j]? = some (PS[i + j]'(by omega)) := List.getElem?_eq_getElem _
        generalize PS[i + j]'(by omega) = q at hq
        have pcq := SA4.pc q (List.mem_of_getElem? hq)
        have hfj : fs[j]? = some (fs[j]'(by omega)) := List.getElem?_eq_getElem _
        generalize fs[j]'(by omega) = fj at hfj
        have hfk : fs[j + 1]? = some (fs[j + 1]'(by omega)) := List.getElem?_eq_getElem _
        generalize fs[j + 1]'(by omega) = fk at hfk
        have hok : os[i + j]? = some (os[i + j]'(by omega)) := List.getElem?_eq_getElem _
        generalize os[i + j]'(by omega) = ok at hok
        have e1 : ((i : Nat) : Int) + ((j : Nat) : Int) + 1 - ((i : Nat) : Int) = ((j + 1 : Nat) : Int) := by omega
        have e2 : ((i : Nat) : Int) + ((j : Nat) : Int) - ((i : Nat) : Int) = ((j : Nat) : Int) := by omega
        refine ⟨_, rfl, _, rfl, sa, _, 1, _, rfl, rfl, SqT.of (s4 _ _ hsa), rfl, _, rfl, tp, _, _, _, rfl, rfl, SqT.of (s4 _ _ htp), (show _ from atI_nat (j := i + j) (get_map (f := fun q : Addr × List Nat => V.ref q.1) hq)), _, rfl, _, rfl, _, _, rfl, rfl, _, rfl, _, _, rfl, rfl, l, _, _, _, rfl, rfl, SqL.of (s4 _ _ hfs), (by rw [e1]; exact atI_nat (get_map hfk)), c, D, q.1, fk, rs, M, n, E, q.2, _, rfl, TA.same s4, S, n8, pcq.1, pcq.2, s4 _ _ (efs _ fk hfk), fun H5 tr htr s5 => ?_⟩
        have s25 := s4.trans s5
        have lst := lotP_len n (beforeP n E q.2 (BackP n PS.length (stepR E PS) (openP M SN) (PS.length - (i + (j + 1)))))
        refine ⟨_, rfl, _, rfl, tr, rfl, ⟨_, SqT.of htr⟩, fun g2 hg2 => ?_⟩
        refine lc_filtG (walk_tup (K := K) (a := tr) (xs := (lotP n (beforeP n E q.2 (BackP n PS.length (stepR E PS) (openP M SN) (PS.length - (i + (j + 1)))))).map vI)) (lotP n (beforeP n E q.2 (BackP n PS.length (stepR E PS) (openP M SN) (PS.length - (i + (j + 1)))))) (fun _ => .bl true) (fun z => decide (z ∈ lotP n (openP M SN (i + j)))) (by simp) (by rw [List.length_map]; omega) hg2 (fun H6 s6 => SqT.of (s6 _ _ htr)) ?_ ?_
        · rintro k' z x H7 H6 N1 N0 hz s6 ⟨rfl, ex⟩ k1 k0
          obtain ⟨z', hz', rfl⟩ := get_vI ex
          rw [hz] at hz'
          cases hz'
          have pz := (mem_lotP.mp (List.mem_of_getElem? hz))
          have s26 := s25.trans s6
          refine ⟨rfl, _, rfl, _, rfl, _, rfl, op, _, _, _, rfl, rfl, SqL.of (s26 _ _ hos), (show _ from atI_nat (j := i + j) (get_map hok)), ok, _, rfl, .inr (SqT.of (s26 _ _ (eos _ ok hok))), rfl, flat_vI _, _, rfl, ?_⟩
          show if inV (vI z) ((lotP n (openP M SN (i + j))).map vI) = true then _ else _
          rw [in_lot]
          refine ite2 (fun y => ?_) (fun y => k0 _ (Bool.eq_false_iff.mpr y) fun _ _ e => e)
          refine ⟨_, rfl, _, rfl, _, rfl, _, rfl, _, _, rfl, rfl, l, _, _, _, rfl, rfl, SqL.of (s26 _ _ hfs), (by rw [e2]; exact atI_nat (get_map hfj)), fj, _, rfl, .inr (SqT.of (s26 _ _ (efs _ fj hfj))), rfl, flat_vI _, ?_⟩
          show N1 (.bl (inV (vI z) ((lotP n (BackP n PS.length (stepR E PS) (openP M SN) (PS.length - (i + j)))).map vI))) _
          rw [in_lot, decide_eq_true (mem_lotP.mpr ⟨pz.1, back_step hq ji pz.1 (mem_lotP.mp (of_decide_eq_true y)).2 (by rw [Nat.add_assoc]; exact pz.2)⟩)]
          exact k1 _ y fun _ _ e => e
        intro H6 h6 s6
        rw [filt_true] at h6
        have lf2 : ((lotP n (beforeP n E q.2 (BackP n PS.length (stepR E PS) (openP M SN) (PS.length - (i + (j + 1)))))).filter fun z => decide (z ∈ lotP n (openP M SN (i + j)))).length ≤ 8 := Nat.le_trans (List.length_filter_le _ _) (by omega)
        generalize ((lotP n (beforeP n E q.2 (BackP n PS.length (stepR E PS) (openP M SN) (PS.length - (i + (j + 1)))))).filter fun z => decide (z ∈ lotP n (openP M SN (i + j)))).length = k2 at h6 lf2
        refine ⟨g', g2, _, _, rfl, rfl, (s5.trans s6) _ _ hg', h6, ?_, fun g3 hg3 => ⟨g3, k + k2, _, _, _, rfl, ?_, by omega, (s25.trans s6).trans (same_upd hg3)⟩⟩
        · simp only [List.length_map, List.length_replicate]
          exact Nat.le_trans (show k + k2 ≤ 1000 by omega) (by decide)
        · rw [upd_same, ← List.map_append, List.replicate_append_replicate]
      rintro σ H4 ⟨g', k, v10, v12, v13, rfl, hg', lk, s4⟩
      refine ⟨_, rfl, g', List.replicate k true, rfl, SqL.of hg', ?_⟩
      rw [all_true (fun z hz => (List.mem_replicate.mp hz).2)]
      exact h H4 (s02.trans s4)
end
end RL
/-! A paper of any lots is right or not, by the law. -/
namespace RL
open PySem PySem.Spec PyProof.Rows L2 RLM
section
variable {P : Program} {w : World} {K : PySem.W.Frag} {mg : Str → Option Value} {base : Heap}
/-- all of a list of truths, where each is what is asked -/
theorem all_need {n : Nat} {xs : List Nat} {a b : Nat → Prop} {t : Nat → Bool} {f : Nat → Bool} (hx : ∀ c, c ∈ xs ↔ c < n ∧ a c) (ht : ∀ c, c < n → (t c = true ↔ b c)) {q : Nat → Prop} (hf : ∀ c, c < n → (f c = true ↔ q c)) : ((xs.filter t).map f).all id = true ↔ ∀ c, c < n → a c ∧ b c → q c := by
  rw [List.all_eq_true]
  constructor
  · intro h c cn hc
    exact (hf c cn).1 (h _ (List.mem_map.mpr ⟨c, List.mem_filter.mpr ⟨(hx c).2 ⟨cn, hc.1⟩, (ht c cn).2 hc.2⟩, rfl⟩))
  · intro h v hv
    obtain ⟨c, hc, rfl⟩ := List.mem_map.mp hv
    obtain ⟨h1, h2⟩ := List.mem_filter.mp hc
    obtain ⟨cn, ac⟩ := (hx c).1 h1
    exact (hf c cn).2 (h c cn ⟨ac, (ht c cn).1 h2⟩)
/-- what is still needed grows by one beat -/
theorem need_next {m : Nat} {N q : Nat → Nat → Prop} {n : Nat} {xs ys : List Bool} (hx : xs.all id = true ↔ ∀ k, k < m → ∀ c, c < n → N k c → q k c) (hy : ys.all id = true ↔ ∀ c, c < n → N m c → q m c) : (xs ++ ys).all id = true ↔ ∀ k, k < m + 1 → ∀ c, c < n → N k c → q k c := by
  rw [List.all_append, Bool.and_eq_true, hx, hy]
  constructor
  · rintro ⟨h1, h2⟩ k hk c cn h
    rcases Nat.lt_or_ge k m with z | z
    · exact h1 k z c cn h
    · have : k = m := by omega
      subst this
      exact h2 c cn h
  · intro h
    exact ⟨fun k hk => h k (by omega), h m (by omega)⟩
def spRightL (K : PySem.W.Frag) : Sp := fun vs H Q _ => ∃ (c D s t l : Addr) (n i b m : Nat) (rs : List Addr) (M : Nat → Nat → Nat) (E : List (Nat × Nat)) (p : Nat → Prop) (PS : List (Addr × List Nat)) (SN : List (Addr × V × Triple)) (q : Nat → Nat → Prop) (aw : Bool), vs = [.ref D, .ref s, vI i, vI b, .ref t] ∧ n ≤ 8 ∧ TabAt c H D n rs M ∧ Spans n E M ∧ StoryAt n H s p PS SN ∧ i ≤ PS.length ∧ b < n ∧ H t = some (.tup [.str (if aw = true then "ahead" else "behind"), .ref l]) ∧ LotsAt n H l m q ∧ 1 ≤ m ∧ m ≤ 100 ∧ ∀ H', Same H H' → Q (.bl (decB (RowOk n p E PS (openP M SN) q i b m aw))) H'
theorem okf_rightL (T : Tx K mg) {fd : FuncData} (F : FnP K "_law_paper_right" "_law_paper_right" s__law_paper_right [] (He.ga K "_law_paper_right") fd) : FnOk P w K mg base CX0 3 (He.ga K "_law_paper_right") fd ["_law_spans_here", "_law_story_here", "_law_beat", "_law_place", "_law_shown"] (spRightL K) := by
  obtain ⟨⟨fd_law_open, F_law_open, b_law_open⟩, kp_law_open⟩ := ok_open (P := P) (w := w) (base := base) T
  obtain ⟨⟨fd_law_fit, F_law_fit, b_law_fit⟩, kp_law_fit⟩ := ok_lfit (P := P) (w := w) (base := base) T
  obtain ⟨⟨fd_law_reached, F_law_reached, b_law_reached⟩, kp_law_reached⟩ := ok_reached (P := P) (w := w) (base := base) T
  obtain ⟨⟨fd_law_into, F_law_into, b_law_into⟩, kp_law_into⟩ := ok_into (P := P) (w := w) (base := base) T
  refine F.ok sc__law_paper_right (fun vs H Q E h => ?_) (fun cdv A outer s H vs Q E hr h => ?_)
  · obtain ⟨c, D, s, t, l, n, i, b, m, rs, M, E, p, PS, SN, q, aw, rfl, _⟩ := h
    rfl
  · obtain ⟨c, D, sa, t, l, n, i, b, m, rs, M, E, p, PS, SN, q0, aw, rfl, n8, TA, S, SA, hi, bn, ht, LF, m1, m100, h⟩ := h
    have hr_law_open : Room 2 _ := hr.mono (by decide)
    have hr_law_fit : Room 2 _ := hr.mono (by decide)
    have hr_law_reached : Room 1 _ := hr.mono (by decide)
    have hr_law_into : Room 1 _ := hr.mono (by decide)
    refine ⟨_, PSs.nox (pss_cons (ps_asg (pv 4) (pgT (K := K) (n := 2) rfl (pgs_cons (pg_name (i := 5) sc__law_paper_right.nd rfl (Or.inl rfl)) (pgs_cons (pg_name (i := 6) sc__law_paper_right.nd rfl (Or.inr rfl)) pgs_nil))))
      (pss_cons (ps_asg (pe_tup (pa_cons (pe_call F_law_open hr_law_open rfl T.glo_law_open kp_law_open b_law_open .nil pass0 (pa_cons (pv 0) (pa_cons (pv 1) pa_nil))) (pa_cons (pe_callB (lenK (K := K)) (by rfl) T.free_len (by decide +kernel) (pa_cons (pe_ix (ixT (K := K)) (pv 1) pe_int (fun _ _ => rfl)) pa_nil)) pa_nil))) (pgT (K := K) (n := 2) rfl (pgs_cons (pg_name (i := 7) sc__law_paper_right.nd rfl (Or.inr rfl)) (pgs_cons (pg_name (i := 8) sc__law_paper_right.nd rfl (Or.inl rfl)) pgs_nil))))
      (pss_cons (ps_if (pt_cmpR op_eq (pv 5) pe_str (nomark _)) (pss_one (ps_ret (pe_and (pe_call F_law_fit hr_law_fit rfl T.glo_law_fit kp_law_fit b_law_fit .nil pass0 (pa_cons (pv 0) (pa_cons (pv 1) (pa_cons (pv 6) pa_nil)))) (pe_one (pe_cmpR op_eq (pe_ix (ixT (K := K)) (pv 6) (pv 2) (fun _ _ => rfl)) (pv 3) (nomark _)))))) pss_nil)
      (pss_cons (ps_if (pt_cmpR op_eq (pv 5) pe_str (nomark _)) (pss_cons (ps_if (PW.pt (pw_or (pt_cmpR op_ne (pe_callB (lenK (K := K)) (by rfl) T.free_len (by decide +kernel) (pa_cons (pv 6) pa_nil)) (pe_op op_add (pv 2) pe_int) (nomark _)) (pw_or1 (pt_cmpR (inSq (K := K)) (pv 3) (pe_ix (ixL (K := K)) (pv 6) (pe_un un_neg pe_int) (fun _ _ => rfl)) (by rfl))))) (pss_one (ps_ret pe_bl)) pss_nil)
      (pss_cons (ps_setLc (i := 9) (own := [("_law_one", 13)]) (g := (gName 13)) rfl sc__law_paper_right.nd rfl rfl (sw_true rfl rfl rfl (by decide +kernel)) (piT (K := K) (pe_ix (ixT (K := K)) (pv 1) pe_int (fun _ _ => rfl))) (blkOk_by (by kernel_rfl)) (fun _ _ _ _ _ => (pg_name (i := 13) sc__law_paper_right.nd rfl (Or.inl rfl))) (fun _ _ _ _ _ => (pts_one (pt_cmpR (inSq (K := K)) (pv 13) (pe_ix (ixL (K := K)) (pv 7) pe_int (fun _ _ => rfl)) (by rfl)))) (fun _ _ _ _ _ => (pe_cmpR (inSq (K := K)) (pv 13) (pe_ix (ixL (K := K)) (pv 6) pe_int (fun _ _ => rfl)) (by rfl))))
      (pss_cons (ps_for PassesOwn.never rfl (pi_range1 (by rfl) T.free_range (pa_cons (pv 2) pa_nil)) (pg_name (i := 10) sc__law_paper_right.nd rfl (Or.inr rfl)) (pss_cons (ps_set (i := 11) sc__law_paper_right.nd rfl (Or.inl rfl) (pe_call F_law_reached hr_law_reached rfl T.glo_law_reached kp_law_reached b_law_reached .nil pass0 (pa_cons (pv 0) (pa_cons (pe_ix (ixT (K := K)) (pe_ix (ixT (K := K)) (pv 1) pe_int (fun _ _ => rfl)) (pv 10) (fun _ _ => rfl)) (pa_cons (pe_ix (ixL (K := K)) (pv 6) (pv 10) (fun _ _ => rfl)) pa_nil)))))
      (pss_one (ps_set (i := 9) sc__law_paper_right.nd rfl (Or.inl rfl) (pe_op op_cat (pv 9) (pe_lc (own := [("_law_to", 14)]) (g := (gName 14)) rfl sc__law_paper_right.nd (piT (K := K) (pv 11)) (blkOk_by (by kernel_rfl)) (fun _ _ _ _ _ => (pg_name (i := 14) sc__law_paper_right.nd rfl (Or.inl rfl))) (fun _ _ _ _ _ => (pts_one (pt_cmpR (inSq (K := K)) (pv 14) (pe_ix (ixL (K := K)) (pv 7) (pe_op op_add (pv 10) pe_int) (fun _ _ => rfl)) (by rfl)))) (fun _ _ _ _ _ => (pe_cmpR (inSq (K := K)) (pv 14) (pe_ix (ixL (K := K)) (pv 6) (pe_op op_add (pv 10) pe_int) (fun _ _ => rfl)) (by rfl)))))))))
      (pss_one (ps_ret (pe_callB (allK (K := K)) (by rfl) T.free_all (by decide +kernel) (pa_cons (pv 9) pa_nil))))))) pss_nil)
      (pss_cons (ps_if (PW.pt (pw_or (pt_cmpR op_ne (pe_callB (lenK (K := K)) (by rfl) T.free_len (by decide +kernel) (pa_cons (pv 6) pa_nil)) (pe_op op_sub (pe_op op_add (pv 8) pe_int) (pv 2)) (nomark _)) (pw_or1 (pt_cmpR (inSq (K := K)) (pv 3) (pe_ix (ixL (K := K)) (pv 6) pe_int (fun _ _ => rfl)) (by rfl))))) (pss_one (ps_ret pe_bl)) pss_nil)
      (pss_cons (ps_setLc (i := 9) (own := [("_law_one", 13)]) (g := (gName 13)) (tt := tYes) rfl sc__law_paper_right.nd rfl rfl (sw_true rfl rfl rfl (by decide +kernel)) (piT (K := K) (pe_ix (ixL (K := K)) (pv 7) (pv 8) (fun _ _ => rfl))) (blkOk_by (by kernel_rfl)) (fun _ _ _ _ _ => (pg_name (i := 13) sc__law_paper_right.nd rfl (Or.inl rfl))) (fun _ _ _ _ _ => pts_nil) (fun _ _ _ _ _ => (pe_cmpR (inSq (K := K)) (pv 13) (pe_ix (ixL (K := K)) (pv 6) (pe_un un_neg pe_int) (fun _ _ => rfl)) (by rfl))))
      (pss_cons (ps_for PassesOwn.never rfl (pi_range2 (by rfl) T.free_range (pa_cons (pv 2) (pa_cons (pv 8) pa_nil))) (pg_name (i := 10) sc__law_paper_right.nd rfl (Or.inr rfl)) (pss_cons (ps_set (i := 12) sc__law_paper_right.nd rfl (Or.inl rfl) (pe_call F_law_into hr_law_into rfl T.glo_law_into kp_law_into b_law_into .nil pass0 (pa_cons (pv 0) (pa_cons (pe_ix (ixT (K := K)) (pe_ix (ixT (K := K)) (pv 1) pe_int (fun _ _ => rfl)) (pv 10) (fun _ _ => rfl)) (pa_cons (pe_ix (ixL (K := K)) (pv 6) (pe_op op_sub (pe_op op_add (pv 10) pe_int) (pv 2)) (fun _ _ => rfl)) pa_nil)))))
      (pss_one (ps_set (i := 9) sc__law_paper_right.nd rfl (Or.inl rfl) (pe_op op_cat (pv 9) (pe_lc (own := [("_law_one", 13)]) (g := (gName 13)) rfl sc__law_paper_right.nd (piT (K := K) (pv 12)) (blkOk_by (by kernel_rfl)) (fun _ _ _ _ _ => (pg_name (i := 13) sc__law_paper_right.nd rfl (Or.inl rfl))) (fun _ _ _ _ _ => (pts_one (pt_cmpR (inSq (K := K)) (pv 13) (pe_ix (ixL (K := K)) (pv 7) (pv 10) (fun _ _ => rfl)) (by rfl)))) (fun _ _ _ _ _ => (pe_cmpR (inSq (K := K)) (pv 13) (pe_ix (ixL (K := K)) (pv 6) (pe_op op_sub (pv 10) (pv 2)) (fun _ _ => rfl)) (by rfl)))))))))
      (pss_one (ps_ret (pe_callB (allK (K := K)) (by rfl) T.free_all (by decide +kernel) (pa_cons (pv 9) pa_nil))))))))))), ?_⟩
    refine ⟨_, rfl, t, _, rfl, SqT.of ht, rfl, _, _, rfl, _, _, rfl, rfl, ?_⟩
    obtain ⟨tl, tp, ts, hsa, htl, htp, hts⟩ := SA.ex
    have lp := SA.lp
    refine ⟨_, rfl, _, rfl, c, D, sa, n, rs, M, p, PS, SN, rfl, n8, TA, SA, fun H1 op LO _ s1 => ?_⟩
    refine ⟨_, rfl, sa, _, 1, _, rfl, rfl, SqT.of (s1 _ _ hsa), rfl, tp, _, rfl, .inr (SqT.of (s1 _ _ htp)), (by show 2 ≤ sizeLine; decide), fun o ho => ?_⟩
    have s2 := same_upd (o := HO.tup [.ref op, V.int (((PS.map fun q => V.ref q.1).length : Nat) : Int)]) ho
    have h2 : (upd H1 o (.tup [.ref op, V.int (((PS.map fun q => V.ref q.1).length : Nat) : Int)])) o = some (.tup [.ref op, vI PS.length]) := by
      rw [upd_same, List.length_map]
      rfl
    generalize upd H1 o (.tup [.ref op, V.int (((PS.map fun q => V.ref q.1).length : Nat) : Int)]) = H2 at s2 h2
    refine ⟨o, _, rfl, SqT.of h2, rfl, _, _, rfl, _, _, rfl, rfl, ?_⟩
    have s02 := s1.trans s2
    have LO := LO.same s2
    have TA := TA.same s02
    have SA := SA.same s02
    have hsa := s02 _ _ hsa
    have htl := s02 _ _ htl
    have htp := s02 _ _ htp
    have LF := LF.same s02
    obtain ⟨fs, hfs, lfs, efs⟩ := LF.ex
    obtain ⟨os, hos, los, eos⟩ := LO.ex
    clear s1 s2 h2 ho hts
    cases aw with
    | true =>
      refine ⟨_, rfl, rfl, _, rfl, iteF ?_⟩
      refine ⟨_, rfl, rfl, _, rfl, iteT ?_⟩
      refine ⟨_, rfl, l, _, rfl, .inl (SqL.of hfs), _, rfl, _, _, rfl, rfl, rfl, _, rfl, ?_⟩
      show if (!decide (V.int (((fs.map V.ref).length : Nat) : Int) = V.int (((i : Nat) : Int) + 1))) = true then _ else _
      by_cases em : m = i + 1
      case neg =>
        rw [decide_eq_false (show ¬ V.int (((fs.map V.ref).length : Nat) : Int) = V.int (((i : Nat) : Int) + 1) from fun z => em (by have := V.int.inj z; rw [List.length_map, lfs] at this; omega))]
        refine iteT (iteT ?_)
        have := h H2 s02
        rw [show decB (RowOk n p E PS (openP M SN) q0 i b m true) = false from Bool.eq_false_iff.mpr fun z => em (decB_true.mp z).1.1] at this
        exact this
      subst em
      rw [decide_eq_true (show V.int (((fs.map V.ref).length : Nat) : Int) = V.int (((i : Nat) : Int) + 1) by rw [List.length_map, lfs]; rfl)]
      refine iteF ?_
      have hfl : fs[i]? = some (fs[i]'(by omega)) := List.getElem?_eq_getElem _
      generalize fs[i]'(by omega) = fl at hfl
      have efl : fs.map V.ref = (fs.take i).map V.ref ++ [V.ref fl] := by
        have : fs = fs.take i ++ [fl] := by
          have e := List.take_append_drop i fs
          rw [List.drop_eq_getElem_cons (by omega), List.drop_of_length_le (by omega)] at e
          have e2 : fs[i]'(by omega) = fl := by
            have := hfl
            rw [List.getElem?_eq_getElem (by omega)] at this
            exact Option.some.inj this
          rw [e2] at e
          exact e.symm
        conv => lhs; rw [this]
        rw [List.map_append]
        rfl
      refine ⟨_, rfl, _, rfl, 1, rfl, l, _, _, _, rfl, rfl, SqL.of hfs, (by rw [efl]; exact atI_last _ _), fl, _, rfl, .inr (SqT.of (efs _ fl hfl)), rfl, flat_vI _, _, rfl, ?_⟩
      show if inV (vI b) ((lotP n (q0 i)).map vI) = true then _ else _
      rw [in_lot]
      by_cases qb : q0 i b
      case pos =>
        rw [decide_eq_true (mem_lotP.mpr ⟨bn, qb⟩)]
        refine iteT ?_
        have := h H2 s02
        rw [show decB (RowOk n p E PS (openP M SN) q0 i b (i + 1) true) = false from Bool.eq_false_iff.mpr fun z => (decB_true.mp z).2 qb] at this
        exact this
      rw [decide_eq_false (fun z => qb (mem_lotP.mp z).2)]
      refine iteF ?_
      have hf0 : fs[0]? = some (fs[0]'(by omega)) := List.getElem?_eq_getElem _
      generalize fs[0]'(by omega) = f0 at hf0
      have ho0 : os[0]? = some (os[0]'(by omega)) := List.getElem?_eq_getElem _
      generalize os[0]'(by omega) = o0 at ho0
      have lpp := lotP_len n p
      refine ⟨_, rfl, sa, _, 0, _, rfl, rfl, SqT.of hsa, rfl, tl, rfl, ⟨_, SqT.of htl⟩, fun g hg => ?_⟩
      refine lc_filtG (walk_tup (K := K) (a := tl) (xs := (lotP n p).map vI)) (lotP n p) (fun z => .bl (decide (z ∈ lotP n (q0 0)))) (fun z => decide (z ∈ lotP n (openP M SN 0))) (by simp) (by rw [List.length_map]; omega) hg (fun H3 s3 => SqT.of (s3 _ _ htl)) ?_ ?_
      · rintro k z x H4 H3 N1 N0 hz s3 ⟨rfl, ex⟩ k1 k0
        obtain ⟨z', hz', rfl⟩ := get_vI ex
        rw [hz] at hz'
        cases hz'
        refine ⟨rfl, _, rfl, _, rfl, op, _, 0, _, rfl, rfl, SqL.of (s3 _ _ hos), atI_nat (j := 0) (get_map ho0), o0, _, rfl, .inr (SqT.of (s3 _ _ (eos 0 o0 ho0))), rfl, flat_vI _, _, rfl, ?_⟩
        show if inV (vI z) ((lotP n (openP M SN 0)).map vI) = true then _ else _
        rw [in_lot]
        refine ite2 (fun y => ?_) (fun y => k0 _ (Bool.eq_false_iff.mpr y) fun _ _ e => e)
        refine ⟨_, rfl, _, rfl, l, _, 0, _, rfl, rfl, SqL.of (s3 _ _ hfs), atI_nat (j := 0) (get_map hf0), f0, _, rfl, .inr (SqT.of (s3 _ _ (efs 0 f0 hf0))), rfl, flat_vI _, ?_⟩
        show N1 (.bl (inV (vI z) ((lotP n (q0 0)).map vI))) _
        rw [in_lot]
        exact k1 _ y fun _ _ e => e
      intro H3 h3 s3
      replace h3 : H3 g = some (.lst ((((lotP n p).filter fun z => decide (z ∈ lotP n (openP M SN 0))).map fun z => decide (z ∈ lotP n (q0 0))).map V.bl)) := by rw [h3, List.map_map]; rfl
      have lfl : (((lotP n p).filter fun z => decide (z ∈ lotP n (openP M SN 0))).map fun z => decide (z ∈ lotP n (q0 0))).length ≤ 8 := by rw [List.length_map]; exact Nat.le_trans (List.length_filter_le _ _) (by omega)
      have a0 := all_need (n := n) (xs := lotP n p) (a := p) (b := openP M SN 0) (t := fun z => decide (z ∈ lotP n (openP M SN 0))) (f := fun z => decide (z ∈ lotP n (q0 0))) (q := q0 0) (fun c => mem_lotP) (fun c cn => decide_eq_true_iff.trans ⟨fun z => (mem_lotP.mp z).2, fun z => mem_lotP.mpr ⟨cn, z⟩⟩) (fun c cn => decide_eq_true_iff.trans ⟨fun z => (mem_lotP.mp z).2, fun z => mem_lotP.mpr ⟨cn, z⟩⟩)
      generalize ((lotP n p).filter fun z => decide (z ∈ lotP n (openP M SN 0))).map (fun z => decide (z ∈ lotP n (q0 0))) = gs0 at h3 lfl a0
      have b0 : gs0.all id = true ↔ ∀ k, k < 0 + 1 → ∀ c, c < n → needA n p E PS (openP M SN) q0 k c → q0 k c := a0.trans ⟨fun z k hk => by
        have : k = 0 := by omega
        subst this
        exact z, fun z => z 0 (by omega)⟩
      refine ⟨_, rfl, (i : Int), rfl, by omega, by omega, for_range (lo := 0) (n := ((i : Nat) : Int).toNat) (fun j σ H' => ∃ (g' : Addr) (gs : List Bool) (v10 v11 v14 : Option V), σ = [some (.ref D), some (.ref sa), some (vI i), some (vI b), some (.ref t), some (.str "ahead"), some (.ref l), some (.ref op), some (vI PS.length), some (.ref g'), v10, v11, none, none, v14] ∧ H' g' = some (.lst (gs.map V.bl)) ∧ gs.length ≤ 8 * (j + 1) ∧ (gs.all id = true ↔ ∀ k, k < j + 1 → ∀ c, c < n → needA n p E PS (openP M SN) q0 k c → q0 k c) ∧ Same H2 H') ⟨g, gs0, none, none, none, rfl, h3, by omega, b0, s3⟩ ?_ ?_⟩
      · rintro j σ H4 hj ⟨g', gs, v10, v11, v14, rfl, hg', lk, ag, s4⟩
        have ji : j < i := by omega
        rw [Int.zero_add]
        have SA4 := SA.same s4
        have hq : PS[j]? = some (PS[j]'(by omega)) := List.getElem?_eq_getElem _
        generalize PS[j]'(by omega) = q at hq
        have pcq := SA4.pc q (List.mem_of_getElem? hq)
        have hfj : fs[j]? = some (fs[j]'(by omega)) := List.getElem?_eq_getElem _
        generalize fs[j]'(by omega) = fj at hfj
        have hfk : fs[j + 1]? = some (fs[j + 1]'(by omega)) := List.getElem?_eq_getElem _
        generalize fs[j + 1]'(by omega) = fk at hfk
        have hok : os[j + 1]? = some (os[j + 1]'(by omega)) := List.getElem?_eq_getElem _
        generalize os[j + 1]'(by omega) = ok at hok
        refine ⟨_, rfl, _, rfl, sa, _, 1, _, rfl, rfl, SqT.of (s4 _ _ hsa), rfl, _, rfl, tp, _, _, _, rfl, rfl, SqT.of (s4 _ _ htp), atI_nat (get_map (f := fun q : Addr × List Nat => V.ref q.1) hq), _, rfl, _, rfl, l, _, _, _, rfl, rfl, SqL.of (s4 _ _ hfs), atI_nat (get_map hfj), c, D, q.1, fj, rs, M, n, E, q.2, _, rfl, TA.same s4, S, n8, pcq.1, pcq.2, s4 _ _ (efs j fj hfj), fun H5 tr htr s5 => ?_⟩
        have s25 := s4.trans s5
        have lst := lotP_len n (stepP n E q.2 (q0 j))
        refine ⟨_, rfl, _, rfl, tr, rfl, ⟨_, SqT.of htr⟩, fun g2 hg2 => ?_⟩
        refine lc_filtG (walk_tup (K := K) (a := tr) (xs := (lotP n (stepP n E q.2 (q0 j))).map vI)) (lotP n (stepP n E q.2 (q0 j))) (fun z => .bl (decide (z ∈ lotP n (q0 (j + 1))))) (fun z => decide (z ∈ lotP n (openP M SN (j + 1)))) (by simp) (by rw [List.length_map]; omega) hg2 (fun H6 s6 => SqT.of (s6 _ _ htr)) ?_ ?_
        · rintro k' z x H7 H6 N1 N0 hz s6 ⟨rfl, ex⟩ k1 k0
          obtain ⟨z', hz', rfl⟩ := get_vI ex
          rw [hz] at hz'
          cases hz'
          have s26 := s25.trans s6
          refine ⟨rfl, _, rfl, _, rfl, _, rfl, _, _, rfl, rfl, op, _, _, _, rfl, rfl, SqL.of (s26 _ _ hos), (show _ from atI_nat (j := j + 1) (get_map hok)), ok, _, rfl, .inr (SqT.of (s26 _ _ (eos _ ok hok))), rfl, flat_vI _, _, rfl, ?_⟩
          show if inV (vI z) ((lotP n (openP M SN (j + 1))).map vI) = true then _ else _
          rw [in_lot]
          refine ite2 (fun y => ?_) (fun y => k0 _ (Bool.eq_false_iff.mpr y) fun _ _ e => e)
          refine ⟨_, rfl, _, rfl, _, rfl, _, _, rfl, rfl, l, _, _, _, rfl, rfl, SqL.of (s26 _ _ hfs), (show _ from atI_nat (j := j + 1) (get_map hfk)), fk, _, rfl, .inr (SqT.of (s26 _ _ (efs _ fk hfk))), rfl, flat_vI _, ?_⟩
          show N1 (.bl (inV (vI z) ((lotP n (q0 (j + 1))).map vI))) _
          rw [in_lot]
          exact k1 _ y fun _ _ e => e
        intro H6 h6 s6
        replace h6 : H6 g2 = some (.lst ((((lotP n (stepP n E q.2 (q0 j))).filter fun z => decide (z ∈ lotP n (openP M SN (j + 1)))).map fun z => decide (z ∈ lotP n (q0 (j + 1)))).map V.bl)) := by rw [h6, List.map_map]; rfl
        have lf2 : (((lotP n (stepP n E q.2 (q0 j))).filter fun z => decide (z ∈ lotP n (openP M SN (j + 1)))).map fun z => decide (z ∈ lotP n (q0 (j + 1)))).length ≤ 8 := by rw [List.length_map]; exact Nat.le_trans (List.length_filter_le _ _) (by omega)
        have a2 := all_need (n := n) (xs := lotP n (stepP n E q.2 (q0 j))) (a := stepP n E q.2 (q0 j)) (b := openP M SN (j + 1)) (t := fun z => decide (z ∈ lotP n (openP M SN (j + 1)))) (f := fun z => decide (z ∈ lotP n (q0 (j + 1)))) (q := q0 (j + 1)) (fun c => mem_lotP) (fun c cn => decide_eq_true_iff.trans ⟨fun z => (mem_lotP.mp z).2, fun z => mem_lotP.mpr ⟨cn, z⟩⟩) (fun c cn => decide_eq_true_iff.trans ⟨fun z => (mem_lotP.mp z).2, fun z => mem_lotP.mpr ⟨cn, z⟩⟩)
        generalize ((lotP n (stepP n E q.2 (q0 j))).filter fun z => decide (z ∈ lotP n (openP M SN (j + 1)))).map (fun z => decide (z ∈ lotP n (q0 (j + 1)))) = g2s at h6 lf2 a2
        have key : ∀ c, c < n → ((stepP n E q.2 (q0 j) c ∧ openP M SN (j + 1) c) ↔ needA n p E PS (openP M SN) q0 (j + 1) c) := fun c cn => by
          have h2 : c ∈ lotP n (fun b => stepP n E q.2 (q0 j) b ∧ openP M SN (j + 1) b) ↔ c ∈ lotP n (needA n p E PS (openP M SN) q0 (j + 1)) := by rw [needA_step hq]
          rw [mem_lotP, mem_lotP] at h2
          exact ⟨fun z => (h2.1 ⟨cn, z⟩).2, fun z => (h2.2 ⟨cn, z⟩).2⟩
        have b2 : g2s.all id = true ↔ ∀ c, c < n → needA n p E PS (openP M SN) q0 (j + 1) c → q0 (j + 1) c := a2.trans ⟨fun z c cn w => z c cn ((key c cn).2 w), fun z c cn w => z c cn ((key c cn).1 w)⟩
        refine ⟨g', g2, _, _, rfl, rfl, (s5.trans s6) _ _ hg', h6, ?_, fun g3 hg3 => ⟨g3, gs ++ g2s, _, _, _, rfl, ?_, by rw [List.length_append]; omega, need_next ag b2, (s25.trans s6).trans (same_upd hg3)⟩⟩
        · simp only [List.length_map]
          exact Nat.le_trans (show gs.length + g2s.length ≤ 1000 by omega) (by decide)
        · rw [upd_same, ← List.map_append]
      rintro σ H4 ⟨g', gs, v10, v11, v14, rfl, hg', lk, ag, s4⟩
      refine ⟨_, rfl, g', gs, rfl, SqL.of hg', ?_⟩
      rw [show gs.all id = decB (RowOk n p E PS (openP M SN) q0 i b (i + 1) true) from Bool.eq_iff_iff.mpr (ag.trans ⟨fun z => decB_true.mpr ⟨⟨rfl, fun k hk => z k (by omega)⟩, qb⟩, fun z k hk => (decB_true.mp z).1.2 k (by omega)⟩)]
      exact h H4 (s02.trans s4)
    | false =>
      refine ⟨_, rfl, rfl, _, rfl, iteF ?_⟩
      refine ⟨_, rfl, rfl, _, rfl, iteF ?_⟩
      refine ⟨_, rfl, l, _, rfl, .inl (SqL.of hfs), _, rfl, _, _, rfl, rfl, _, rfl, _, _, rfl, rfl, rfl, _, rfl, ?_⟩
      show if (!decide (V.int (((fs.map V.ref).length : Nat) : Int) = V.int (((PS.length : Nat) : Int) + 1 - ((i : Nat) : Int)))) = true then _ else _
      by_cases em : m = PS.length - i + 1
      case neg =>
        rw [decide_eq_false (show ¬ V.int (((fs.map V.ref).length : Nat) : Int) = V.int (((PS.length : Nat) : Int) + 1 - ((i : Nat) : Int)) from fun z => em (by have := V.int.inj z; rw [List.length_map, lfs] at this; omega))]
        refine iteT (iteT ?_)
        have := h H2 s02
        rw [show decB (RowOk n p E PS (openP M SN) q0 i b m false) = false from Bool.eq_false_iff.mpr fun z => em (decB_true.mp z).1.1] at this
        exact this
      subst em
      rw [decide_eq_true (show V.int (((fs.map V.ref).length : Nat) : Int) = V.int (((PS.length : Nat) : Int) + 1 - ((i : Nat) : Int)) by rw [List.length_map, lfs]; congr 1; omega)]
      refine iteF ?_
      have hf0 : fs[0]? = some (fs[0]'(by omega)) := List.getElem?_eq_getElem _
      generalize fs[0]'(by omega) = f0 at hf0
      refine ⟨_, rfl, _, rfl, l, _, 0, _, rfl, rfl, SqL.of hfs, atI_nat (j := 0) (get_map hf0), f0, _, rfl, .inr (SqT.of (efs 0 f0 hf0)), rfl, flat_vI _, _, rfl, ?_⟩
      show if inV (vI b) ((lotP n (q0 0)).map vI) = true then _ else _
      rw [in_lot]
      by_cases qb : q0 0 b
      case pos =>
        rw [decide_eq_true (mem_lotP.mpr ⟨bn, qb⟩)]
        refine iteT ?_
        have := h H2 s02
        rw [show decB (RowOk n p E PS (openP M SN) q0 i b (PS.length - i + 1) false) = false from Bool.eq_false_iff.mpr fun z => (decB_true.mp z).2 qb] at this
        exact this
      rw [decide_eq_false (fun z => qb (mem_lotP.mp z).2)]
      refine iteF ?_
      have hfl : fs[PS.length - i]? = some (fs[PS.length - i]'(by omega)) := List.getElem?_eq_getElem _
      generalize fs[PS.length - i]'(by omega) = fl at hfl
      have efl : fs.map V.ref = (fs.take (PS.length - i)).map V.ref ++ [V.ref fl] := by
        have : fs = fs.take (PS.length - i) ++ [fl] := by
          have e := List.take_append_drop (PS.length - i) fs
          rw [List.drop_eq_getElem_cons (by omega), List.drop_of_length_le (by omega)] at e
          have e2 : fs[PS.length - i]'(by omega) = fl := by
            have := hfl
            rw [List.getElem?_eq_getElem (by omega)] at this
            exact Option.some.inj this
          rw [e2] at e
          exact e.symm
        conv => lhs; rw [this]
        rw [List.map_append]
        rfl
      have tfl := efs _ fl hfl
      have hoL : os[PS.length]? = some (os[PS.length]'(by omega)) := List.getElem?_eq_getElem _
      generalize os[PS.length]'(by omega) = oL at hoL
      have toL := eos _ oL hoL
      have lo1 := lotP_len n (openP M SN PS.length)
      refine ⟨_, rfl, _, rfl, op, _, _, _, rfl, rfl, SqL.of hos, atI_nat (get_map hoL), oL, rfl, ⟨_, SqT.of toL⟩, fun g hg => ?_⟩
      refine lc_filtG (walk_tup (K := K) (a := oL) (xs := (lotP n (openP M SN PS.length)).map vI)) (lotP n (openP M SN PS.length)) (fun z => .bl (decide (z ∈ lotP n (q0 (PS.length - i))))) (fun _ => true) (by simp) (by rw [List.length_map]; omega) hg (fun H3 s3 => SqT.of (s3 _ _ toL)) ?_ ?_
      · rintro k z x H4 H3 N1 N0 hz s3 ⟨rfl, ex⟩ k1 k0
        obtain ⟨z', hz', rfl⟩ := get_vI ex
        rw [hz] at hz'
        cases hz'
        refine ⟨rfl, yesT ?_⟩
        refine ⟨_, rfl, _, rfl, 1, rfl, l, _, _, _, rfl, rfl, SqL.of (s3 _ _ hfs), (by rw [efl]; exact atI_last _ _), fl, _, rfl, .inr (SqT.of (s3 _ _ tfl)), rfl, flat_vI _, ?_⟩
        show N1 (.bl (inV (vI z) ((lotP n (q0 (PS.length - i))).map vI))) _
        rw [in_lot]
        exact k1 _ rfl fun _ _ e => e
      intro H3 h3 s3
      replace h3 : H3 g = some (.lst ((((lotP n (openP M SN PS.length)).filter fun _ => true).map fun z => decide (z ∈ lotP n (q0 (PS.length - i)))).map V.bl)) := by rw [h3, List.map_map]; rfl
      have lfl : (((lotP n (openP M SN PS.length)).filter fun _ => true).map fun z => decide (z ∈ lotP n (q0 (PS.length - i)))).length ≤ 8 := by rw [List.length_map]; exact Nat.le_trans (List.length_filter_le _ _) (by omega)
      have a0 := all_need (n := n) (xs := lotP n (openP M SN PS.length)) (a := openP M SN PS.length) (b := fun _ => True) (t := fun _ => true) (f := fun z => decide (z ∈ lotP n (q0 (PS.length - i)))) (q := q0 (PS.length - i)) (fun c => mem_lotP) (fun c cn => ⟨fun _ => trivial, fun _ => rfl⟩) (fun c cn => decide_eq_true_iff.trans ⟨fun z => (mem_lotP.mp z).2, fun z => mem_lotP.mpr ⟨cn, z⟩⟩)
      generalize ((lotP n (openP M SN PS.length)).filter fun _ => true).map (fun z => decide (z ∈ lotP n (q0 (PS.length - i)))) = gs0 at h3 lfl a0
      have b0 : gs0.all id = true ↔ (∀ c, c < n → openP M SN PS.length c → q0 (PS.length - i) c) ∧ ∀ k, k < 0 → ∀ c, c < n → needB n E PS (openP M SN) q0 i k c → q0 k c := a0.trans ⟨fun z => ⟨fun c cn o => z c cn ⟨o, trivial⟩, fun k hk => absurd hk (Nat.not_lt_zero _)⟩, fun z c cn o => z.1 c cn o.1⟩
      refine ⟨_, rfl, _, rfl, (i : Int), (PS.length : Int), rfl, ⟨by omega, by omega, by omega, by omega⟩, for_range (lo := (i : Int)) (n := (((PS.length : Nat) : Int) - ((i : Nat) : Int)).toNat) (fun j σ H' => ∃ (g' : Addr) (gs : List Bool) (v10 v12 v13 : Option V), σ = [some (.ref D), some (.ref sa), some (vI i), some (vI b), some (.ref t), some (.str "behind"), some (.ref l), some (.ref op), some (vI PS.length), some (.ref g'), v10, none, v12, v13, none] ∧ H' g' = some (.lst (gs.map V.bl)) ∧ gs.length ≤ 8 * (j + 1) ∧ (gs.all id = true ↔ (∀ c, c < n → openP M SN PS.length c → q0 (PS.length - i) c) ∧ ∀ k, k < j → ∀ c, c < n → needB n E PS (openP M SN) q0 i k c → q0 k c) ∧ Same H2 H') ⟨g, gs0, none, none, none, rfl, h3, by omega, b0, s3⟩ ?_ ?_⟩
      · rintro j σ H4 hj ⟨g', gs, v10, v12, v13, rfl, hg', lk, ag, s4⟩
        have ji : i + j < PS.length := by omega
        have SA4 := SA.same s4
        have hq : PS[i + j]? = some (PS[i + j]'(by omega)) := List.getElem?_eq_getElem _
        generalize PS[i + j]'(by omega) = q at hq
        have pcq := SA4.pc q (List.mem_of_getElem? hq)
        have hfj : fs[j]? = some (fs[j]'(by omega)) := List.getElem?_eq_getElem _
        generalize fs[j]'(by omega) = fj at hfj
        have hfk : fs[j + 1]? = some (fs[j + 1]'(by omega)) := List.getElem?_eq_getElem _
        generalize fs[j + 1]'(by omega) = fk at hfk
        have hok : os[i + j]? = some (os[i + j]'(by omega)) := List.getElem?_eq_getElem _
        generalize os[i + j]'(by omega) = ok at hok
        have e1 : ((i : Nat) : Int) + ((j : Nat) : Int) + 1 - ((i : Nat) : Int) = ((j + 1 : Nat) : Int) := by omega
        have e2 : ((i : Nat) : Int) + ((j : Nat) : Int) - ((i : Nat) : Int) = ((j : Nat) : Int) := by omega
        refine ⟨_, rfl, _, rfl, sa, _, 1, _, rfl, rfl, SqT.of (s4 _ _ hsa), rfl, _, rfl, tp, _, _, _, rfl, rfl, SqT.of (s4 _ _ htp), (show _ from atI_nat (j := i + j) (get_map (f := fun q : Addr × List Nat => V.ref q.1) hq)), _, rfl, _, rfl, _, _, rfl, rfl, _, rfl, _, _, rfl, rfl, l, _, _, _, rfl, rfl, SqL.of (s4 _ _ hfs), (by rw [e1]; exact atI_nat (get_map hfk)), c, D, q.1, fk, rs, M, n, E, q.2, _, rfl, TA.same s4, S, n8, pcq.1, pcq.2, s4 _ _ (efs _ fk hfk), fun H5 tr htr s5 => ?_⟩
        have s25 := s4.trans s5
        have lst := lotP_len n (beforeP n E q.2 (q0 (j + 1)))
        refine ⟨_, rfl, _, rfl, tr, rfl, ⟨_, SqT.of htr⟩, fun g2 hg2 => ?_⟩
        refine lc_filtG (walk_tup (K := K) (a := tr) (xs := (lotP n (beforeP n E q.2 (q0 (j + 1)))).map vI)) (lotP n (beforeP n E q.2 (q0 (j + 1)))) (fun z => .bl (decide (z ∈ lotP n (q0 j)))) (fun z => decide (z ∈ lotP n (openP M SN (i + j)))) (by simp) (by rw [List.length_map]; omega) hg2 (fun H6 s6 => SqT.of (s6 _ _ htr)) ?_ ?_
        · rintro k' z x H7 H6 N1 N0 hz s6 ⟨rfl, ex⟩ k1 k0
          obtain ⟨z', hz', rfl⟩ := get_vI ex
          rw [hz] at hz'
          cases hz'
          have s26 := s25.trans s6
          refine ⟨rfl, _, rfl, _, rfl, _, rfl, op, _, _, _, rfl, rfl, SqL.of (s26 _ _ hos), (show _ from atI_nat (j := i + j) (get_map hok)), ok, _, rfl, .inr (SqT.of (s26 _ _ (eos _ ok hok))), rfl, flat_vI _, _, rfl, ?_⟩
          show if inV (vI z) ((lotP n (openP M SN (i + j))).map vI) = true then _ else _
          rw [in_lot]
          refine ite2 (fun y => ?_) (fun y => k0 _ (Bool.eq_false_iff.mpr y) fun _ _ e => e)
          refine ⟨_, rfl, _, rfl, _, rfl, _, rfl, _, _, rfl, rfl, l, _, _, _, rfl, rfl, SqL.of (s26 _ _ hfs), (by rw [e2]; exact atI_nat (get_map hfj)), fj, _, rfl, .inr (SqT.of (s26 _ _ (efs _ fj hfj))), rfl, flat_vI _, ?_⟩
          show N1 (.bl (inV (vI z) ((lotP n (q0 j)).map vI))) _
          rw [in_lot]
          exact k1 _ y fun _ _ e => e
        intro H6 h6 s6
        replace h6 : H6 g2 = some (.lst ((((lotP n (beforeP n E q.2 (q0 (j + 1)))).filter fun z => decide (z ∈ lotP n (openP M SN (i + j)))).map fun z => decide (z ∈ lotP n (q0 j))).map V.bl)) := by rw [h6, List.map_map]; rfl
        have lf2 : (((lotP n (beforeP n E q.2 (q0 (j + 1)))).filter fun z => decide (z ∈ lotP n (openP M SN (i + j)))).map fun z => decide (z ∈ lotP n (q0 j))).length ≤ 8 := by rw [List.length_map]; exact Nat.le_trans (List.length_filter_le _ _) (by omega)
        have a2 := all_need (n := n) (xs := lotP n (beforeP n E q.2 (q0 (j + 1)))) (a := beforeP n E q.2 (q0 (j + 1))) (b := openP M SN (i + j)) (t := fun z => decide (z ∈ lotP n (openP M SN (i + j)))) (f := fun z => decide (z ∈ lotP n (q0 j))) (q := q0 j) (fun c => mem_lotP) (fun c cn => decide_eq_true_iff.trans ⟨fun z => (mem_lotP.mp z).2, fun z => mem_lotP.mpr ⟨cn, z⟩⟩) (fun c cn => decide_eq_true_iff.trans ⟨fun z => (mem_lotP.mp z).2, fun z => mem_lotP.mpr ⟨cn, z⟩⟩)
        generalize ((lotP n (beforeP n E q.2 (q0 (j + 1)))).filter fun z => decide (z ∈ lotP n (openP M SN (i + j)))).map (fun z => decide (z ∈ lotP n (q0 j))) = g2s at h6 lf2 a2
        have key : ∀ c, c < n → ((beforeP n E q.2 (q0 (j + 1)) c ∧ openP M SN (i + j) c) ↔ needB n E PS (openP M SN) q0 i j c) := fun c cn => by
          have h2 : c ∈ lotP n (fun b => beforeP n E q.2 (q0 (j + 1)) b ∧ openP M SN (i + j) b) ↔ c ∈ lotP n (needB n E PS (openP M SN) q0 i j) := by rw [needB_step (by omega) hq]
          rw [mem_lotP, mem_lotP] at h2
          exact ⟨fun z => (h2.1 ⟨cn, z⟩).2, fun z => (h2.2 ⟨cn, z⟩).2⟩
        have b2 : g2s.all id = true ↔ ∀ c, c < n → needB n E PS (openP M SN) q0 i j c → q0 j c := a2.trans ⟨fun z c cn w => z c cn ((key c cn).2 w), fun z c cn w => z c cn ((key c cn).1 w)⟩
        refine ⟨g', g2, _, _, rfl, rfl, (s5.trans s6) _ _ hg', h6, ?_, fun g3 hg3 => ⟨g3, gs ++ g2s, _, _, _, rfl, ?_, by rw [List.length_append]; omega, ?_, (s25.trans s6).trans (same_upd hg3)⟩⟩
        · simp only [List.length_map]
          exact Nat.le_trans (show gs.length + g2s.length ≤ 1000 by omega) (by decide)
        · rw [upd_same, ← List.map_append]
        · rw [List.all_append, Bool.and_eq_true, ag, b2]
          constructor
          · rintro ⟨⟨h0, h1⟩, h2⟩
            refine ⟨h0, fun k hk c cn w => ?_⟩
            rcases Nat.lt_or_ge k j with z | z
            · exact h1 k z c cn w
            · have : k = j := by omega
              subst this
              exact h2 c cn w
          · rintro ⟨h0, h1⟩
            exact ⟨⟨h0, fun k hk => h1 k (by omega)⟩, h1 j (by omega)⟩
      rintro σ H4 ⟨g', gs, v10, v12, v13, rfl, hg', lk, ag, s4⟩
      refine ⟨_, rfl, g', gs, rfl, SqL.of hg', ?_⟩
      have last : ∀ c, needB n E PS (openP M SN) q0 i (PS.length - i) c ↔ openP M SN PS.length c := fun c => by
        unfold needB
        rw [if_neg (Nat.lt_irrefl _)]
      rw [show gs.all id = decB (RowOk n p E PS (openP M SN) q0 i b (PS.length - i + 1) false) from Bool.eq_iff_iff.mpr (ag.trans ⟨fun z => decB_true.mpr ⟨⟨rfl, fun k hk c cn w => by
          rcases Nat.lt_or_ge k (PS.length - i) with y | y
          · exact z.2 k (by omega) c cn w
          · have : k = PS.length - i := by omega
            subst this
            exact z.1 c cn ((last c).1 w)⟩, qb⟩, fun z => ⟨fun c cn o => (decB_true.mp z).1.2 _ (by omega) c cn ((last c).2 o), fun k hk => (decB_true.mp z).1.2 k (by omega)⟩⟩)]
      exact h H4 (s02.trans s4)
theorem ok_rightL (T : Tx K mg) : Has P w K mg base (He.ga K "_law_paper_right") 3 ["_law_spans_here", "_law_story_here", "_law_beat", "_law_place", "_law_shown"] (spRightL K) := by
  obtain ⟨fd, F⟩ := T.d__law_paper_right
  exact ⟨⟨fd, okf_rightL T F, F.bindsN fun _ _ _ _ _ _ us hl => match us, hl with | [_, _, _, _, _], _ => rfl⟩, F.kp⟩
def spRightW (K : PySem.W.Frag) : Sp := fun vs H Q _ => ∃ (c D s t l : Addr) (n i b : Nat) (rs : List Addr) (M : Nat → Nat → Nat) (E : List (Nat × Nat)) (p : Nat → Prop) (PS : List (Addr × List Nat)) (SN : List (Addr × V × Triple)) (zs : List Int), vs = [.ref D, .ref s, vI i, vI b, .ref t] ∧ n ≤ 8 ∧ TabAt c H D n rs M ∧ Spans n E M ∧ StoryAt n H s p PS SN ∧ i ≤ PS.length ∧ b < n ∧ H t = some (.tup [.str "walk", .ref l]) ∧ H l = some (.tup (zs.map V.int)) ∧ zs.length ≤ 60 ∧ ∀ H', Same H H' → Q (.bl (decB (WalkOk n p E PS (openP M SN) i b zs))) H'
theorem okf_rightW (T : Tx K mg) {fd : FuncData} (F : FnP K "_law_paper_right" "_law_paper_right" s__law_paper_right [] (He.ga K "_law_paper_right") fd) : FnOk P w K mg base CX0 3 (He.ga K "_law_paper_right") fd ["_law_spans_here", "_law_story_here", "_law_beat", "_law_place", "_law_shown"] (spRightW K) := by
  obtain ⟨⟨fd_law_open, F_law_open, b_law_open⟩, kp_law_open⟩ := ok_open (P := P) (w := w) (base := base) T
  obtain ⟨⟨fd_law_fit, F_law_fit, b_law_fit⟩, kp_law_fit⟩ := ok_lfit (P := P) (w := w) (base := base) T
  obtain ⟨⟨fd_law_reached, F_law_reached, b_law_reached⟩, kp_law_reached⟩ := ok_reached (P := P) (w := w) (base := base) T
  obtain ⟨⟨fd_law_into, F_law_into, b_law_into⟩, kp_law_into⟩ := ok_into (P := P) (w := w) (base := base) T
  refine F.ok sc__law_paper_right (fun vs H Q E h => ?_) (fun cdv A outer s H vs Q E hr h => ?_)
  · obtain ⟨c, D, s, t, l, n, i, b, rs, M, E, p, PS, SN, zs, rfl, _⟩ := h
    rfl
  · obtain ⟨c, D, sa, t, l, n, i, b, rs, M, E, p, PS, SN, zs, rfl, n8, TA, S, SA, hi, bn, ht, htw, lz, h⟩ := h
    have hr_law_open : Room 2 _ := hr.mono (by decide)
    have hr_law_fit : Room 2 _ := hr.mono (by decide)
    have hr_law_reached : Room 1 _ := hr.mono (by decide)
    have hr_law_into : Room 1 _ := hr.mono (by decide)
    refine ⟨_, PSs.nox (pss_cons (ps_asg (pv 4) (pgT (K := K) (n := 2) rfl (pgs_cons (pg_name (i := 5) sc__law_paper_right.nd rfl (Or.inl rfl)) (pgs_cons (pg_name (i := 6) sc__law_paper_right.nd rfl (Or.inr rfl)) pgs_nil))))
      (pss_cons (ps_asg (pe_tup (pa_cons (pe_call F_law_open hr_law_open rfl T.glo_law_open kp_law_open b_law_open .nil pass0 (pa_cons (pv 0) (pa_cons (pv 1) pa_nil))) (pa_cons (pe_callB (lenK (K := K)) (by rfl) T.free_len (by decide +kernel) (pa_cons (pe_ix (ixT (K := K)) (pv 1) pe_int (fun _ _ => rfl)) pa_nil)) pa_nil))) (pgT (K := K) (n := 2) rfl (pgs_cons (pg_name (i := 7) sc__law_paper_right.nd rfl (Or.inr rfl)) (pgs_cons (pg_name (i := 8) sc__law_paper_right.nd rfl (Or.inl rfl)) pgs_nil))))
      (pss_cons (ps_if (pt_cmpR op_eq (pv 5) pe_str (nomark _)) (pss_one (ps_ret (pe_and (pe_call F_law_fit hr_law_fit rfl T.glo_law_fit kp_law_fit b_law_fit .nil pass0 (pa_cons (pv 0) (pa_cons (pv 1) (pa_cons (pv 6) pa_nil)))) (pe_one (pe_cmpR op_eq (pe_ix (ixT (K := K)) (pv 6) (pv 2) (fun _ _ => rfl)) (pv 3) (nomark _)))))) pss_nil)
      (pss_cons (ps_if (pt_cmpR op_eq (pv 5) pe_str (nomark _)) (pss_cons (ps_if (PW.pt (pw_or (pt_cmpR op_ne (pe_callB (lenK (K := K)) (by rfl) T.free_len (by decide +kernel) (pa_cons (pv 6) pa_nil)) (pe_op op_add (pv 2) pe_int) (nomark _)) (pw_or1 (pt_cmpR (inSq (K := K)) (pv 3) (pe_ix (ixL (K := K)) (pv 6) (pe_un un_neg pe_int) (fun _ _ => rfl)) (by rfl))))) (pss_one (ps_ret pe_bl)) pss_nil)
      (pss_cons (ps_setLc (i := 9) (own := [("_law_one", 13)]) (g := (gName 13)) rfl sc__law_paper_right.nd rfl rfl (sw_true rfl rfl rfl (by decide +kernel)) (piT (K := K) (pe_ix (ixT (K := K)) (pv 1) pe_int (fun _ _ => rfl))) (blkOk_by (by kernel_rfl)) (fun _ _ _ _ _ => (pg_name (i := 13) sc__law_paper_right.nd rfl (Or.inl rfl))) (fun _ _ _ _ _ => (pts_one (pt_cmpR (inSq (K := K)) (pv 13) (pe_ix (ixL (K := K)) (pv 7) pe_int (fun _ _ => rfl)) (by rfl)))) (fun _ _ _ _ _ => (pe_cmpR (inSq (K := K)) (pv 13) (pe_ix (ixL (K := K)) (pv 6) pe_int (fun _ _ => rfl)) (by rfl))))
      (pss_cons (ps_for PassesOwn.never rfl (pi_range1 (by rfl) T.free_range (pa_cons (pv 2) pa_nil)) (pg_name (i := 10) sc__law_paper_right.nd rfl (Or.inr rfl)) (pss_cons (ps_set (i := 11) sc__law_paper_right.nd rfl (Or.inl rfl) (pe_call F_law_reached hr_law_reached rfl T.glo_law_reached kp_law_reached b_law_reached .nil pass0 (pa_cons (pv 0) (pa_cons (pe_ix (ixT (K := K)) (pe_ix (ixT (K := K)) (pv 1) pe_int (fun _ _ => rfl)) (pv 10) (fun _ _ => rfl)) (pa_cons (pe_ix (ixL (K := K)) (pv 6) (pv 10) (fun _ _ => rfl)) pa_nil)))))
      (pss_one (ps_set (i := 9) sc__law_paper_right.nd rfl (Or.inl rfl) (pe_op op_cat (pv 9) (pe_lc (own := [("_law_to", 14)]) (g := (gName 14)) rfl sc__law_paper_right.nd (piT (K := K) (pv 11)) (blkOk_by (by kernel_rfl)) (fun _ _ _ _ _ => (pg_name (i := 14) sc__law_paper_right.nd rfl (Or.inl rfl))) (fun _ _ _ _ _ => (pts_one (pt_cmpR (inSq (K := K)) (pv 14) (pe_ix (ixL (K := K)) (pv 7) (pe_op op_add (pv 10) pe_int) (fun _ _ => rfl)) (by rfl)))) (fun _ _ _ _ _ => (pe_cmpR (inSq (K := K)) (pv 14) (pe_ix (ixL (K := K)) (pv 6) (pe_op op_add (pv 10) pe_int) (fun _ _ => rfl)) (by rfl)))))))))
      (pss_one (ps_ret (pe_callB (allK (K := K)) (by rfl) T.free_all (by decide +kernel) (pa_cons (pv 9) pa_nil))))))) pss_nil)
      (pss_cons (ps_if (PW.pt (pw_or (pt_cmpR op_ne (pe_callB (lenK (K := K)) (by rfl) T.free_len (by decide +kernel) (pa_cons (pv 6) pa_nil)) (pe_op op_sub (pe_op op_add (pv 8) pe_int) (pv 2)) (nomark _)) (pw_or1 (pt_cmpR (inSq (K := K)) (pv 3) (pe_ix (ixL (K := K)) (pv 6) pe_int (fun _ _ => rfl)) (by rfl))))) (pss_one (ps_ret pe_bl)) pss_nil)
      (pss_cons (ps_setLc (i := 9) (own := [("_law_one", 13)]) (g := (gName 13)) (tt := tYes) rfl sc__law_paper_right.nd rfl rfl (sw_true rfl rfl rfl (by decide +kernel)) (piT (K := K) (pe_ix (ixL (K := K)) (pv 7) (pv 8) (fun _ _ => rfl))) (blkOk_by (by kernel_rfl)) (fun _ _ _ _ _ => (pg_name (i := 13) sc__law_paper_right.nd rfl (Or.inl rfl))) (fun _ _ _ _ _ => pts_nil) (fun _ _ _ _ _ => (pe_cmpR (inSq (K := K)) (pv 13) (pe_ix (ixL (K := K)) (pv 6) (pe_un un_neg pe_int) (fun _ _ => rfl)) (by rfl))))
      (pss_cons (ps_for PassesOwn.never rfl (pi_range2 (by rfl) T.free_range (pa_cons (pv 2) (pa_cons (pv 8) pa_nil))) (pg_name (i := 10) sc__law_paper_right.nd rfl (Or.inr rfl)) (pss_cons (ps_set (i := 12) sc__law_paper_right.nd rfl (Or.inl rfl) (pe_call F_law_into hr_law_into rfl T.glo_law_into kp_law_into b_law_into .nil pass0 (pa_cons (pv 0) (pa_cons (pe_ix (ixT (K := K)) (pe_ix (ixT (K := K)) (pv 1) pe_int (fun _ _ => rfl)) (pv 10) (fun _ _ => rfl)) (pa_cons (pe_ix (ixL (K := K)) (pv 6) (pe_op op_sub (pe_op op_add (pv 10) pe_int) (pv 2)) (fun _ _ => rfl)) pa_nil)))))
      (pss_one (ps_set (i := 9) sc__law_paper_right.nd rfl (Or.inl rfl) (pe_op op_cat (pv 9) (pe_lc (own := [("_law_one", 13)]) (g := (gName 13)) rfl sc__law_paper_right.nd (piT (K := K) (pv 12)) (blkOk_by (by kernel_rfl)) (fun _ _ _ _ _ => (pg_name (i := 13) sc__law_paper_right.nd rfl (Or.inl rfl))) (fun _ _ _ _ _ => (pts_one (pt_cmpR (inSq (K := K)) (pv 13) (pe_ix (ixL (K := K)) (pv 7) (pv 10) (fun _ _ => rfl)) (by rfl)))) (fun _ _ _ _ _ => (pe_cmpR (inSq (K := K)) (pv 13) (pe_ix (ixL (K := K)) (pv 6) (pe_op op_sub (pv 10) (pv 2)) (fun _ _ => rfl)) (by rfl)))))))))
      (pss_one (ps_ret (pe_callB (allK (K := K)) (by rfl) T.free_all (by decide +kernel) (pa_cons (pv 9) pa_nil))))))))))), ?_⟩
    refine ⟨_, rfl, t, _, rfl, SqT.of ht, rfl, _, _, rfl, _, _, rfl, rfl, ?_⟩
    obtain ⟨tl, tp, ts, hsa, htl, htp, hts⟩ := SA.ex
    have lp := SA.lp
    refine ⟨_, rfl, _, rfl, c, D, sa, n, rs, M, p, PS, SN, rfl, n8, TA, SA, fun H1 op LO _ s1 => ?_⟩
    refine ⟨_, rfl, sa, _, 1, _, rfl, rfl, SqT.of (s1 _ _ hsa), rfl, tp, _, rfl, .inr (SqT.of (s1 _ _ htp)), (by show 2 ≤ sizeLine; decide), fun o ho => ?_⟩
    have s2 := same_upd (o := HO.tup [.ref op, V.int (((PS.map fun q => V.ref q.1).length : Nat) : Int)]) ho
    have h2 : (upd H1 o (.tup [.ref op, V.int (((PS.map fun q => V.ref q.1).length : Nat) : Int)])) o = some (.tup [.ref op, vI PS.length]) := by
      rw [upd_same, List.length_map]
      rfl
    generalize upd H1 o (.tup [.ref op, V.int (((PS.map fun q => V.ref q.1).length : Nat) : Int)]) = H2 at s2 h2
    refine ⟨o, _, rfl, SqT.of h2, rfl, _, _, rfl, _, _, rfl, rfl, ?_⟩
    have s02 := s1.trans s2
    have LO := LO.same s2
    have TA := TA.same s02
    have SA := SA.same s02
    have hsa := s02 _ _ hsa
    have htl := s02 _ _ htl
    have htp := s02 _ _ htp
    obtain ⟨os, hos, los, eos⟩ := LO.ex
    clear s1 s2 h2 ho hts
    refine ⟨_, rfl, rfl, _, rfl, iteT ?_⟩
    refine ⟨_, rfl, _, rfl, _, rfl, c, D, sa, l, n, rs, E, M, p, PS, SN, zs, rfl, n8, TA, S, SA, s02 _ _ htw, by omega, fun H3 s3 => ?_⟩
    have s03 := s02.trans s3
    by_cases fz : FitZ n PS.length p (stepR E PS) (openP M SN) zs
    · rw [decB_true.mpr fz]
      refine ⟨_, rfl, iteT ?_⟩
      obtain ⟨ws, rfl, fw⟩ := id fz
      have lw := fw.len
      have ew : ws[i]? = some (ws[i]'(by omega)) := List.getElem?_eq_getElem _
      generalize ws[i]'(by omega) = w0 at ew
      have ez : (ws.map nI)[i]? = some (nI w0) := get_map ew
      refine ⟨_, rfl, _, rfl, l, _, _, _, rfl, rfl, SqT.of (s03 _ _ htw), atI_nat (get_map ez), _, rfl, rfl, ?_⟩
      have := h H3 s03
      rw [walk_is fz ez] at this
      exact this
    · rw [show decB (FitZ n PS.length p (stepR E PS) (openP M SN) zs) = false from Bool.eq_false_iff.mpr fun z => fz (decB_true.mp z)]
      have := h H3 s03
      rw [walk_not fz] at this
      exact ⟨_, rfl, iteF this⟩
theorem ok_rightW (T : Tx K mg) : Has P w K mg base (He.ga K "_law_paper_right") 3 ["_law_spans_here", "_law_story_here", "_law_beat", "_law_place", "_law_shown"] (spRightW K) := by
  obtain ⟨fd, F⟩ := T.d__law_paper_right
  exact ⟨⟨fd, okf_rightW T F, F.bindsN fun _ _ _ _ _ _ us hl => match us, hl with | [_, _, _, _, _], _ => rfl⟩, F.kp⟩
/-- a paper is right or not, of lots or of a walk -/
def spRightU (K : PySem.W.Frag) : Sp := fun vs H Q E => spRightL K vs H Q E ∨ spRightW K vs H Q E
theorem ok_rightU (T : Tx K mg) : Has P w K mg base (He.ga K "_law_paper_right") 3 ["_law_spans_here", "_law_story_here", "_law_beat", "_law_place", "_law_shown"] (spRightU K) := by
  obtain ⟨fd, F⟩ := T.d__law_paper_right
  have A := okf_rightL (P := P) (w := w) (base := base) T F
  have B := okf_rightW (P := P) (w := w) (base := base) T F
  exact ⟨⟨fd, ⟨fun vs H Q E h => h.elim (A.len vs H Q E) (B.len vs H Q E), fun A0 outer s H args us vs Q E r e b v h => h.elim (A.run A0 outer s H args us vs Q E r e b v) (B.run A0 outer s H args us vs Q E r e b v)⟩, F.bindsN fun _ _ _ _ _ _ us hl => match us, hl with | [_, _, _, _, _], _ => rfl⟩, F.kp⟩
end
end RL
/-! a paper of any lots or any walk, judged by the law -/
namespace RL
open PySem PySem.Spec PyProof.Rows L2 RLM
section
variable {P : Program} {w : World} {K : PySem.W.Frag} {mg : Str → Option Value} {base : Heap}
theorem sc__law_judged_so : FnScope ["_law_spans_here", "_law_story_here", "_law_beat", "_law_place", "_law_shown"] ["_law_spans_here", "_law_story_here", "_law_beat", "_law_place", "_law_shown"] (defScope s__law_judged_so) := ⟨rfl, rfl, rfl, by decide +kernel, rfl, by decide +kernel, by decide +kernel⟩
theorem ok_judged (T : Tx K mg) : Has P w K mg base (He.ga K "_law_judged_so") 4 ["_law_spans_here", "_law_story_here", "_law_beat", "_law_place", "_law_shown"] (spRightU K) := by
  obtain ⟨⟨fd_law_paper_right, F_law_paper_right, b_law_paper_right⟩, kp_law_paper_right⟩ := ok_rightU (P := P) (w := w) (base := base) T
  obtain ⟨fd, F⟩ := T.d__law_judged_so
  refine ⟨⟨fd, F.ok sc__law_judged_so (fun vs H Q E h => ?_) (fun cdv A outer s H vs Q E hr h => ?_), F.bindsN fun _ _ _ _ _ _ us hl => match us, hl with | [_, _, _, _, _], _ => rfl⟩, F.kp⟩
  · rcases h with ⟨c, D, s, t, l, n, i, b, m, rs, M, E, p, PS, SN, q, aw, rfl, _⟩ | ⟨c, D, s, t, l, n, i, b, rs, M, E, p, PS, SN, zs, rfl, _⟩ <;> rfl
  · have hr_law_paper_right : Room 3 _ := hr.mono (by decide)
    refine ⟨_, PSs.nox (pss_cons (ps_if (PW.pt (pw_and (pt_cmpR op_eq (pe_ix (ixT (K := K)) (pv 4) pe_int (fun _ _ => rfl)) pe_str (nomark _)) (pw_and1 (pt_cmpR op_le (pe_callB (lenK (K := K)) (by rfl) T.free_len (by decide +kernel) (pa_cons (pe_ix (ixT (K := K)) (pv 4) pe_int (fun _ _ => rfl)) pa_nil)) (pv 2) (nomark _))))) (pss_one (ps_ret pe_bl)) pss_nil)
      (pss_one (ps_ret (pe_call F_law_paper_right hr_law_paper_right rfl T.glo_law_paper_right kp_law_paper_right b_law_paper_right .nil pass0 (pa_cons (pv 0) (pa_cons (pv 1) (pa_cons (pv 2) (pa_cons (pv 3) (pa_cons (pv 4) pa_nil))))))))), ?_⟩
    rcases h with ⟨c, D, sa, t, l, n, i, b, m, rs, M, Ed, p, PS, SN, q, aw, rfl, n8, TA, S, SA, hi, bn, ht, LF, m1, m100, h⟩ | ⟨c, D, sa, t, l, n, i, b, rs, M, Ed, p, PS, SN, zs, rfl, n8, TA, S, SA, hi, bn, ht, htw, lz, h⟩
    · have nw : ¬ V.str (if aw = true then "ahead" else "behind") = V.str "walk" := by cases aw <;> exact fun e => absurd (V.str.inj e) (by decide)
      refine ⟨_, rfl, t, _, 0, _, rfl, rfl, SqT.of ht, rfl, rfl, _, rfl, ?_⟩
      rw [decide_eq_false nw]
      refine iteF ?_
      exact ⟨_, rfl, _, rfl, _, rfl, _, rfl, _, rfl, .inl ⟨c, D, sa, t, l, n, i, b, m, rs, M, Ed, p, PS, SN, q, aw, rfl, n8, TA, S, SA, hi, bn, ht, LF, m1, m100, h⟩⟩
    · refine ⟨_, rfl, t, _, 0, _, rfl, rfl, SqT.of ht, rfl, rfl, _, rfl, iteT ?_⟩
      refine ⟨_, rfl, t, _, 1, _, rfl, rfl, SqT.of ht, rfl, l, _, rfl, .inr (SqT.of htw), _, rfl, _, _, rfl, rfl, _, rfl, ?_⟩
      rw [List.length_map]
      refine ite2 (fun z => ?_) (fun z => ?_)
      · have zl : zs.length ≤ i := by
          have := of_decide_eq_true z
          omega
        have := h H (Same.refl H)
        rw [walk_not fun ⟨ws, e, fw⟩ => by
          have := fw.len
          rw [e, List.length_map] at zl
          omega] at this
        exact this
      · exact ⟨_, rfl, _, rfl, _, rfl, _, rfl, _, rfl, .inr ⟨c, D, sa, t, l, n, i, b, rs, M, Ed, p, PS, SN, zs, rfl, n8, TA, S, SA, hi, bn, ht, htw, lz, h⟩⟩
end
end RL
/-! rows of lots bent -/
namespace RL
open PySem PySem.Spec PyProof.Rows L2 RLM
abbrev SB (b l : Addr) (n at_ pl : Nat) (ul : Addr) (hw : Nat) : L2.St := [some (.ref b), some (.ref l), some (vI n), some (vI at_), some (vI pl), some (.ref ul), some (vI hw), none]
theorem cut_toB (k : Nat) {xs : List V} : cutV xs none (some (k : Int)) = xs.take k := by
  unfold cutV
  rw [HT.sIx_nat]
  show (xs.drop 0).take (min k xs.length - 0) = _
  rw [List.drop_zero, Nat.sub_zero]
  rcases Nat.le_total k xs.length with h | h
  · rw [Nat.min_eq_left h]
  · rw [Nat.min_eq_right h, List.take_of_length_le (Nat.le_refl _), List.take_of_length_le h]
theorem cut_fromB (k : Nat) {xs : List V} : cutV xs (some (k : Int)) none = xs.drop k := by
  unfold cutV
  rw [HT.sIx_nat]
  show (xs.drop (min k xs.length)).take (xs.length - min k xs.length) = _
  rcases Nat.le_total k xs.length with h | h
  · rw [Nat.min_eq_left h, List.take_of_length_le (by rw [List.length_drop]; omega)]
  · rw [Nat.min_eq_right h, List.drop_of_length_le h, List.drop_of_length_le (Nat.le_refl _)]
    simp
/-- each of a row is a lot -/
def RowAll (n : Nat) (H : Hp) (us : List Addr) : Prop := ∀ u ∈ us, ∃ r : Nat → Prop, H u = some (.tup ((lotP n r).map vI))
theorem RowAll.keep {n : Nat} {c : Addr} {H H' : Hp} {us : List Addr} (k : Kc c H H') (hc : ∃ ys, H c = some (.lst ys)) (h : RowAll n H us) : RowAll n H' us := fun u hu => (h u hu).imp fun r e => k.tup hc e
theorem lots_ofB {n : Nat} {H : Hp} {l : Addr} {us : List Addr} (hl : H l = some (.lst (us.map V.ref))) (h : RowAll n H us) : ∃ q, LotsAt n H l us.length q := by
  classical
  refine ⟨fun j => if hj : j < us.length then (h _ (List.getElem_mem hj)).choose else fun _ => False, ⟨us, hl, rfl, fun j u e => ?_⟩⟩
  obtain ⟨hj, eu⟩ := List.getElem?_eq_some_iff.mp e
  subst eu
  rw [dif_pos hj]
  exact (h _ (List.getElem_mem hj)).choose_spec
section
variable {P : Program} {w : World} {K : PySem.W.Frag} {mg : Str → Option Value} {base : Heap}
def spBentLots : Sp := fun vs H Q _ => ∃ (b c l : Addr) (n m : Nat) (q : Nat → Nat → Prop), vs = [.ref b, .ref l, vI n] ∧ Box b c H ∧ LotsAt n H l m q ∧ l ≠ c ∧ 1 ≤ m ∧ m ≤ 60 ∧ 1 ≤ n ∧ n ≤ 8 ∧ ∀ H' l' m' q', Kc c H H' → Box b c H' → LotsAt n H' l' m' q' → l' ≠ c → 1 ≤ m' → m' ≤ m + 1 → Q (.ref l') H'
theorem sc__law_bent_lots : FnScope ["_law_box_here", "_law_lots", "_law_many", "_law_at", "_law_place", "_law_lot_here", "_law_how", "_law_one"] ["_law_box_here", "_law_lots", "_law_many"] (defScope s__law_bent_lots) := ⟨rfl, rfl, rfl, by decide +kernel, rfl, by decide +kernel, by decide +kernel⟩
theorem ok_bentLots (T : Tx K mg) : Has P w K mg base (He.ga K "_law_bent_lots") 3 ["_law_box_here", "_law_lots", "_law_many"] spBentLots := by
  obtain ⟨⟨fd_law_pick, F_law_pick, b_law_pick⟩, kp_law_pick⟩ := ok_pick (P := P) (w := w) (base := base) T
  obtain ⟨⟨fd_law_from, F_law_from, b_law_from⟩, kp_law_from⟩ := ok_from (P := P) (w := w) (base := base) T
  obtain ⟨fd, F⟩ := T.d__law_bent_lots
  refine ⟨⟨fd, F.ok sc__law_bent_lots (fun vs H Q E h => ?_) (fun cdv A outer s H vs Q E hr h => ?_), F.bindsN fun _ _ _ _ _ _ us hl => match us, hl with | [_, _, _], _ => rfl⟩, F.kp⟩
  · obtain ⟨b, c, l, n, m, q, rfl, _⟩ := h
    rfl
  · obtain ⟨b, c, l, n, m, q, rfl, B, LA, lc, m1, m60, n1, n8, h⟩ := h
    have hr_law_pick : Room 1 _ := hr.mono (by decide)
    have hr_law_from : Room 2 _ := hr.mono (by decide)
    refine ⟨_, PSs.nox (pss_cons (ps_asg (pe_tup (pa_cons (pe_call F_law_pick hr_law_pick rfl T.glo_law_pick kp_law_pick b_law_pick .nil pass0 (pa_cons (pv 0) (pa_cons (pe_callB (lenK (K := K)) (by rfl) T.free_len (by decide +kernel) (pa_cons (pv 1) pa_nil)) pa_nil))) (pa_cons (pe_call F_law_pick hr_law_pick rfl T.glo_law_pick kp_law_pick b_law_pick .nil pass0 (pa_cons (pv 0) (pa_cons (pv 2) pa_nil))) pa_nil))) (pgT (K := K) (n := 2) rfl (pgs_cons (pg_name (i := 3) sc__law_bent_lots.nd rfl (Or.inl rfl)) (pgs_cons (pg_name (i := 4) sc__law_bent_lots.nd rfl (Or.inr rfl)) pgs_nil))))
      (pss_cons (ps_par (i := 5) (j := 6) rfl sc__law_bent_lots.nd rfl rfl (by decide) rfl rfl (pa_cons (pe_ix (ixL (K := K)) (pv 1) (pv 3) (fun _ _ => rfl)) (pa_cons (pe_call F_law_pick hr_law_pick rfl T.glo_law_pick kp_law_pick b_law_pick .nil pass0 (pa_cons (pv 0) (pa_cons pe_int pa_nil))) pa_nil)) (by rfl))
      (C8.pss_cut (ps_if (pt_cmpR op_lt (pv 6) pe_int (nomark _)) (pss_one (ps_set (i := 5) sc__law_bent_lots.nd rfl (Or.inl rfl) (pe_callTy (tupK (K := K)) (by rfl) T.free_tuple (by decide +kernel) (pa_cons (pe_lc (own := [("_law_one", 7)]) (g := (gName 7)) rfl sc__law_bent_lots.nd (piT (K := K) (pv 5)) (blkOk_by (by kernel_rfl)) (fun _ _ _ _ _ => (pg_name (i := 7) sc__law_bent_lots.nd rfl (Or.inl rfl))) (fun _ _ _ _ _ => (pts_one (pt_cmpR op_ne (pv 7) (pv 4) (nomark _)))) (fun _ _ _ _ _ => (pv 7))) pa_nil)))) pss_nil)
      (C8.pss_cut (ps_if (pt_cmpR (inSq (K := K)) (pv 6) (pe_tup (pa_cons pe_int (pa_cons pe_int pa_nil))) (by rfl)) (pss_one (ps_set (i := 5) sc__law_bent_lots.nd rfl (Or.inl rfl) (pe_callTy (tupK (K := K)) (by rfl) T.free_tuple (by decide +kernel) (pa_cons (pe_callB (sortS (w := w)) (by rfl) T.free_sorted (by decide +kernel) (pa_cons (pe_callTy (setTK (K := K) (w := w)) (by rfl) T.free_set (by decide +kernel) (pa_cons (pe_op catS (pv 5) (pe_tup (pa_cons (pv 4) pa_nil))) pa_nil)) pa_nil)) pa_nil)))) pss_nil)
      (C8.pss_cut (ps_if (pt_cmpR op_eq (pv 6) pe_int (nomark _)) (pss_one (ps_set (i := 5) sc__law_bent_lots.nd rfl (Or.inl rfl) (pe_call F_law_from hr_law_from rfl T.glo_law_from kp_law_from b_law_from .nil pass0 (pa_cons (pv 0) (pa_cons (pe_lst (pa_cons (pe_tup pa_nil) (pa_cons (pe_tupRg rfl (by rfl) T.free_tuple (prg_1 (by rfl) T.free_range (pv 2))) pa_nil))) pa_nil))))) pss_nil)
      (pss_cons (ps_if (pt_cmpR op_eq (pv 6) pe_int (nomark _)) (pss_one (ps_ret (pe_ifExp (pt_cmpR op_gt (pe_callB (lenK (K := K)) (by rfl) T.free_len (by decide +kernel) (pa_cons (pv 1) pa_nil)) pe_int (nomark _)) (pe_op op_cat (pe_slice (slL (K := K)) (pv 1) po_none (po_some (pv 3))) (pe_slice (slL (K := K)) (pv 1) (po_some (pe_op op_add (pv 3) pe_int)) po_none)) (pv 1)))) pss_nil)
      (pss_one (ps_ret (pe_op op_cat (pe_op op_cat (pe_slice (slL (K := K)) (pv 1) po_none (po_some (pv 3))) (pe_op op_rep (pe_lst (pa_cons (pv 5) pa_nil)) (pe_op op_add pe_int (pe_callTy call_int1 (by rfl) T.free_int (by decide +kernel) (pa_cons (pe_cmpR op_eq (pv 6) pe_int (nomark _)) pa_nil))))) (pe_slice (slL (K := K)) (pv 1) (po_some (pe_op op_add (pv 3) pe_int)) po_none)))))))))), ?_⟩
    obtain ⟨us, hus, lus, eus⟩ := LA.ex
    have row0 : RowAll n H us := fun u hu => by
      obtain ⟨j, hj, e⟩ := List.getElem_of_mem hu
      exact ⟨_, eus j u (by rw [List.getElem?_eq_getElem hj, e])⟩
    refine ⟨_, rfl, _, rfl, l, _, rfl, .inl (SqL.of hus), b, c, _, rfl, B, ?_⟩
    rw [List.length_map, lus]
    refine ⟨by omega, by omega, fun H1 y k1 B1 y0 y1 => ?_⟩
    obtain ⟨at_, rfl⟩ := Int.eq_ofNat_of_zero_le y0
    refine ⟨_, rfl, _, rfl, b, c, _, rfl, B1, by omega, by omega, fun H2 y2 k2 B2 z0 z1 => ⟨(by show 2 ≤ sizeLine; decide), fun o ho => ⟨o, _, rfl, SqT.of upd_same, rfl, _, _, rfl, _, _, rfl, rfl, ?_⟩⟩⟩
    obtain ⟨pl, rfl⟩ := Int.eq_ofNat_of_zero_le z0
    have s3 := same_upd (o := HO.tup [V.int ((at_ : Nat) : Int), V.int ((pl : Nat) : Int)]) ho
    have k3 := (k1.trans k2).trans (kc_same s3)
    have B3 := B2.same s3
    generalize L2.upd H2 o (.tup [V.int ((at_ : Nat) : Int), V.int ((pl : Nat) : Int)]) = H3 at k3 B3
    clear s3 ho k1 k2 B1 B2
    have hus3 := k3 _ _ lc (fun _ z => by cases z) hus
    have hu : us[at_]? = some (us[at_]'(by omega)) := List.getElem?_eq_getElem _
    have hum : us[at_]'(by omega) ∈ us := List.getElem_mem _
    generalize us[at_]'(by omega) = u at hu hum
    obtain ⟨r0, hr0⟩ := row0 u hum
    refine ⟨_, rfl, _, rfl, l, _, _, _, rfl, rfl, SqL.of hus3, atI_nat (get_map hu), _, rfl, b, c, 7, rfl, B3, by decide, by decide, fun H4 y3 k4 B4 w0 w1 => ⟨_, _, rfl, ?_⟩⟩
    obtain ⟨hw, rfl⟩ := Int.eq_ofNat_of_zero_le w0
    have k34 := k3.trans k4
    have hu4 := k34.tup B.lst hr0
    -- what the lot comes to
    refine ⟨fun σ H' => ∃ (r : Nat → Prop) (ul : Addr), σ = SB b l n at_ pl ul hw ∧ H' ul = some (.tup ((lotP n r).map vI)) ∧ Kc c H H' ∧ Box b c H', ?_, ?_⟩
    · refine ⟨_, rfl, _, _, rfl, rfl, _, rfl, ?_⟩
      refine ite2 (fun z => ?_) (fun z => ⟨r0, u, rfl, hu4, k34, B4⟩)
      refine ⟨_, rfl, u, rfl, ⟨_, SqT.of hu4⟩, fun D hD => ?_⟩
      have lr := lotP_len n r0
      refine lc_filt (walk_tup (K := K) (a := u) (xs := (lotP n r0).map vI)) (lotP n r0) (fun x => !decide (vI x = vI pl)) (by simp) (by rw [List.length_map]; omega) hD (fun H5 s5 => SqT.of (s5 _ _ hu4)) ?_ ?_
      · rintro i x y5 H5 H6 N1 N0 hx s5 ⟨rfl, ey⟩ k1 k0
        obtain ⟨x', hx', rfl⟩ := get_vI ey
        rw [hx] at hx'
        cases hx'
        refine ⟨rfl, _, rfl, _, rfl, rfl, _, rfl, ?_⟩
        refine ite2 (fun z => ⟨_, rfl, k1 _ z (Same.refl _)⟩) (fun z => k0 _ (Bool.eq_false_iff.mpr z) (Same.refl _))
      · intro H5 h5 s5
        refine ⟨D, _, rfl, .inl ⟨SqL.of h5, fun t ht => ⟨fun x => r0 x ∧ x ≠ pl, t, rfl, ?_, k34.trans (kc_same (s5.trans (same_upd ht))), B4.same (s5.trans (same_upd ht))⟩⟩⟩
        rw [upd_same, filter_lot (p := fun x => r0 x ∧ x ≠ pl) (lotP_sorted n r0) fun x => ?_]
        rw [mem_lotP, Bool.not_eq_true', decide_eq_false_iff_not]
        constructor
        · rintro ⟨⟨h1, h2⟩, h3⟩
          exact ⟨h1, h2, fun e => h3 (by rw [e])⟩
        · rintro ⟨h1, h2, h3⟩
          exact ⟨⟨h1, h2⟩, fun e => h3 (by have := V.int.inj e; omega)⟩
    rintro σ H5 ⟨r1, u1, rfl, hu5, k5, B5⟩
    clear hu4 k34 B4 k4 hr0 hum
    refine ⟨fun σ H' => ∃ (r : Nat → Prop) (ul : Addr), σ = SB b l n at_ pl ul hw ∧ H' ul = some (.tup ((lotP n r).map vI)) ∧ Kc c H H' ∧ Box b c H', ?_, ?_⟩
    · refine ⟨_, rfl, (by show 2 ≤ sizeLine; decide), fun o ho => ?_⟩
      have s6 := same_upd (o := HO.tup [V.int 2, V.int 3]) ho
      refine ⟨o, _, rfl, .inr (SqT.of upd_same), rfl, flat_vI [2, 3], _, rfl, ?_⟩
      have hu6 := s6 _ _ hu5
      have k6 := k5.trans (kc_same s6)
      have B6 := B5.same s6
      generalize L2.upd H5 o (.tup [V.int 2, V.int 3]) = H6 at s6 hu6 k6 B6
      refine ite2 (fun z => ?_) (fun z => ⟨r1, u1, rfl, hu6, k6, B6⟩)
      refine ⟨_, rfl, _, rfl, (by show 1 ≤ sizeLine; decide), fun o1 ho1 => ?_⟩
      have s7 := same_upd (o := HO.tup [vI pl]) ho1
      have h7 : (L2.upd H6 o1 (.tup [vI pl])) o1 = some (.tup [vI pl]) := upd_same
      generalize L2.upd H6 o1 (.tup [vI pl]) = H7 at s7 h7
      have lr := lotP_len n r1
      refine ⟨u1, o1, _, _, rfl, rfl, s7 _ _ hu6, h7, ?_, fun q8 H8 h8 s8 => ?_⟩
      · rw [List.length_map]
        exact Nat.le_trans (show (lotP n r1).length + 1 ≤ 9 by omega) (by decide)
      have h8' : H8 q8 = some (.tup (((lotP n r1).map nI ++ [nI pl]).map V.int)) := by
        rw [h8, List.map_append, vI_map]
        rfl
      refine ⟨q8, (lotP n r1).map nI ++ [nI pl], rfl, SqT.of h8', by rw [List.length_append, List.length_map]; simp; omega, fun d cc hd hcc => ?_⟩
      refine ⟨d, _, cc, rfl, upd_same, by rw [List.length_append, List.length_map] at hcc; simp at hcc; omega, fun ns l2 p1 p2 p3 hl2 => ?_⟩
      have s9 := same_upd (o := SetO w d (fun j => decide (j ∈ (lotP n r1).map nI ++ [nI pl])) cc) hd
      have s10 := same_upd (o := HO.lst (ns.map V.int)) hl2
      refine ⟨l2, _, rfl, .inl ⟨SqL.of upd_same, fun t ht => ?_⟩⟩
      have s11 := same_upd (o := HO.tup (ns.map V.int)) ht
      have sall := (((s7.trans s8).trans s9).trans s10).trans s11
      refine ⟨fun x => r1 x ∨ x = pl, t, rfl, ?_, k6.trans (kc_same sall), B6.same sall⟩
      rw [upd_same, rise_lot (n := n) (p := fun x => r1 x ∨ x = pl) p1 fun k => ?_]
      rw [p2, decide_eq_true_iff, List.mem_append, List.mem_map, List.mem_singleton]
      constructor
      · rintro (⟨x, hx, rfl⟩ | rfl)
        · exact ⟨x, rfl, (mem_lotP.mp hx).1, .inl (mem_lotP.mp hx).2⟩
        · exact ⟨pl, rfl, by omega, .inr rfl⟩
      · rintro ⟨x, rfl, xn, hx | rfl⟩
        · exact .inl ⟨x, mem_lotP.mpr ⟨xn, hx⟩, rfl⟩
        · exact .inr rfl
    rintro σ H6 ⟨r2, u2, rfl, hu6, k6, B6⟩
    clear hu5 k5 B5
    refine ⟨fun σ H' => ∃ (r : Nat → Prop) (ul : Addr), σ = SB b l n at_ pl ul hw ∧ H' ul = some (.tup ((lotP n r).map vI)) ∧ Kc c H H' ∧ Box b c H', ?_, ?_⟩
    · refine ⟨_, rfl, rfl, _, rfl, ?_⟩
      refine ite2 (fun z => ?_) (fun z => ⟨r2, u2, rfl, hu6, k6, B6⟩)
      refine ⟨_, rfl, (by show 0 ≤ sizeLine; decide), fun oe hoe => ?_⟩
      have s7 := same_upd (o := HO.tup []) hoe
      have h7 : (L2.upd H6 oe (.tup [])) oe = some (.tup ((lotP n fun _ => False).map vI)) := by
        rw [upd_same, show lotP n (fun _ => False) = [] from (lotP_of List.Pairwise.nil fun b => by simp).symm]
        rfl
      generalize L2.upd H6 oe (.tup []) = H7 at s7 h7
      refine ⟨_, rfl, (n : Int), rfl, .of_le (by decide) (by omega) (by decide) (by omega), fun ow how => ?_⟩
      have s8 := same_upd (o := HO.tup (rgV 0 (n : Int))) how
      have h8 : (L2.upd H7 ow (.tup (rgV 0 (n : Int)))) ow = some (.tup ((lotP n fun _ => True).map vI)) := by rw [upd_same, rg_range, lotP_true]
      generalize L2.upd H7 ow (.tup (rgV 0 (n : Int))) = H8 at s8 h8
      refine ⟨(by show 2 ≤ sizeLine; decide), fun l2 hl2 => ?_⟩
      have s9 := same_upd (o := HO.lst [V.ref oe, V.ref ow]) hl2
      have B8 := B6.same (s7.trans s8)
      refine ⟨b, c, l2, _, rfl, B8.same s9, upd_same, (B8.new hl2).1, (by show 1 ≤ 2; decide), (by show 2 ≤ 1000; decide), fun H10 v k10 B10 hv => ?_⟩
      have kall := (k6.trans (kc_same ((s7.trans s8).trans s9))).trans k10
      have lst9 := (B8.same s9).lst
      simp only [List.mem_cons, List.not_mem_nil, or_false] at hv
      rcases hv with e | e <;> subst e
      · exact ⟨_, oe, rfl, k10.tup lst9 ((s8.trans s9) _ _ h7), kall, B10⟩
      · exact ⟨_, ow, rfl, k10.tup lst9 (s9 _ _ h8), kall, B10⟩
    rintro σ H7 ⟨r3, u3, rfl, hu7, k7, B7⟩
    clear hu6 k6 B6
    have hus7 := k7 _ _ lc (fun _ z => by cases z) hus
    have row7 := row0.keep k7 B.lst
    refine ⟨_, rfl, rfl, _, rfl, ?_⟩
    refine ite2 (fun z => ?_) (fun z => ?_)
    · refine ⟨_, rfl, l, _, rfl, .inl (SqL.of hus7), _, _, rfl, rfl, _, rfl, ?_⟩
      rw [List.length_map, lus]
      refine ite2 (fun z => ?_) (fun z => ⟨_, rfl, ?_⟩)
      · have m2 : 2 ≤ m := by
          have := of_decide_eq_true z
          omega
        refine ⟨_, rfl, _, rfl, _, rfl, l, _, rfl, SqL.of hus7, fun q8 hq8 => ?_⟩
        have s8 := same_upd (o := HO.lst (cutV (us.map V.ref) none (some ((at_ : Nat) : Int)))) hq8
        have h8 : (L2.upd H7 q8 (.lst (cutV (us.map V.ref) none (some ((at_ : Nat) : Int))))) q8 = some (.lst ((us.take at_).map V.ref)) := by rw [upd_same, cut_toB, List.map_take]
        refine ⟨_, rfl, _, rfl, _, _, rfl, rfl, _, rfl, l, _, rfl, SqL.of (s8 _ _ hus7), fun q9 hq9 => ?_⟩
        have s9 := same_upd (o := HO.lst (cutV (us.map V.ref) (some (((at_ : Nat) : Int) + 1)) none)) hq9
        have h9 : (L2.upd (L2.upd H7 q8 (.lst (cutV (us.map V.ref) none (some ((at_ : Nat) : Int))))) q9 (.lst (cutV (us.map V.ref) (some (((at_ : Nat) : Int) + 1)) none))) q9 = some (.lst ((us.drop (at_ + 1)).map V.ref)) := by
          rw [upd_same, show ((at_ : Nat) : Int) + 1 = ((at_ + 1 : Nat) : Int) from rfl, cut_fromB, List.map_drop]
        refine ⟨q8, q9, _, _, rfl, rfl, s9 _ _ h8, h9, ?_, fun l10 hl10 => ?_⟩
        · simp only [List.length_map, List.length_take, List.length_drop]
          exact Nat.le_trans (show min at_ us.length + (us.length - (at_ + 1)) ≤ 60 by omega) (by decide)
        have s10 := same_upd (o := HO.lst ((us.take at_).map V.ref ++ (us.drop (at_ + 1)).map V.ref)) hl10
        have sall := (s8.trans s9).trans s10
        obtain ⟨q', LA'⟩ := lots_ofB (n := n) (l := l10) (us := us.take at_ ++ us.drop (at_ + 1)) (H := L2.upd (L2.upd (L2.upd H7 q8 (.lst (cutV (us.map V.ref) none (some ((at_ : Nat) : Int))))) q9 (.lst (cutV (us.map V.ref) (some (((at_ : Nat) : Int) + 1)) none))) l10 (.lst ((us.take at_).map V.ref ++ (us.drop (at_ + 1)).map V.ref))) (by rw [upd_same, List.map_append]) (fun x hx => (row7 x ((List.mem_append.mp hx).elim List.mem_of_mem_take List.mem_of_mem_drop)).imp fun r e => sall _ _ e)
        refine h _ l10 _ q' (k7.trans (kc_same sall)) (B7.same sall) LA' ((B7.same (s8.trans s9)).new hl10).1 ?_ ?_
        · simp only [List.length_append, List.length_take, List.length_drop]
          omega
        · simp only [List.length_append, List.length_take, List.length_drop]
          omega
      · obtain ⟨q', LA'⟩ := lots_ofB hus7 row7
        exact h H7 l _ q' k7 B7 LA' lc (by omega) (by omega)
    · refine ⟨_, rfl, _, rfl, _, rfl, l, _, rfl, SqL.of hus7, fun q8 hq8 => ?_⟩
      have s8 := same_upd (o := HO.lst (cutV (us.map V.ref) none (some ((at_ : Nat) : Int)))) hq8
      have h8 : (L2.upd H7 q8 (.lst (cutV (us.map V.ref) none (some ((at_ : Nat) : Int))))) q8 = some (.lst ((us.take at_).map V.ref)) := by rw [upd_same, cut_toB, List.map_take]
      have B8 := B7.same s8
      generalize L2.upd H7 q8 (.lst (cutV (us.map V.ref) none (some ((at_ : Nat) : Int)))) = H8 at s8 h8 B8
      refine ⟨_, rfl, (by show 1 ≤ sizeLine; decide), fun q9 hq9 => ?_⟩
      have s9 := same_upd (o := HO.lst [V.ref u3]) hq9
      have h9 : (L2.upd H8 q9 (.lst [V.ref u3])) q9 = some (.lst [V.ref u3]) := upd_same
      have B9 := B8.same s9
      generalize L2.upd H8 q9 (.lst [V.ref u3]) = H9 at s9 h9 B9
      refine ⟨_, rfl, rfl, .inr ⟨_, rfl, _, _, rfl, rfl, ?_⟩⟩
      obtain ⟨kk, ek, k1, k2⟩ : ∃ kk : Nat, (1 + (if decide (vI hw = V.int 6) = true then 1 else 0) : Int) = (kk : Int) ∧ 1 ≤ kk ∧ kk ≤ 2 := by
        by_cases e : decide (vI hw = V.int 6) = true
        · exact ⟨2, by rw [if_pos e]; rfl, by omega, by omega⟩
        · exact ⟨1, by rw [if_neg e]; rfl, by omega, by omega⟩
      show rRep (V.ref q9) (V.int (1 + (if decide (vI hw = V.int 6) = true then 1 else 0))) H9 _
      rw [ek]
      refine ⟨q9, (kk : Int), _, rfl, rfl, h9, by omega, by omega, ?_, fun q10 hq10 => ?_⟩
      · exact Nat.le_trans (show 1 * ((kk : Nat) : Int).toNat ≤ 2 by omega) (by decide)
      have s10 := same_upd (o := HO.lst (List.replicate ((kk : Nat) : Int).toNat [V.ref u3]).flatten) hq10
      have h10 : (L2.upd H9 q10 (.lst (List.replicate ((kk : Nat) : Int).toNat [V.ref u3]).flatten)) q10 = some (.lst ((List.replicate kk u3).map V.ref)) := by rw [upd_same, Int.toNat_natCast, rep_flat, List.map_replicate]
      have B10 := B9.same s10
      generalize L2.upd H9 q10 (.lst (List.replicate ((kk : Nat) : Int).toNat [V.ref u3]).flatten) = H10 at s10 h10 B10
      refine ⟨q8, q10, _, _, rfl, rfl, (s9.trans s10) _ _ h8, h10, ?_, fun q11 hq11 => ?_⟩
      · simp only [List.length_map, List.length_take, List.length_replicate]
        exact Nat.le_trans (show min at_ us.length + kk ≤ 62 by omega) (by decide)
      have s11 := same_upd (o := HO.lst ((us.take at_).map V.ref ++ (List.replicate kk u3).map V.ref)) hq11
      have h11 : (L2.upd H10 q11 (.lst ((us.take at_).map V.ref ++ (List.replicate kk u3).map V.ref))) q11 = some (.lst ((us.take at_ ++ List.replicate kk u3).map V.ref)) := by rw [upd_same, List.map_append]
      have B11 := B10.same s11
      generalize L2.upd H10 q11 (.lst ((us.take at_).map V.ref ++ (List.replicate kk u3).map V.ref)) = H11 at s11 h11 B11
      have s811 := ((s8.trans s9).trans s10).trans s11
      refine ⟨_, rfl, _, rfl, _, _, rfl, rfl, _, rfl, l, _, rfl, SqL.of (s811 _ _ hus7), fun q12 hq12 => ?_⟩
      have s12 := same_upd (o := HO.lst (cutV (us.map V.ref) (some (((at_ : Nat) : Int) + 1)) none)) hq12
      have h12 : (L2.upd H11 q12 (.lst (cutV (us.map V.ref) (some (((at_ : Nat) : Int) + 1)) none))) q12 = some (.lst ((us.drop (at_ + 1)).map V.ref)) := by
        rw [upd_same, show ((at_ : Nat) : Int) + 1 = ((at_ + 1 : Nat) : Int) from rfl, cut_fromB, List.map_drop]
      have B12 := B11.same s12
      generalize L2.upd H11 q12 (.lst (cutV (us.map V.ref) (some (((at_ : Nat) : Int) + 1)) none)) = H12 at s12 h12 B12
      refine ⟨q11, q12, _, _, rfl, rfl, s12 _ _ h11, h12, ?_, fun q13 hq13 => ?_⟩
      · simp only [List.length_map, List.length_append, List.length_take, List.length_replicate, List.length_drop]
        exact Nat.le_trans (show min at_ us.length + kk + (us.length - (at_ + 1)) ≤ 62 by omega) (by decide)
      have s13 := same_upd (o := HO.lst ((us.take at_ ++ List.replicate kk u3).map V.ref ++ (us.drop (at_ + 1)).map V.ref)) hq13
      have sall := (s811.trans s12).trans s13
      obtain ⟨q', LA'⟩ := lots_ofB (n := n) (l := q13) (us := us.take at_ ++ List.replicate kk u3 ++ us.drop (at_ + 1)) (H := L2.upd H12 q13 (.lst ((us.take at_ ++ List.replicate kk u3).map V.ref ++ (us.drop (at_ + 1)).map V.ref))) (by rw [upd_same, List.map_append (l₁ := us.take at_ ++ List.replicate kk u3)]) (fun x hx => by
        rcases List.mem_append.mp hx with e | e
        · rcases List.mem_append.mp e with e | e
          · exact (row7 x (List.mem_of_mem_take e)).imp fun r e => sall _ _ e
          · rw [(List.mem_replicate.mp e).2]
            exact ⟨r3, sall _ _ hu7⟩
        · exact (row7 x (List.mem_of_mem_drop e)).imp fun r e => sall _ _ e)
      refine h _ q13 _ q' (k7.trans (kc_same sall)) (B7.same sall) LA' (B12.new hq13).1 ?_ ?_
      · simp only [List.length_append, List.length_take, List.length_drop, List.length_replicate]
        omega
      · simp only [List.length_append, List.length_take, List.length_drop, List.length_replicate]
        omega
end
end RL
/-! a paper bent -/
namespace RL
open PySem PySem.Spec PyProof.Rows L2 RLM
/-- a paper of lots or of a walk, right or not -/
inductive PaperAt (n c N : Nat) (H : Hp) (t : Addr) : Prop
  | rows (aw : Bool) (l : Addr) (m : Nat) (q : Nat → Nat → Prop) : H t = some (.tup [.str (if aw = true then "ahead" else "behind"), .ref l]) → LotsAt n H l m q → l ≠ c → 1 ≤ m → m ≤ N → PaperAt n c N H t
  | walk (tw : Addr) (zs : List Int) : H t = some (.tup [.str "walk", .ref tw]) → H tw = some (.tup (zs.map V.int)) → zs.length ≤ N → (∀ z ∈ zs, -1 ≤ z ∧ z ≤ 8) → PaperAt n c N H t
theorem lots_keep {n m : Nat} {c l : Addr} {H H' : Hp} {q : Nat → Nat → Prop} (k : Kc c H H') (hc : ∃ ys, H c = some (.lst ys)) (lc : l ≠ c) (h : LotsAt n H l m q) : LotsAt n H' l m q := by
  obtain ⟨us, h1, h2, h3⟩ := h.ex
  exact ⟨us, k _ _ lc (fun _ z => by cases z) h1, h2, fun i u e => k.tup hc (h3 i u e)⟩
section
variable {P : Program} {w : World} {K : PySem.W.Frag} {mg : Str → Option Value} {base : Heap}
def spBentPaper : Sp := fun vs H Q _ => ∃ (b c t : Addr) (n N : Nat), vs = [.ref b, .ref t, vI n] ∧ Box b c H ∧ PaperAt n c N H t ∧ N ≤ 50 ∧ 1 ≤ n ∧ n ≤ 8 ∧ ∀ H' t', Kc c H H' → Box b c H' → PaperAt n c (N + 1) H' t' → Q (.ref t') H'
theorem sc__law_bent_paper : FnScope ["_law_box_here", "_law_shown", "_law_many", "_law_word", "_law_lots", "_law_at", "_law_odd", "_law_some"] ["_law_box_here", "_law_shown", "_law_many"] (defScope s__law_bent_paper) := ⟨rfl, rfl, rfl, by decide +kernel, rfl, by decide +kernel, by decide +kernel⟩
theorem ok_bentPaper (T : Tx K mg) : Has P w K mg base (He.ga K "_law_bent_paper") 4 ["_law_box_here", "_law_shown", "_law_many"] spBentPaper := by
  obtain ⟨⟨fd_law_pick, F_law_pick, b_law_pick⟩, kp_law_pick⟩ := ok_pick (P := P) (w := w) (base := base) T
  obtain ⟨⟨fd_law_from, F_law_from, b_law_from⟩, kp_law_from⟩ := ok_from (P := P) (w := w) (base := base) T
  obtain ⟨⟨fd_law_bent_lots, F_law_bent_lots, b_law_bent_lots⟩, kp_law_bent_lots⟩ := ok_bentLots (P := P) (w := w) (base := base) T
  obtain ⟨fd, F⟩ := T.d__law_bent_paper
  refine ⟨⟨fd, F.ok sc__law_bent_paper (fun vs H Q E h => ?_) (fun cdv A outer s H vs Q E hr h => ?_), F.bindsN fun _ _ _ _ _ _ us hl => match us, hl with | [_, _, _], _ => rfl⟩, F.kp⟩
  · obtain ⟨b, c, t, n, N, rfl, _⟩ := h
    rfl
  · obtain ⟨b, c, t, n, N, rfl, B, PA, N50, n1, n8, h⟩ := h
    have hr_law_pick : Room 1 _ := hr.mono (by decide)
    have hr_law_from : Room 2 _ := hr.mono (by decide)
    have hr_law_bent_lots : Room 3 _ := hr.mono (by decide)
    refine ⟨_, PSs.nox (pss_cons (ps_asg (pv 1) (pgT (K := K) (n := 2) rfl (pgs_cons (pg_name (i := 3) sc__law_bent_paper.nd rfl (Or.inl rfl)) (pgs_cons (pg_name (i := 4) sc__law_bent_paper.nd rfl (Or.inl rfl)) pgs_nil))))
      (pss_cons (ps_if (pt_cmpR op_ne (pv 3) pe_str (nomark _)) (pss_cons (ps_if (pt_cmpR op_eq (pe_call F_law_pick hr_law_pick rfl T.glo_law_pick kp_law_pick b_law_pick .nil pass0 (pa_cons (pv 0) (pa_cons pe_int pa_nil))) pe_int (nomark _)) (pss_one (ps_ret (pe_tup (pa_cons (pe_ix (ixL (K := K)) (pe_lst (pa_cons pe_str (pa_cons pe_str pa_nil))) (pe_callTy call_int1 (by rfl) T.free_int (by decide +kernel) (pa_cons (pe_cmpR op_eq (pv 3) pe_str (nomark _)) pa_nil)) (fun _ _ => rfl)) (pa_cons (pv 4) pa_nil))))) pss_nil)
      (pss_one (ps_ret (pe_tup (pa_cons (pv 3) (pa_cons (pe_call F_law_bent_lots hr_law_bent_lots rfl T.glo_law_bent_lots kp_law_bent_lots b_law_bent_lots .nil pass0 (pa_cons (pv 0) (pa_cons (pv 4) (pa_cons (pv 2) pa_nil)))) pa_nil)))))) pss_nil)
      (pss_cons (ps_set (i := 5) sc__law_bent_paper.nd rfl (Or.inl rfl) (pe_call F_law_pick hr_law_pick rfl T.glo_law_pick kp_law_pick b_law_pick .nil pass0 (pa_cons (pv 0) (pa_cons (pe_op op_add (pe_callB (lenK (K := K)) (by rfl) T.free_len (by decide +kernel) (pa_cons (pv 4) pa_nil)) pe_int) pa_nil))))
      (pss_cons (ps_set (i := 6) sc__law_bent_paper.nd rfl (Or.inl rfl) (pe_call F_law_from hr_law_from rfl T.glo_law_from kp_law_from b_law_from .nil pass0 (pa_cons (pv 0) (pa_cons (pe_lst (pa_cons (pe_call F_law_pick hr_law_pick rfl T.glo_law_pick kp_law_pick b_law_pick .nil pass0 (pa_cons (pv 0) (pa_cons (pv 2) pa_nil))) (pa_cons (pv 2) (pa_cons (pe_op op_sub pe_int pe_int) pa_nil)))) pa_nil))))
      (pss_cons (ps_set (i := 7) sc__law_bent_paper.nd rfl (Or.inl rfl) (pe_lst (pa_cons (pe_op catS (pe_op catS (pe_slice slTS (pv 4) po_none (po_some (pv 5))) (pe_tup (pa_cons (pv 6) pa_nil))) (pe_slice slTS (pv 4) (po_some (pe_op op_add (pv 5) pe_int)) po_none)) (pa_cons (pe_op catS (pe_slice slTS (pv 4) po_none (po_some (pv 5))) (pe_slice slTS (pv 4) (po_some (pe_op op_add (pv 5) pe_int)) po_none)) (pa_cons (pe_op catS (pv 4) (pe_tup (pa_cons (pv 6) pa_nil))) (pa_cons (pe_revT (K := K) (pv 4)) pa_nil))))))
      (pss_one (ps_ret (pe_tup (pa_cons (pv 3) (pa_cons (pe_call F_law_from hr_law_from rfl T.glo_law_from kp_law_from b_law_from .nil pass0 (pa_cons (pv 0) (pa_cons (pv 7) pa_nil))) pa_nil)))))))))), ?_⟩
    cases PA with
    | rows aw l m q ht LA lc m1 mN =>
      refine ⟨_, rfl, t, _, rfl, SqT.of ht, rfl, _, _, rfl, _, _, rfl, rfl, ?_⟩
      have nw : ¬ V.str (if aw = true then "ahead" else "behind") = V.str "walk" := by cases aw <;> exact fun e => absurd (V.str.inj e) (by decide)
      refine ⟨_, rfl, rfl, _, rfl, ?_⟩
      rw [decide_eq_false nw]
      refine iteT ?_
      refine ⟨_, rfl, b, c, 8, rfl, B, by decide, by decide, fun H1 y k1 B1 y0 y1 => ⟨rfl, _, rfl, ?_⟩⟩
      have ex := LA.ex
      have LA1 := lots_keep k1 B.lst lc LA
      refine ite2 (fun z => ?_) (fun z => ?_)
      · refine ⟨(by show 2 ≤ sizeLine; decide), fun l2 hl2 => ?_⟩
        have s2 := same_upd (o := HO.lst [V.str "ahead", V.str "behind"]) hl2
        have h2 : (L2.upd H1 l2 (.lst [V.str "ahead", V.str "behind"])) l2 = some (.lst [V.str "ahead", V.str "behind"]) := upd_same
        generalize L2.upd H1 l2 (.lst [V.str "ahead", V.str "behind"]) = H2 at s2 h2
        have fin : ∀ (ow : Addr), H2 ow = none → Q (.ref ow) (L2.upd H2 ow (.tup [.str (if (!aw) = true then "ahead" else "behind"), .ref l])) := fun ow how => by
          have s3 := same_upd (o := HO.tup [.str (if (!aw) = true then "ahead" else "behind"), .ref l]) how
          exact h _ ow (k1.trans (kc_same (s2.trans s3))) (B1.same (s2.trans s3)) (.rows (!aw) l m q upd_same (LA1.same (s2.trans s3)) lc m1 (by omega))
        cases aw with
        | true => exact ⟨_, rfl, rfl, .inr ⟨_, rfl, l2, _, 1, _, rfl, rfl, SqL.of h2, rfl, _, rfl, (by show 2 ≤ sizeLine; decide), fin⟩⟩
        | false => exact ⟨_, rfl, rfl, .inr ⟨_, rfl, l2, _, 0, _, rfl, rfl, SqL.of h2, rfl, _, rfl, (by show 2 ≤ sizeLine; decide), fin⟩⟩
      · refine ⟨_, rfl, _, rfl, _, rfl, _, rfl, b, c, l, n, m, q, rfl, B1, LA1, lc, m1, by omega, n1, n8, fun H2 l' m' q' k2 B2 LA2 lc2 m1' mm => ⟨(by show 2 ≤ sizeLine; decide), fun ow how => ?_⟩⟩
        have s3 := same_upd (o := HO.tup [.str (if aw = true then "ahead" else "behind"), .ref l']) how
        exact h _ ow ((k1.trans k2).trans (kc_same s3)) (B2.same s3) (.rows aw l' m' q' upd_same (LA2.same s3) lc2 m1' (by omega))
    | walk tw zs ht htw lz bz =>
      refine ⟨_, rfl, t, _, rfl, SqT.of ht, rfl, _, _, rfl, _, _, rfl, rfl, ?_⟩
      refine ⟨_, rfl, rfl, _, rfl, iteF ?_⟩
      refine ⟨_, rfl, _, rfl, tw, _, rfl, .inr (SqT.of htw), _, _, rfl, rfl, b, c, _, rfl, B, by omega, by rw [List.length_map]; omega, fun H1 y k1 B1 y0 y1 => ?_⟩
      obtain ⟨at_, rfl⟩ := Int.eq_ofNat_of_zero_le y0
      rw [List.length_map] at y1
      refine ⟨_, rfl, _, rfl, _, rfl, b, c, _, rfl, B1, by omega, by omega, fun H2 y2 k2 B2 w0 w1 => ⟨_, rfl, _, _, rfl, rfl, (by show 3 ≤ sizeLine; decide), fun l3 hl3 => ?_⟩⟩
      have s3 := same_upd (o := HO.lst [V.int y2, vI n, V.int (0 - 1)]) hl3
      refine ⟨b, c, l3, _, rfl, B2.same s3, upd_same, (B2.new hl3).1, (by show 1 ≤ 3; decide), (by show 3 ≤ 1000; decide), fun H4 v k4 B4 hv => ?_⟩
      obtain ⟨zo, rfl, zb⟩ : ∃ zo : Int, v = .int zo ∧ (-1 ≤ zo ∧ zo ≤ 8) := by
        simp only [List.mem_cons, List.not_mem_nil, or_false] at hv
        rcases hv with e | e | e <;> exact ⟨_, e, by omega⟩
      have k14 := ((k1.trans k2).trans (kc_same s3)).trans k4
      have htw4 := k14.tup B.lst htw
      clear k1 k2 k4 s3 B1 B2 hv hl3
      -- a place put otherwise
      refine ⟨_, rfl, _, rfl, _, rfl, tw, _, rfl, htw4, fun q1 H5 h5 s5 => ?_⟩
      rw [cut_toB] at h5
      refine ⟨_, rfl, (by show 1 ≤ sizeLine; decide), fun o2 ho2 => ?_⟩
      have s6 := same_upd (o := HO.tup [V.int zo]) ho2
      have h6 : (L2.upd H5 o2 (.tup [V.int zo])) o2 = some (.tup [V.int zo]) := upd_same
      generalize L2.upd H5 o2 (.tup [V.int zo]) = H6 at s6 h6
      refine ⟨q1, o2, _, _, rfl, rfl, s6 _ _ h5, h6, ?_, fun q2 H7 h7 s7 => ?_⟩
      · rw [List.length_take, List.length_map]
        exact Nat.le_trans (show min at_ zs.length + 1 ≤ 60 by omega) (by decide)
      have htw7 := ((s5.trans s6).trans s7) _ _ htw4
      refine ⟨_, rfl, _, rfl, _, _, rfl, rfl, _, rfl, tw, _, rfl, htw7, fun q3 H8 h8 s8 => ?_⟩
      rw [show ((at_ : Nat) : Int) + 1 = ((at_ + 1 : Nat) : Int) from rfl, cut_fromB] at h8
      refine ⟨q2, q3, _, _, rfl, rfl, s8 _ _ h7, h8, ?_, fun q4 H9 h9 s9 => ?_⟩
      · rw [List.length_append, List.length_take, List.length_drop, List.length_map]
        exact Nat.le_trans (show min at_ zs.length + 1 + (zs.length - (at_ + 1)) ≤ 60 by omega) (by decide)
      have s49 := (((s5.trans s6).trans s7).trans s8).trans s9
      have hA : H9 q4 = some (.tup ((zs.take at_ ++ [zo] ++ zs.drop (at_ + 1)).map V.int)) := by
        rw [h9, List.map_append, List.map_append, List.map_take, List.map_drop]
        rfl
      have htw9 := s49 _ _ htw4
      clear s5 s6 s7 s8 s9 h5 h6 h7 h8 h9 htw7
      -- a place left out
      refine ⟨_, rfl, _, rfl, _, rfl, tw, _, rfl, htw9, fun q5 H10 h10 s10 => ?_⟩
      rw [cut_toB] at h10
      refine ⟨_, rfl, _, rfl, _, _, rfl, rfl, _, rfl, tw, _, rfl, s10 _ _ htw9, fun q6 H11 h11 s11 => ?_⟩
      rw [show ((at_ : Nat) : Int) + 1 = ((at_ + 1 : Nat) : Int) from rfl, cut_fromB] at h11
      refine ⟨q5, q6, _, _, rfl, rfl, s11 _ _ h10, h11, ?_, fun q7 H12 h12 s12 => ?_⟩
      · rw [List.length_take, List.length_drop, List.length_map]
        exact Nat.le_trans (show min at_ zs.length + (zs.length - (at_ + 1)) ≤ 60 by omega) (by decide)
      have s912 := (s10.trans s11).trans s12
      have hB : H12 q7 = some (.tup ((zs.take at_ ++ zs.drop (at_ + 1)).map V.int)) := by
        rw [h12, List.map_append, List.map_take, List.map_drop]
      clear s10 s11 s12 h10 h11 h12
      -- a place more
      refine ⟨_, rfl, _, rfl, (by show 1 ≤ sizeLine; decide), fun o13 ho13 => ?_⟩
      have s13 := same_upd (o := HO.tup [V.int zo]) ho13
      have h13 : (L2.upd H12 o13 (.tup [V.int zo])) o13 = some (.tup [V.int zo]) := upd_same
      generalize L2.upd H12 o13 (.tup [V.int zo]) = H13 at s13 h13
      refine ⟨tw, o13, _, _, rfl, rfl, (s912.trans s13) _ _ htw9, h13, ?_, fun q14 H14 h14 s14 => ?_⟩
      · rw [List.length_map]
        exact Nat.le_trans (show zs.length + 1 ≤ 60 by omega) (by decide)
      have hC : H14 q14 = some (.tup ((zs ++ [zo]).map V.int)) := by
        rw [h14, List.map_append]
        rfl
      have s914 := (s912.trans s13).trans s14
      -- turned about
      refine ⟨_, rfl, tw, _, rfl, SqT.of (s914 _ _ htw9), fun q15 hq15 => ?_⟩
      have s15 := same_upd (o := HO.tup (zs.map V.int).reverse) hq15
      have hD : (L2.upd H14 q15 (.tup (zs.map V.int).reverse)) q15 = some (.tup (zs.reverse.map V.int)) := by rw [upd_same, List.map_reverse]
      generalize L2.upd H14 q15 (.tup (zs.map V.int).reverse) = H15 at s15 hD
      refine ⟨(by show 4 ≤ sizeLine; decide), fun l16 hl16 => ?_⟩
      have s16 := same_upd (o := HO.lst [V.ref q4, V.ref q7, V.ref q14, V.ref q15]) hl16
      have sA := ((s914.trans s15).trans s16)
      have s49' := s49.trans (s914.trans s15)
      have B15 := B4.same s49'
      refine ⟨_, rfl, _, rfl, _, rfl, b, c, l16, _, rfl, B15.same s16, upd_same, (B15.new hl16).1, (by show 1 ≤ 4; decide), (by show 4 ≤ 1000; decide), fun H17 v k17 B17 hv => ⟨(by show 2 ≤ sizeLine; decide), fun ow how => ?_⟩⟩
      have s18 := same_upd (o := HO.tup [V.str "walk", v]) how
      have kall := ((k14.trans (kc_same s49')).trans (kc_same s16)).trans (k17.trans (kc_same s18))
      have lst := (B15.same s16).lst
      have fin : ∀ (tw' : Addr) (zs' : List Int), v = .ref tw' → H17 tw' = some (.tup (zs'.map V.int)) → zs'.length ≤ N + 1 → (∀ z ∈ zs', z ∈ zs ∨ z = zo) → Q (.ref ow) (L2.upd H17 ow (.tup [V.str "walk", v])) := fun tw' zs' ev hw0 l hm => by
        subst ev
        exact h _ ow kall (B17.same s18) (.walk tw' zs' upd_same (s18 _ _ hw0) l fun z hz => (hm z hz).elim (bz z) fun e => e ▸ zb)
      simp only [List.mem_cons, List.not_mem_nil, or_false] at hv
      rcases hv with e | e | e | e
      · exact fin q4 _ e (k17.tup lst (sA _ _ hA)) (by simp only [List.length_append, List.length_take, List.length_drop, List.length_singleton]; omega) fun z hz => by
          rcases List.mem_append.mp hz with hz | hz
          · rcases List.mem_append.mp hz with hz | hz
            · exact .inl (List.mem_of_mem_take hz)
            · exact .inr (List.mem_singleton.mp hz)
          · exact .inl (List.mem_of_mem_drop hz)
      · exact fin q7 _ e (k17.tup lst ((((s13.trans s14).trans s15).trans s16) _ _ hB)) (by simp only [List.length_append, List.length_take, List.length_drop]; omega) fun z hz => .inl ((List.mem_append.mp hz).elim List.mem_of_mem_take List.mem_of_mem_drop)
      · exact fin q14 _ e (k17.tup lst ((s15.trans s16) _ _ hC)) (by simp only [List.length_append, List.length_singleton]; omega) fun z hz => (List.mem_append.mp hz).imp id List.mem_singleton.mp
      · exact fin q15 _ e (k17.tup lst (s16 _ _ hD)) (by rw [List.length_reverse]; omega) fun z hz => .inl (List.mem_reverse.mp hz)
end
end RL
/-! Rows of lots as data, for == and !=. -/
namespace RL
open PySem PySem.Spec PyProof.Rows L2 RLM
def lotD (ns : List Int) : PyData := .tuple (ns.map PyData.int)
theorem lots_lay : ∀ dss : List (List Int), PyData.canLayAll0 (dss.map lotD) = true
  | [] => by simp [PyData.canLayAll0]
  | ns :: dss => by
    have h := SeqAt.canLay_of_shaped (shaped_tup ns)
    rw [List.map_cons]
    unfold PyData.canLayAll0
    rw [lots_lay dss]
    show ((lotD ns).canLay0 && true) = true
    rw [Bool.and_true]
    exact h
theorem lots_depth : ∀ dss : List (List Int), PyData.depthAll (dss.map lotD) ≤ 60
  | [] => by simp [PyData.depthAll]
  | ns :: dss => by
    have ih := lots_depth dss
    have h : (lotD ns).depth ≤ 60 := by
      unfold lotD
      simp [PyData.depth, PySem.W.ke_depthAll]
      try omega
    rw [List.map_cons]
    unfold PyData.depthAll
    omega
theorem lots_shaped (dss : List (List Int)) : SeqAt.shaped (.list (dss.map lotD)) = true := by
  unfold SeqAt.shaped
  rw [Bool.and_eq_true]
  constructor
  · unfold PyData.canLay0
    exact lots_lay dss
  · refine decide_eq_true ?_
    unfold PyData.depth
    have := lots_depth dss
    omega
theorem dp_lots {K : PySem.W.Frag} {n m : Nat} {H : Hp} {D : Addr} {p : Nat → Nat → Prop} (h : LotsAt n H D m p) : Dp K H (.ref D) (.list (((List.range m).map fun i => (lotP n (p i)).map nI).map lotD)) := by
  obtain ⟨us, hus, lus, rus⟩ := h.ex
  refine .lst (SqL.of hus) ?_
  have key : ∀ (us : List Addr) (i : Nat), (∀ (k : Nat) (u : Addr), us[k]? = some u → H u = some (.tup ((lotP n (p (i + k))).map vI))) → DpAll K H (us.map V.ref) (((List.range us.length).map fun k => (lotP n (p (i + k))).map nI).map lotD) := fun us => by
    induction us with
    | nil => exact fun _ _ => .nil
    | cons u us ih =>
      intro i hr
      rw [List.length_cons, List.range_succ_eq_map, List.map_cons, List.map_cons, List.map_cons]
      refine .cons (dp_lot (hr 0 u rfl)) ?_
      have := ih (i + 1) fun k v e => by
        have := hr (k + 1) v e
        rw [show i + 1 + k = i + (k + 1) by omega]
        exact this
      have e : ((fun k => (lotP n (p (i + k))).map nI) ∘ Nat.succ) = fun k => (lotP n (p (i + 1 + k))).map nI := by
        funext k
        show (lotP n (p (i + (k + 1)))).map nI = _
        rw [show i + (k + 1) = i + 1 + k by omega]
      rw [List.map_map (f := Nat.succ), e]
      exact this
  have := key us 0 fun k u e => by
    rw [Nat.zero_add]
    exact rus k u e
  rw [lus] at this
  simp only [Nat.zero_add] at this
  exact this
theorem lots_eqv {n m : Nat} {p q : Nat → Nat → Prop} (h : ∀ i, i < m → lotP n (p i) = lotP n (q i)) : PyData.eqv (.list (((List.range m).map fun i => (lotP n (p i)).map nI).map lotD)) (.list (((List.range m).map fun i => (lotP n (q i)).map nI).map lotD)) = true := by
  have e : ((List.range m).map fun i => (lotP n (p i)).map nI) = (List.range m).map fun i => (lotP n (q i)).map nI := List.map_congr_left fun i hi => by rw [h i (List.mem_range.mp hi)]
  rw [e]
  exact SeqAt.eqv_refl _ (SeqAt.canLay_of_shaped (lots_shaped _))
end RL
/-! The fewest misses from a place on. Plain mathematics: c i b is how many triples of beat i place b misses. -/
namespace RLM
/-- misses behind a place at beat i -/
def costT (c : Nat → Nat → Nat) : Nat → List Nat → Nat
  | _, [] => 0
  | i, b :: w => c (i + 1) b + costT c (i + 1) w
section
variable (n m : Nat) (R : Nat → Nat → Nat → Prop) (c : Nat → Nat → Nat)
/-- v is the fewest that a walk misses from b on, at beat i -/
def LeastAt (i b v : Nat) : Prop := (∃ w, Tail n m R (fun _ _ => True) i b w ∧ c i b + costT c i w = v) ∧ ∀ w, Tail n m R (fun _ _ => True) i b w → v ≤ c i b + costT c i w
end
variable {n m : Nat} {R : Nat → Nat → Nat → Prop} {c : Nat → Nat → Nat}
theorem least_last {b : Nat} : LeastAt n m R c m b (c m b) := by
  refine ⟨⟨[], .stop b, rfl⟩, fun w h => ?_⟩
  omega
theorem least_step {i b e0 : Nat} {f : Nat → Nat} (hi : i < m) (hv : ∀ e, e < n → R i b e → LeastAt n m R c (i + 1) e (f e)) (h0 : e0 < n) (r0 : R i b e0) (mn : ∀ e, e < n → R i b e → f e0 ≤ f e) : LeastAt n m R c i b (c i b + f e0) := by
  constructor
  · obtain ⟨⟨w, t, e⟩, _⟩ := hv e0 h0 r0
    refine ⟨e0 :: w, .go hi h0 r0 trivial t, ?_⟩
    show c i b + (c (i + 1) e0 + costT c (i + 1) w) = _
    rw [e]
  · intro w t
    cases t with
    | stop => omega
    | @go _ _ e w _ he re _ t =>
      have h1 := (hv e he re).2 w t
      have h2 := mn e he re
      show c i b + f e0 ≤ c i b + (c (i + 1) e + costT c (i + 1) w)
      omega
theorem LeastAt.uniq {i b v v' : Nat} (h : LeastAt n m R c i b v) (h' : LeastAt n m R c i b v') : v = v' := by
  obtain ⟨⟨w, t, e⟩, l⟩ := h
  obtain ⟨⟨w', t', e'⟩, l'⟩ := h'
  have := l w' t'
  have := l' w t
  omega
end RLM
/-! The first walk that misses the fewest. Plain mathematics. -/
namespace RLM
/-- the least of a list -/
def minL : List Nat → Nat
  | [] => 0
  | a :: xs => match xs with
    | [] => a
    | _ :: _ => min a (minL xs)
theorem minL_mem : ∀ {xs : List Nat}, xs ≠ [] → minL xs ∈ xs
  | [], h => absurd rfl h
  | [a], _ => by simp [minL]
  | a :: b :: xs, _ => by
    have ih := minL_mem (xs := b :: xs) (by simp)
    show min a (minL (b :: xs)) ∈ _
    rcases Nat.le_total a (minL (b :: xs)) with h | h
    · rw [Nat.min_eq_left h]; simp
    · rw [Nat.min_eq_right h]; exact List.mem_cons_of_mem _ ih
theorem minL_le : ∀ {xs : List Nat} {x : Nat}, x ∈ xs → minL xs ≤ x
  | [], _, h => by cases h
  | [a], x, h => by
    have : x = a := by simpa using h
    subst this
    exact Nat.le_refl _
  | a :: b :: xs, x, h => by
    show min a (minL (b :: xs)) ≤ x
    rcases List.mem_cons.mp h with e | h
    · subst e; omega
    · have := minL_le h; omega
theorem minL_of {xs : List Nat} {v : Nat} (h : v ∈ xs) (l : ∀ a ∈ xs, v ≤ a) : v = minL xs := by
  have h1 := minL_le h
  have h2 := l _ (minL_mem (xs := xs) fun e => by rw [e] at h; cases h)
  omega
/-- the first with the least -/
def pickF (f : Nat → Nat) (xs : List Nat) : Nat := (xs.filter fun x => decide (f x = minL (xs.map f))).headD 0
theorem pick_ne {f : Nat → Nat} {xs : List Nat} (h : xs ≠ []) : ∃ ys, (xs.filter fun x => decide (f x = minL (xs.map f))) = pickF f xs :: ys := by
  have hm := minL_mem (xs := xs.map f) (by simpa using h)
  obtain ⟨x, hx, e⟩ := List.mem_map.mp hm
  have : x ∈ xs.filter fun x => decide (f x = minL (xs.map f)) := List.mem_filter.mpr ⟨hx, by simpa using e⟩
  unfold pickF
  cases e2 : xs.filter fun x => decide (f x = minL (xs.map f)) with
  | nil => rw [e2] at this; cases this
  | cons y ys => exact ⟨ys, rfl⟩
theorem pickF_mem {f : Nat → Nat} {xs : List Nat} (h : xs ≠ []) : pickF f xs ∈ xs ∧ f (pickF f xs) = minL (xs.map f) := by
  obtain ⟨ys, e⟩ := pick_ne (f := f) h
  have : pickF f xs ∈ xs.filter fun x => decide (f x = minL (xs.map f)) := by rw [e]; simp
  have := List.mem_filter.mp this
  exact ⟨this.1, by simpa using this.2⟩
theorem pickF_first {f : Nat → Nat} {xs : List Nat} (hs : xs.Pairwise (· < ·)) {x : Nat} (hx : x ∈ xs) (e : f x = minL (xs.map f)) : pickF f xs ≤ x := by
  obtain ⟨ys, e2⟩ := pick_ne (f := f) (xs := xs) fun z => by rw [z] at hx; cases hx
  have hp : (pickF f xs :: ys).Pairwise (· < ·) := by rw [← e2]; exact hs.filter _
  have hm : x ∈ pickF f xs :: ys := by rw [← e2]; exact List.mem_filter.mpr ⟨hx, by simpa using e⟩
  rcases List.mem_cons.mp hm with h | h
  · omega
  · have := (List.pairwise_cons.mp hp).1 x h
    omega
theorem pick_take {f : Nat → Nat} {xs : List Nat} (h : xs ≠ []) : (xs.filter fun x => decide (f x = minL (xs.map f))).take 1 = [pickF f xs] := by
  obtain ⟨ys, e⟩ := pick_ne (f := f) h
  rw [e]; rfl
section
variable (n m : Nat) (S : Nat → Prop) (R : Nat → Nat → Nat → Prop) (c : Nat → Nat → Nat)
/-- the fewest misses from a on, k beats before the last -/
noncomputable def leastN : Nat → Nat → Nat
  | 0, a => c m a
  | k + 1, a => c (m - (k + 1)) a + minL ((lotP n (R (m - (k + 1)) a)).map (leastN k))
/-- the first way on that misses so few -/
noncomputable def bestT : Nat → Nat → List Nat
  | 0, _ => []
  | k + 1, a => pickF (leastN n m R c k) (lotP n (R (m - (k + 1)) a)) :: bestT k (pickF (leastN n m R c k) (lotP n (R (m - (k + 1)) a)))
noncomputable def bestW : List Nat := pickF (leastN n m R c m) (lotP n S) :: bestT n m R c m (pickF (leastN n m R c m) (lotP n S))
/-- misses of a whole walk -/
def costW : List Nat → Nat
  | [] => 0
  | a :: w => c 0 a + costT c 0 w
end
variable {n m : Nat} {S : Nat → Prop} {R : Nat → Nat → Nat → Prop} {c : Nat → Nat → Nat}
theorem best_ok (hR : ∀ i a, i < m → a < n → R i a a) : ∀ {k a : Nat}, k ≤ m → a < n → Tail n m R (fun _ _ => True) (m - k) a (bestT n m R c k a) ∧ c (m - k) a + costT c (m - k) (bestT n m R c k a) = leastN n m R c k a ∧
    ∀ t, Tail n m R (fun _ _ => True) (m - k) a t → leastN n m R c k a ≤ c (m - k) a + costT c (m - k) t ∧ (leastN n m R c k a = c (m - k) a + costT c (m - k) t → t = bestT n m R c k a ∨ lexL (bestT n m R c k a) t)
  | 0, a, _, ha => by
    refine ⟨.stop a, rfl, fun t h => ?_⟩
    have := h.len
    have e : t = [] := List.eq_nil_of_length_eq_zero (by omega)
    subst e
    exact ⟨Nat.le_refl _, fun _ => .inl rfl⟩
  | k + 1, a, hk, ha => by
    have ne : lotP n (R (m - (k + 1)) a) ≠ [] := fun z => by
      have := mem_lotP.mpr ⟨ha, hR (m - (k + 1)) a (by omega) ha⟩
      rw [z] at this; cases this
    obtain ⟨p1, p2⟩ := pickF_mem (f := leastN n m R c k) ne
    obtain ⟨bn, br⟩ := mem_lotP.mp p1
    have first := fun {x : Nat} => pickF_first (f := leastN n m R c k) (x := x) (lotP_sorted n (R (m - (k + 1)) a))
    have e1 : m - k = m - (k + 1) + 1 := by omega
    unfold bestT leastN
    generalize pickF (leastN n m R c k) (lotP n (R (m - (k + 1)) a)) = b at p1 p2 bn br first
    obtain ⟨i1, i2, i3⟩ := best_ok hR (k := k) (a := b) (by omega) bn
    rw [e1] at i1 i2
    refine ⟨.go (by omega) bn br trivial i1, ?_, fun t h => ?_⟩
    · show c (m - (k + 1)) a + (c (m - (k + 1) + 1) b + costT c (m - (k + 1) + 1) (bestT n m R c k b)) = _
      rw [i2, p2]
    · generalize ei : m - (k + 1) = i at h e1 p1 p2 first
      cases h with
      | stop => omega
      | @go _ _ b' t _ hb r _ t' =>
        obtain ⟨j1, j2, j3⟩ := best_ok hR (k := k) (a := b') (by omega) hb
        have hmem : b' ∈ lotP n (R i a) := mem_lotP.mpr ⟨hb, r⟩
        have hle : minL ((lotP n (R i a)).map (leastN n m R c k)) ≤ leastN n m R c k b' := minL_le (List.mem_map.mpr ⟨b', hmem, rfl⟩)
        have j3' := j3 t (by rw [e1]; exact t')
        rw [e1] at j3'
        show c i a + _ ≤ c i a + (c (i + 1) b' + costT c (i + 1) t) ∧ (c i a + _ = c i a + (c (i + 1) b' + costT c (i + 1) t) → _)
        refine ⟨by omega, fun e => ?_⟩
        have e2 : leastN n m R c k b' = minL ((lotP n (R i a)).map (leastN n m R c k)) := by omega
        have le := first hmem e2
        rcases Nat.lt_or_ge b b' with z | z
        · exact .inr (.inl z)
        · have eb : b = b' := by omega
          subst eb
          rcases j3'.2 (by omega) with z | z
          · exact .inl (by rw [z])
          · exact .inr (.inr ⟨rfl, z⟩)
/-- the walk that is told: a walk, none misses fewer, and it is the first of those that miss so few -/
theorem bestW_ok (hR : ∀ i a, i < m → a < n → R i a a) (hS : ∃ a, a < n ∧ S a) : Fit n m S R (fun _ _ => True) (bestW n m S R c) ∧
    ∀ t, Fit n m S R (fun _ _ => True) t → costW c (bestW n m S R c) ≤ costW c t ∧ (costW c (bestW n m S R c) = costW c t → t = bestW n m S R c ∨ lexL (bestW n m S R c) t) := by
  have ne : lotP n S ≠ [] := fun z => by
    obtain ⟨a, h⟩ := hS
    have := mem_lotP.mpr h
    rw [z] at this; cases this
  obtain ⟨p1, p2⟩ := pickF_mem (f := leastN n m R c m) ne
  obtain ⟨bn, bs⟩ := mem_lotP.mp p1
  have first := fun {x : Nat} => pickF_first (f := leastN n m R c m) (x := x) (lotP_sorted n S)
  unfold bestW
  generalize pickF (leastN n m R c m) (lotP n S) = b at p1 p2 bn bs first
  obtain ⟨i1, i2, i3⟩ := best_ok (c := c) hR (k := m) (a := b) (Nat.le_refl _) bn
  rw [Nat.sub_self] at i1 i2 i3
  refine ⟨⟨bn, bs, trivial, i1⟩, fun t h => ?_⟩
  cases t with
  | nil => exact h.elim
  | cons b' t =>
    obtain ⟨hb, hs, _, t'⟩ := h
    have hmem : b' ∈ lotP n S := mem_lotP.mpr ⟨hb, hs⟩
    have hle : minL ((lotP n S).map (leastN n m R c m)) ≤ leastN n m R c m b' := minL_le (List.mem_map.mpr ⟨b', hmem, rfl⟩)
    obtain ⟨j1, j2, j3⟩ := best_ok (c := c) hR (k := m) (a := b') (Nat.le_refl _) hb
    rw [Nat.sub_self] at j1 j2 j3
    have j3' := j3 t t'
    show c 0 b + costT c 0 _ ≤ c 0 b' + costT c 0 t ∧ (c 0 b + costT c 0 _ = c 0 b' + costT c 0 t → _)
    refine ⟨by omega, fun e => ?_⟩
    have e2 : leastN n m R c m b' = minL ((lotP n S).map (leastN n m R c m)) := by omega
    have le := first hmem e2
    rcases Nat.lt_or_ge b b' with z | z
    · exact .inr (.inl z)
    · have eb : b = b' := by omega
      subst eb
      rcases j3'.2 (by omega) with z | z
      · exact .inl (by rw [z])
      · exact .inr (.inr ⟨rfl, z⟩)
/-- its cost, told by the rows of the fewest -/
theorem bestW_cost (hR : ∀ i a, i < m → a < n → R i a a) (hS : ∃ a, a < n ∧ S a) : costW c (bestW n m S R c) = minL ((lotP n S).map (leastN n m R c m)) := by
  have ne : lotP n S ≠ [] := fun z => by
    obtain ⟨a, h⟩ := hS
    have := mem_lotP.mpr h
    rw [z] at this; cases this
  obtain ⟨p1, p2⟩ := pickF_mem (f := leastN n m R c m) ne
  obtain ⟨bn, bs⟩ := mem_lotP.mp p1
  obtain ⟨i1, i2, i3⟩ := best_ok (c := c) hR (k := m) (Nat.le_refl _) bn
  rw [Nat.sub_self] at i1 i2
  unfold bestW
  show c 0 _ + costT c 0 _ = _
  rw [i2, p2]
/-- the first with the least count, of rising walks -/
theorem best_idx {ws : List (List Nat)} {g : List Nat → Nat} {W : List Nat} {i : Nat} (hs : ws.Pairwise lexL) (hW : W ∈ ws) (hb : ∀ t ∈ ws, g W ≤ g t ∧ (g W = g t → t = W ∨ lexL W t)) (hi : i < ws.length) (hv : g (ws[i]'hi) = minL (ws.map g)) (hf : ∀ j (hj : j < i), g (ws[j]'(by omega)) ≠ minL (ws.map g)) : ws[i]'hi = W := by
  have hm : g W = minL (ws.map g) := minL_of (List.mem_map.mpr ⟨W, hW, rfl⟩) fun a ha => by
    obtain ⟨t, ht, e⟩ := List.mem_map.mp ha
    rw [← e]; exact (hb t ht).1
  rcases (hb _ (List.getElem_mem hi)).2 (by rw [hv, hm]) with z | z
  · exact z
  · exfalso
    obtain ⟨j, hj, e⟩ := List.getElem_of_mem hW
    have hjs : ws[j]? = some W := by rw [List.getElem?_eq_getElem hj, e]
    have his : ws[i]? = some ws[i] := List.getElem?_eq_getElem hi
    have lt : j < i := (num_lt hs hjs his).2 z
    exact hf j lt (by rw [e]; exact hm)
section
variable {α : Type} (bt : α → Nat) (ms : α → Nat → Bool)
/-- how many of the rows of beat i miss the place b -/
def missG (l : List α) (i b : Nat) : Nat := (l.filter fun q => decide (bt q = i) && ms q b).length
theorem costT_zero : ∀ (w : List Nat) (i : Nat), costT (fun _ _ => 0) i w = 0
  | [], _ => rfl
  | b :: w, i => by show 0 + costT _ (i + 1) w = 0; rw [costT_zero w (i + 1)]
theorem costT_add {c d : Nat → Nat → Nat} : ∀ (w : List Nat) (i : Nat), costT (fun j b => c j b + d j b) i w = costT c i w + costT d i w
  | [], _ => rfl
  | b :: w, i => by
    show c (i + 1) b + d (i + 1) b + costT _ (i + 1) w = c (i + 1) b + costT c (i + 1) w + (d (i + 1) b + costT d (i + 1) w)
    rw [costT_add w (i + 1)]; omega
theorem costW_add {c d : Nat → Nat → Nat} (w : List Nat) : costW (fun j b => c j b + d j b) w = costW c w + costW d w := by
  cases w with
  | nil => rfl
  | cons a w =>
    show c 0 a + d 0 a + costT _ 0 w = c 0 a + costT c 0 w + (d 0 a + costT d 0 w)
    rw [costT_add]; omega
/-- one row alone -/
theorem costT_one {e : Nat} {t : Nat → Bool} : ∀ (w : List Nat) (i : Nat), costT (fun j b => if decide (e = j) && t b then 1 else 0) i w = if i < e ∧ e ≤ i + w.length ∧ t (w.getD (e - i - 1) 0) = true then 1 else 0
  | [], i => by
    rw [if_neg (by rintro ⟨h1, h2, _⟩; simp at h2; omega)]; rfl
  | b :: w, i => by
    show (if decide (e = i + 1) && t b then 1 else 0) + costT _ (i + 1) w = _
    rw [costT_one w (i + 1)]
    by_cases h : e = i + 1
    · subst h
      rw [if_neg (show ¬ (i + 1 < i + 1 ∧ _) from fun z => absurd z.1 (by omega)), show i + 1 - i - 1 = 0 by omega]
      simp
    · have h1 : decide (e = i + 1) = false := decide_eq_false h
      rw [h1, Bool.false_and, if_neg Bool.false_ne_true, Nat.zero_add]
      by_cases h2 : i + 1 < e
      · rw [show e - i - 1 = (e - (i + 1) - 1) + 1 by omega]
        congr 1
        simp only [List.length_cons, List.getD_cons_succ, eq_iff_iff]
        exact ⟨fun ⟨_, z2, z3⟩ => ⟨by omega, by omega, z3⟩, fun ⟨_, z2, z3⟩ => ⟨by omega, by omega, z3⟩⟩
      · rw [if_neg fun z => h2 z.1, if_neg fun z => by omega]
theorem costW_one {e : Nat} {t : Nat → Bool} {w : List Nat} (he : e < w.length) : costW (fun j b => if decide (e = j) && t b then 1 else 0) w = if t (w.getD e 0) = true then 1 else 0 := by
  cases w with
  | nil => simp at he
  | cons a w =>
    show (if decide (e = 0) && t a then 1 else 0) + costT _ 0 w = _
    rw [costT_one]
    rw [List.length_cons] at he
    cases e with
    | zero => simp
    | succ e =>
      rw [show e + 1 - 0 - 1 = e by omega]
      simp only [List.getD_cons_succ]
      rw [show decide (e + 1 = 0) = false from decide_eq_false (by omega), Bool.false_and, if_neg Bool.false_ne_true, Nat.zero_add]
      congr 1
      simp only [eq_iff_iff]
      exact ⟨fun z => z.2.2, fun z => ⟨by omega, by omega, z⟩⟩
theorem costW_zero (w : List Nat) : costW (fun _ _ => 0) w = 0 := by
  cases w with
  | nil => rfl
  | cons a w => show 0 + costT _ 0 w = 0; rw [costT_zero]
/-- what a walk misses, beat by beat or row by row -/
theorem costW_miss (w : List Nat) : ∀ (l : List α), (∀ q ∈ l, bt q < w.length) → costW (missG bt ms l) w = (l.filter fun q => ms q (w.getD (bt q) 0)).length
  | [], _ => costW_zero w
  | q :: l, h => by
    have e : missG bt ms (q :: l) = fun j b => (if decide (bt q = j) && ms q b then 1 else 0) + missG bt ms l j b := by
      funext j b
      unfold missG
      rw [List.filter_cons]
      split
      · rw [List.length_cons]; omega
      · omega
    rw [e, costW_add, costW_one (h q (by simp)), costW_miss w l fun r hr => h r (List.mem_cons_of_mem _ hr), List.filter_cons]
    split
    · rw [List.length_cons]; omega
    · omega
/-- one row more -/
theorem missG_snoc (l : List α) (q : α) (i b : Nat) : missG bt ms (l ++ [q]) i b = missG bt ms l i b + if decide (bt q = i) && ms q b then 1 else 0 := by
  unfold missG
  rw [List.filter_append, List.length_append]
  congr 1
  rw [List.filter_cons]
  split <;> rfl
theorem range_filt {p : Nat → Bool} {r : α → Bool} {l : List α} (h : ∀ k q, l[k]? = some q → p k = r q) : ((List.range l.length).filter p).length = (l.filter r).length := by
  have key : ∀ n, n ≤ l.length → ((List.range n).filter p).length = ((l.take n).filter r).length := fun n => by
    induction n with
    | zero => intro _; rfl
    | succ n ih =>
      intro hn
      have e : l[n]? = some (l[n]'(by omega)) := List.getElem?_eq_getElem _
      rw [List.range_succ, List.take_add_one, e, List.filter_append, List.filter_append, List.length_append, List.length_append, ih (by omega)]
      congr 1
      show ([n].filter p).length = ([l[n]'(by omega)].filter r).length
      rw [List.filter_cons, List.filter_cons, h n _ e]
      split <;> rfl
  have := key l.length (Nat.le_refl _)
  rwa [List.take_length] at this
end
section
variable {n m : Nat} {S : Nat → Prop} {R : Nat → Nat → Nat → Prop} {c : Nat → Nat → Nat}
theorem bestT_len : ∀ (k a : Nat), (bestT n m R c k a).length = k
  | 0, _ => rfl
  | k + 1, a => by
    unfold bestT
    rw [List.length_cons, bestT_len k]
theorem bestW_len : (bestW n m S R c).length = m + 1 := by
  unfold bestW
  rw [List.length_cons, bestT_len]
theorem bestT_next : ∀ {k a j b : Nat}, k ≤ m → j < k → (a :: bestT n m R c k a)[j]? = some b → (a :: bestT n m R c k a)[j + 1]? = some (pickF (leastN n m R c (k - (j + 1))) (lotP n (R (m - k + j) b)))
  | 0, a, j, b, _, hj, _ => by omega
  | k + 1, a, 0, b, hk, _, e => by
    have : a = b := by simpa using e
    subst this
    unfold bestT
    simp
  | k + 1, a, j + 1, b, hk, hj, e => by
    unfold bestT at e ⊢
    rw [List.getElem?_cons_succ] at e ⊢
    have := bestT_next (k := k) (j := j) (by omega) (by omega) e
    rw [this, show k + 1 - (j + 1 + 1) = k - (j + 1) by omega, show m - (k + 1) + (j + 1) = m - k + j by omega]
/-- place by place -/
theorem bestW_first : (bestW n m S R c)[0]? = some (pickF (leastN n m R c m) (lotP n S)) := rfl
theorem bestW_next {j b : Nat} (hj : j < m) (e : (bestW n m S R c)[j]? = some b) : (bestW n m S R c)[j + 1]? = some (pickF (leastN n m R c (m - (j + 1))) (lotP n (R j b))) := by
  have := bestT_next (Nat.le_refl m) hj e
  rw [Nat.sub_self, Nat.zero_add] at this
  exact this
end
end RLM
/-! Tables: which places are reached with at most so many misses. Plain mathematics. -/
namespace RLM
section
variable (n : Nat) (S : Nat → Prop) (R : Nat → Nat → Nat → Prop) (c : Nat → Nat → Nat)
/-- a walk so far ends in b at beat i and has missed k at most -/
def PreP : Nat → Nat → Nat → Prop
  | 0, k, b => b < n ∧ S b ∧ c 0 b ≤ k
  | i + 1, k, b => b < n ∧ ∃ a k', PreP i k' a ∧ R i a b ∧ k' + c (i + 1) b ≤ k
end
variable {n m : Nat} {S : Nat → Prop} {R : Nat → Nat → Nat → Prop} {c : Nat → Nat → Nat}
theorem PreP.lt {i k b : Nat} (h : PreP n S R c i k b) : b < n := by
  cases i with
  | zero => exact h.1
  | succ i => exact h.1
theorem PreP.mono {i k k' b : Nat} (h : PreP n S R c i k b) (hk : k ≤ k') : PreP n S R c i k' b := by
  cases i with
  | zero => exact ⟨h.1, h.2.1, Nat.le_trans h.2.2 hk⟩
  | succ i =>
    obtain ⟨bn, a, k0, h1, h2, h3⟩ := h
    exact ⟨bn, a, k0, h1, h2, Nat.le_trans h3 hk⟩
/-- misses of a walk, its last place apart -/
theorem costT_end : ∀ (w : List Nat) (i b : Nat), costT c i (w ++ [b]) = costT c i w + c (i + w.length + 1) b
  | [], i, b => by
    show c (i + 1) b + 0 = 0 + c (i + 0 + 1) b
    simp
  | a :: w, i, b => by
    show c (i + 1) a + costT c (i + 1) (w ++ [b]) = c (i + 1) a + costT c (i + 1) w + c (i + (w.length + 1) + 1) b
    rw [costT_end w (i + 1) b, show i + 1 + w.length + 1 = i + (w.length + 1) + 1 by omega]
    omega
theorem costW_end {w : List Nat} {b : Nat} (h : w ≠ []) : costW c (w ++ [b]) = costW c w + c w.length b := by
  cases w with
  | nil => exact absurd rfl h
  | cons a w =>
    show c 0 a + costT c 0 (w ++ [b]) = c 0 a + costT c 0 w + c (w.length + 1) b
    rw [costT_end, Nat.zero_add]
    omega
/-- such places are the ends of walks so far -/
theorem pre_iff : ∀ {i k b : Nat}, PreP n S R c i k b ↔ ∃ w, Goes n S R i w ∧ w.getLastD 0 = b ∧ costW c w ≤ k
  | 0, k, b => by
    constructor
    · rintro ⟨bn, s, h⟩
      refine ⟨[b], ⟨b, bn, s, rfl⟩, rfl, ?_⟩
      show c 0 b + 0 ≤ k
      omega
    · rintro ⟨w, ⟨a, an, s, e⟩, el, h⟩
      subst e
      have : a = b := el
      subst this
      have h : c 0 a + 0 ≤ k := h
      exact ⟨an, s, by omega⟩
  | i + 1, k, b => by
    constructor
    · rintro ⟨bn, a, k', h1, r, h2⟩
      obtain ⟨w, g, el, hc⟩ := pre_iff.1 h1
      have lw := g.len
      refine ⟨w ++ [b], ⟨w, b, g, bn, by rw [el]; exact r, rfl⟩, by simp, ?_⟩
      rw [costW_end (fun e => by rw [e] at lw; simp at lw), lw]
      omega
    · rintro ⟨w, ⟨v, b', g, bn, r, e⟩, el, h⟩
      subst e
      have : b' = b := by simpa using el
      subst this
      have lw := g.len
      rw [costW_end (fun e => by rw [e] at lw; simp at lw), lw] at h
      exact ⟨bn, v.getLastD 0, costW c v, pre_iff.2 ⟨v, g, rfl, Nat.le_refl _⟩, r, by omega⟩
/-- no walk misses k at most just where no place is reached so -/
theorem pre_last {k : Nat} : (∃ b, PreP n S R c m k b) ↔ ∃ w, Fit n m S R (fun _ _ => True) w ∧ costW c w ≤ k := by
  constructor
  · rintro ⟨b, h⟩
    obtain ⟨w, g, _, hc⟩ := pre_iff.1 h
    exact ⟨w, fit_iff.2 ⟨g, fun _ _ _ => trivial⟩, hc⟩
  · rintro ⟨w, f, hc⟩
    exact ⟨w.getLastD 0, pre_iff.2 ⟨w, (fit_iff.1 f).1, rfl, hc⟩⟩
/-- one row after another, by the least number that leads to a place -/
theorem pre_next {i k b : Nat} : PreP n S R c (i + 1) k b ↔ b < n ∧ ∃ k', (∃ a, PreP n S R c i k' a ∧ R i a b) ∧ k' + c (i + 1) b ≤ k :=
  ⟨fun ⟨bn, a, k', h1, h2, h3⟩ => ⟨bn, k', ⟨a, h1, h2⟩, h3⟩, fun ⟨bn, k', ⟨a, h1, h2⟩, h3⟩ => ⟨bn, a, k', h1, h2, h3⟩⟩
end RLM
/-! Places called otherwise. Plain mathematics. -/
namespace RLM
/-- places called otherwise -/
structure Calls (n : Nat) (f : Nat → Nat) : Prop where
  lt : ∀ {a}, a < n → f a < n
  inj : ∀ {a b}, a < n → b < n → f a = f b → a = b
  sur : ∀ {b}, b < n → ∃ a, a < n ∧ f a = b
variable {n m : Nat} {f : Nat → Nat} {S S' : Nat → Prop} {R R' : Nat → Nat → Nat → Prop} {O O' : Nat → Nat → Prop} {c c' : Nat → Nat → Nat}
theorem map_inj_on (C : Calls n f) : ∀ {v w : List Nat}, (∀ a ∈ v, a < n) → (∀ a ∈ w, a < n) → v.map f = w.map f → v = w
  | [], [], _, _, _ => rfl
  | [], _ :: _, _, _, h => by cases h
  | _ :: _, [], _, _, h => by cases h
  | a :: v, b :: w, hv, hw, h => by
    have h := List.cons.inj h
    rw [C.inj (hv a (by simp)) (hw b (by simp)) h.1, map_inj_on C (fun x hx => hv x (by simp [hx])) (fun x hx => hw x (by simp [hx])) h.2]
theorem map_sur (C : Calls n f) : ∀ {w : List Nat}, (∀ b ∈ w, b < n) → ∃ v : List Nat, v.map f = w ∧ ∀ a ∈ v, a < n
  | [], _ => ⟨[], rfl, fun a h => by cases h⟩
  | b :: w, h => by
    obtain ⟨a, an, e⟩ := C.sur (h b (by simp))
    obtain ⟨v, ev, vn⟩ := map_sur C (w := w) fun x hx => h x (by simp [hx])
    exact ⟨a :: v, by rw [List.map_cons, e, ev], fun x hx => by
      rcases List.mem_cons.mp hx with z | z
      · rw [z]; exact an
      · exact vn x z⟩
theorem goes_lt : ∀ {i : Nat} {w : List Nat}, Goes n S R i w → ∀ b ∈ w, b < n
  | 0, w, ⟨a, an, _, e⟩, b, hb => by
    subst e
    rw [List.mem_singleton.mp hb]; exact an
  | i + 1, w, ⟨v, a, g, an, _, e⟩, b, hb => by
    subst e
    rcases List.mem_append.mp hb with z | z
    · exact goes_lt g b z
    · rw [List.mem_singleton.mp z]; exact an
theorem getLast_map {v : List Nat} (h : v ≠ []) : (v.map f).getLastD 0 = f (v.getLastD 0) := by
  rw [List.getLastD_eq_getLast?, List.getLastD_eq_getLast?, List.getLast?_map]
  cases e : v.getLast? with
  | none => exact absurd (List.getLast?_eq_none_iff.mp e) h
  | some a => rfl
theorem goes_ren (C : Calls n f) (hS : ∀ a, a < n → (S' (f a) ↔ S a)) (hR : ∀ i a b, a < n → b < n → (R' i (f a) (f b) ↔ R i a b)) : ∀ {i : Nat} {w : List Nat}, (∀ b ∈ w, b < n) → (Goes n S' R' i (w.map f) ↔ Goes n S R i w)
  | 0, w, wn => by
    constructor
    · rintro ⟨a, an, s, e⟩
      match w, e with
      | [b], e =>
        have e : f b = a := by simpa using e
        subst e
        exact ⟨b, wn b (by simp), (hS b (wn b (by simp))).1 s, rfl⟩
    · rintro ⟨a, an, s, rfl⟩
      exact ⟨f a, C.lt an, (hS a an).2 s, rfl⟩
  | i + 1, w, wn => by
    constructor
    · rintro ⟨v', b', g, bn, r, e⟩
      rcases List.eq_nil_or_concat w with z | ⟨v, b, z⟩
      · subst z
        have := congrArg List.length e
        simp at this
      · rw [List.concat_eq_append] at z
        subst z
        rw [List.map_append] at e
        obtain ⟨e1, e2⟩ := List.append_inj' e rfl
        have e2 : f b = b' := by simpa using e2
        subst e1 e2
        have vn : ∀ x ∈ v, x < n := fun x hx => wn x (List.mem_append_left _ hx)
        have bn' := wn b (by simp)
        have g' := (goes_ren C hS hR vn).1 g
        have lv := g'.len
        have nev : v ≠ [] := fun e => by rw [e] at lv; simp at lv
        rw [getLast_map nev] at r
        have ln : v.getLastD 0 < n := vn _ (by
          rw [List.getLastD_eq_getLast?]
          cases e : v.getLast? with
          | none => exact absurd (List.getLast?_eq_none_iff.mp e) nev
          | some a => exact List.mem_of_getLast? e)
        exact ⟨v, b, g', bn', (hR i _ _ ln bn').1 r, rfl⟩
    · rintro ⟨v, b, g, bn, r, rfl⟩
      have vn : ∀ x ∈ v, x < n := fun x hx => wn x (List.mem_append_left _ hx)
      have lv := g.len
      have nev : v ≠ [] := fun e => by rw [e] at lv; simp at lv
      have ln : v.getLastD 0 < n := vn _ (by
        rw [List.getLastD_eq_getLast?]
        cases e : v.getLast? with
        | none => exact absurd (List.getLast?_eq_none_iff.mp e) nev
        | some a => exact List.mem_of_getLast? e)
      refine ⟨v.map f, f b, (goes_ren C hS hR vn).2 g, C.lt bn, ?_, by rw [List.map_append]; rfl⟩
      rw [getLast_map nev]
      exact (hR i _ _ ln bn).2 r
theorem fit_lt {w : List Nat} (h : Fit n m S R O w) : ∀ b ∈ w, b < n := goes_lt (fit_iff.1 h).1
theorem fit_ren (C : Calls n f) (hS : ∀ a, a < n → (S' (f a) ↔ S a)) (hR : ∀ i a b, a < n → b < n → (R' i (f a) (f b) ↔ R i a b)) (hO : ∀ i b, b < n → (O' i (f b) ↔ O i b)) {w : List Nat} (wn : ∀ b ∈ w, b < n) : Fit n m S' R' O' (w.map f) ↔ Fit n m S R O w := by
  rw [fit_iff, fit_iff, goes_ren C hS hR wn]
  refine and_congr_right fun _ => ?_
  constructor
  · intro h j b e
    have := h j (f b) (by rw [List.getElem?_map, e]; rfl)
    exact (hO j b (wn b (List.mem_of_getElem? e))).1 this
  · intro h j b' e
    rw [List.getElem?_map] at e
    cases e2 : w[j]? with
    | none => rw [e2] at e; cases e
    | some b =>
      rw [e2] at e
      have : f b = b' := Option.some.inj e
      subst this
      exact (hO j b (wn b (List.mem_of_getElem? e2))).2 (h j b e2)
/-- all walks there are walks from here -/
theorem fit_all (C : Calls n f) (hS : ∀ a, a < n → (S' (f a) ↔ S a)) (hR : ∀ i a b, a < n → b < n → (R' i (f a) (f b) ↔ R i a b)) (hO : ∀ i b, b < n → (O' i (f b) ↔ O i b)) {w' : List Nat} (h : Fit n m S' R' O' w') : ∃ w : List Nat, w.map f = w' ∧ Fit n m S R O w := by
  obtain ⟨w, e, wn⟩ := map_sur C (fit_lt h)
  refine ⟨w, e, (fit_ren C hS hR hO wn).1 (by rw [e]; exact h)⟩
theorem forth_ren (C : Calls n f) (hS : ∀ a, a < n → (S' (f a) ↔ S a)) (hR : ∀ i a b, a < n → b < n → (R' i (f a) (f b) ↔ R i a b)) (hO : ∀ i b, b < n → (O' i (f b) ↔ O i b)) : ∀ {i b : Nat}, b < n → (ForthP n S' R' O' i (f b) ↔ ForthP n S R O i b)
  | 0, b, bn => by
    show _ ∧ _ ∧ _ ↔ _ ∧ _ ∧ _
    rw [hS b bn, hO 0 b bn]
    exact ⟨fun z => ⟨bn, z.2⟩, fun z => ⟨C.lt bn, z.2⟩⟩
  | i + 1, b, bn => by
    show _ ∧ _ ∧ _ ↔ _ ∧ _ ∧ _
    rw [hO (i + 1) b bn]
    constructor
    · rintro ⟨_, o, a', fa, r⟩
      obtain ⟨a, an, e⟩ := C.sur fa.lt
      subst e
      exact ⟨bn, o, a, (forth_ren C hS hR hO an).1 fa, (hR i a b an bn).1 r⟩
    · rintro ⟨_, o, a, fa, r⟩
      exact ⟨C.lt bn, o, f a, (forth_ren C hS hR hO fa.lt).2 fa, (hR i a b fa.lt bn).2 r⟩
theorem back_ren (C : Calls n f) (hR : ∀ i a b, a < n → b < n → (R' i (f a) (f b) ↔ R i a b)) (hO : ∀ i b, b < n → (O' i (f b) ↔ O i b)) : ∀ {k b : Nat}, b < n → (BackP n m R' O' k (f b) ↔ BackP n m R O k b)
  | 0, b, bn => by
    show _ ∧ _ ↔ _ ∧ _
    rw [hO m b bn]
    exact ⟨fun z => ⟨bn, z.2⟩, fun z => ⟨C.lt bn, z.2⟩⟩
  | k + 1, b, bn => by
    show _ ∧ _ ∧ _ ↔ _ ∧ _ ∧ _
    rw [hO _ b bn]
    constructor
    · rintro ⟨_, o, a', fa, r⟩
      obtain ⟨a, an, e⟩ := C.sur fa.lt
      subst e
      exact ⟨bn, o, a, (back_ren C hR hO an).1 fa, (hR _ b a bn an).1 r⟩
    · rintro ⟨_, o, a, fa, r⟩
      exact ⟨C.lt bn, o, f a, (back_ren C hR hO fa.lt).2 fa, (hR _ b a bn fa.lt).2 r⟩
theorem sub_len {α : Type} [DecidableEq α] : ∀ {xs ys : List α}, xs.Nodup → (∀ x ∈ xs, x ∈ ys) → xs.length ≤ ys.length
  | [], _, _, _ => Nat.zero_le _
  | x :: xs, ys, nd, h => by
    have nd' := List.nodup_cons.mp nd
    have := sub_len (ys := ys.erase x) nd'.2 fun y hy => (List.mem_erase_of_ne (show y ≠ x from fun e => nd'.1 (e ▸ hy))).2 (h y (by simp [hy]))
    rw [List.length_erase, if_pos (h x (by simp))] at this
    have pos : 0 < ys.length := List.length_pos_of_mem (h x (by simp))
    rw [List.length_cons]
    omega
theorem walks_ren (C : Calls n f) (hS : ∀ a, a < n → (S' (f a) ↔ S a)) (hR : ∀ i a b, a < n → b < n → (R' i (f a) (f b) ↔ R i a b)) (hO : ∀ i b, b < n → (O' i (f b) ↔ O i b)) : (walks n m S' R' O').length = (walks n m S R O).length := by
  have nd : ((walks n m S R O).map (List.map f)).Nodup := by
    rw [List.nodup_iff_pairwise_ne, List.pairwise_map]
    have h1 : (walks n m S R O).Pairwise (· ≠ ·) := List.nodup_iff_pairwise_ne.mp (sorted_nodup walks_sorted)
    refine List.Pairwise.imp_of_mem (fun {a b} ha hb ne e => ne ?_) h1
    exact map_inj_on C (fit_lt (mem_walks.1 ha)) (fit_lt (mem_walks.1 hb)) e
  have h1 := sub_len (ys := walks n m S' R' O') nd fun w' hw => by
    obtain ⟨w, hw, e⟩ := List.mem_map.mp hw
    rw [← e]
    have fw := mem_walks.1 hw
    exact mem_walks.2 ((fit_ren C hS hR hO (fit_lt fw)).2 fw)
  have h2 := sub_len (ys := (walks n m S R O).map (List.map f)) (sorted_nodup (walks_sorted (n := n) (m := m) (S := S') (R := R') (O := O'))) fun w' hw => by
    obtain ⟨w, e, fw⟩ := fit_all C hS hR hO (mem_walks.1 hw)
    exact List.mem_map.mpr ⟨w, mem_walks.2 fw, e⟩
  rw [List.length_map] at h1 h2
  omega
theorem costT_ren (hc : ∀ i b, b < n → c' i (f b) = c i b) : ∀ (w : List Nat) (i : Nat), (∀ b ∈ w, b < n) → costT c' i (w.map f) = costT c i w
  | [], _, _ => rfl
  | b :: w, i, wn => by
    show c' (i + 1) (f b) + costT c' (i + 1) (w.map f) = c (i + 1) b + costT c (i + 1) w
    rw [hc _ b (wn b (by simp)), costT_ren hc w (i + 1) fun x hx => wn x (by simp [hx])]
theorem costW_ren (hc : ∀ i b, b < n → c' i (f b) = c i b) {w : List Nat} (wn : ∀ b ∈ w, b < n) : costW c' (w.map f) = costW c w := by
  cases w with
  | nil => rfl
  | cons a w =>
    show c' 0 (f a) + costT c' 0 (w.map f) = c 0 a + costT c 0 w
    rw [hc _ a (wn a (by simp)), costT_ren hc w 0 fun x hx => wn x (by simp [hx])]
end RLM
/-! What the program tells of a place, as data, and how it is shown. -/
namespace RL
open PySem PySem.Spec PyProof.Rows L2 RLM
/-- numbers, as a tuple -/
def numD (xs : List Nat) : PyData := .tuple ((xs.map nI).map PyData.int)
theorem num_text : ∀ z : Nat, z < 8 → (PyData.shown (.int (nI z))).length ≤ 1 ∧ PyData.showable (.int (nI z)) = true := by
  decide +kernel
theorem ints_shown : ∀ {xs : List Nat}, (∀ z ∈ xs, z < 8) → ((PyData.shownAll ((xs.map nI).map PyData.int)).map (·.length)).sum ≤ xs.length ∧ PyData.showableAll ((xs.map nI).map PyData.int) = true ∧ PyData.hasDictAll ((xs.map nI).map PyData.int) = false ∧ PyData.depthAll ((xs.map nI).map PyData.int) = 0 ∧ (PyData.shownAll ((xs.map nI).map PyData.int)).length = xs.length
  | [], _ => by simp [PyData.shownAll, PyData.showableAll, PyData.hasDictAll, PyData.depthAll]
  | x :: xs, h => by
    obtain ⟨h1, h2, h3, h4, h5⟩ := ints_shown (xs := xs) fun z hz => h z (by simp [hz])
    obtain ⟨n1, n2⟩ := num_text x (h x (by simp))
    simp only [List.map_cons, PyData.shownAll, PyData.showableAll, PyData.hasDictAll, PyData.depthAll, List.sum_cons, List.length_cons]
    refine ⟨by omega, by rw [n2, h2]; rfl, by rw [h3]; rfl, by rw [h4]; rfl, by rw [h5]⟩
/-- how it is with a lot's text -/
theorem num_shown {xs : List Nat} (h : ∀ z ∈ xs, z < 8) (l : xs.length ≤ 13) : (numD xs).shown.length ≤ 100 ∧ (numD xs).showable = true ∧ (numD xs).hasDict = false ∧ (numD xs).depth = 1 := by
  obtain ⟨h1, h2, h3, h4, h5⟩ := ints_shown h
  have := tupleText_len_le (PyData.shownAll ((xs.map nI).map PyData.int))
  unfold numD
  simp only [PyData.shown, PyData.showable, PyData.hasDict, PyData.depth]
  exact ⟨by omega, h2, h3, by rw [h4]⟩
theorem nums_shown : ∀ {xss : List (List Nat)}, (∀ xs ∈ xss, (∀ z ∈ xs, z < 8) ∧ xs.length ≤ 13) → ((PyData.shownAll (xss.map numD)).map (·.length)).sum ≤ 100 * xss.length ∧ PyData.showableAll (xss.map numD) = true ∧ PyData.hasDictAll (xss.map numD) = false ∧ PyData.depthAll (xss.map numD) ≤ 1 ∧ (PyData.shownAll (xss.map numD)).length = xss.length
  | [], _ => by simp [PyData.shownAll, PyData.showableAll, PyData.hasDictAll, PyData.depthAll]
  | xs :: xss, h => by
    obtain ⟨h1, h2, h3, h4, h5⟩ := nums_shown (xss := xss) fun z hz => h z (by simp [hz])
    obtain ⟨n1, n2, n3, n4⟩ := num_shown (h xs (by simp)).1 (h xs (by simp)).2
    simp only [List.map_cons, PyData.shownAll, PyData.showableAll, PyData.hasDictAll, PyData.depthAll, List.sum_cons, List.length_cons]
    refine ⟨by omega, by rw [n2, h2]; rfl, by rw [n3, h3]; rfl, by rw [n4]; omega, by rw [h5]⟩
section
variable {n i b : Nat} {p : Nat → Prop} {E : List (Nat × Nat)} {PS : List (Addr × List Nat)} {O : Nat → Nat → Prop} {K : PySem.W.Frag} {H H' : Hp} {t : Addr}
/-- what the program tells, as data -/
noncomputable def toldD (n i b : Nat) (p : Nat → Prop) (E : List (Nat × Nat)) (PS : List (Addr × List Nat)) (O : Nat → Nat → Prop) : PyData :=
  if decB (KnownP n p E PS O i b) = true then .tuple [.str "walk", numD ((walks n PS.length p (stepR E PS) (atP O i b))[0]?.getD [])]
  else if decB (ForthP n p (stepR E PS) O i b) = true then .tuple [.str "behind", .list (((List.range (PS.length + 1 - i)).map fun k => lotP n (BackP n PS.length (stepR E PS) O (PS.length - (i + k)))).map numD)]
  else .tuple [.str "ahead", .list (((List.range (i + 1)).map fun k => lotP n (ForthP n p (stepR E PS) O k)).map numD)]
inductive ToldAt (n i b : Nat) (p : Nat → Prop) (E : List (Nat × Nat)) (PS : List (Addr × List Nat)) (O : Nat → Nat → Prop) (H : Hp) (t : Addr) : Prop
  | walk (tw : Addr) (ws : List Nat) : H t = some (.tup [.str "walk", .ref tw]) → H tw = some (.tup (ws.map vI)) → Fit n PS.length p (stepR E PS) O ws → ws[i]? = some b → (walks n PS.length p (stepR E PS) (atP O i b))[0]? = some ws → ToldAt n i b p E PS O H t
  | ahead (l : Addr) : H t = some (.tup [.str "ahead", .ref l]) → LotsAt n H l (i + 1) (ForthP n p (stepR E PS) O) → ¬ KnownP n p E PS O i b → ¬ ForthP n p (stepR E PS) O i b → ToldAt n i b p E PS O H t
  | behind (l : Addr) : H t = some (.tup [.str "behind", .ref l]) → LotsAt n H l (PS.length + 1 - i) (fun k => BackP n PS.length (stepR E PS) O (PS.length - (i + k))) → ¬ KnownP n p E PS O i b → ForthP n p (stepR E PS) O i b → ToldAt n i b p E PS O H t
theorem ToldAt.same (s : Same H H') (h : ToldAt n i b p E PS O H t) : ToldAt n i b p E PS O H' t := by
  cases h with
  | walk tw ws h1 h2 h3 h4 h5 => exact .walk tw ws (s _ _ h1) (s _ _ h2) h3 h4 h5
  | ahead l h1 h2 h3 h4 => exact .ahead l (s _ _ h1) (h2.same s) h3 h4
  | behind l h1 h2 h3 h4 => exact .behind l (s _ _ h1) (h2.same s) h3 h4
theorem ToldAt.dp (hi : i ≤ PS.length) (h : ToldAt n i b p E PS O H t) : Dp K H (.ref t) (toldD n i b p E PS O) := by
  unfold toldD
  cases h with
  | walk tw ws h1 h2 h3 h4 h5 =>
    have kn : KnownP n p E PS O i b := (known_iff hi).1 ⟨ws, h3, h4⟩
    rw [if_pos (decB_true.mpr kn), h5]
    exact .tup (SqT.of h1) (.cons (.str _) (.cons (dp_lot h2) .nil))
  | ahead l h1 h2 h3 h4 =>
    rw [if_neg (fun z => h3 (decB_true.mp z)), if_neg (fun z => h4 (decB_true.mp z))]
    refine .tup (SqT.of h1) (.cons (.str _) (.cons ?_ .nil))
    have := dp_lots (K := K) h2
    rw [List.map_map] at this ⊢
    exact this
  | behind l h1 h2 h3 h4 =>
    rw [if_neg (fun z => h3 (decB_true.mp z)), if_pos (decB_true.mpr h4)]
    refine .tup (SqT.of h1) (.cons (.str _) (.cons ?_ .nil))
    have := dp_lots (K := K) h2
    rw [List.map_map] at this ⊢
    exact this
theorem two_shown {s : Str} {d : PyData} (ls : (reprText s).length ≤ 20) (l : d.shown.length ≤ 2000) (h1 : d.showable = true) (h2 : d.hasDict = false) (h3 : d.depth ≤ 2) : (PyData.tuple [.str s, d]).showable = true ∧ (PyData.tuple [.str s, d]).hasDict = false ∧ (PyData.tuple [.str s, d]).depth ≤ 60 ∧ (PyData.tuple [.str s, d]).shown.length ≤ sizeLine := by
  have := tupleText_len_le (PyData.shownAll [.str s, d])
  simp only [PyData.shownAll, PyData.shown, List.map_cons, List.map_nil, List.sum_cons, List.sum_nil, List.length_cons, List.length_nil] at this
  simp only [PyData.showable, PyData.showableAll, PyData.hasDict, PyData.hasDictAll, PyData.depth, PyData.depthAll, PyData.shown, PyData.shownAll]
  refine ⟨by rw [h1]; rfl, by rw [h2]; rfl, by omega, Nat.le_trans (show _ ≤ 2500 by omega) (by decide)⟩
theorem rows_shown {m : Nat} {q : Nat → Nat → Prop} (n8 : n ≤ 8) (m13 : m ≤ 13) : (PyData.list (((List.range m).map fun k => lotP n (q k)).map numD)).shown.length ≤ 2000 ∧ (PyData.list (((List.range m).map fun k => lotP n (q k)).map numD)).showable = true ∧ (PyData.list (((List.range m).map fun k => lotP n (q k)).map numD)).hasDict = false ∧ (PyData.list (((List.range m).map fun k => lotP n (q k)).map numD)).depth ≤ 2 := by
  obtain ⟨h1, h2, h3, h4, h5⟩ := nums_shown (xss := (List.range m).map fun k => lotP n (q k)) fun xs hx => by
    obtain ⟨k, _, rfl⟩ := List.mem_map.mp hx
    have := lotP_len n (q k)
    exact ⟨fun z hz => Nat.lt_of_lt_of_le (mem_lotP.mp hz).1 n8, by omega⟩
  have := listText_len_le (PyData.shownAll (((List.range m).map fun k => lotP n (q k)).map numD))
  rw [List.length_map, List.length_range] at h1 h5
  simp only [PyData.showable, PyData.hasDict, PyData.depth, PyData.shown]
  exact ⟨by omega, h2, h3, by omega⟩
theorem toldD_ok (n8 : n ≤ 8) (hi : i ≤ PS.length) (lp : PS.length ≤ 12) : (toldD n i b p E PS O).showable = true ∧ (toldD n i b p E PS O).hasDict = false ∧ (toldD n i b p E PS O).depth ≤ 60 ∧ (toldD n i b p E PS O).shown.length ≤ sizeLine := by
  unfold toldD
  split
  · have hw : ∀ z ∈ ((walks n PS.length p (stepR E PS) (atP O i b))[0]?.getD []), z < 8 := fun z hz => by
      cases e : (walks n PS.length p (stepR E PS) (atP O i b))[0]? with
      | none => rw [e] at hz; cases hz
      | some ws =>
        rw [e] at hz
        have f := mem_walks.1 (List.mem_of_getElem? e)
        exact Nat.lt_of_lt_of_le (fit_lt f z hz) n8
    have hl : ((walks n PS.length p (stepR E PS) (atP O i b))[0]?.getD []).length ≤ 13 := by
      cases e : (walks n PS.length p (stepR E PS) (atP O i b))[0]? with
      | none => exact Nat.zero_le _
      | some ws =>
        have f := (mem_walks.1 (List.mem_of_getElem? e)).len
        show ws.length ≤ 13
        omega
    obtain ⟨h1, h2, h3, h4⟩ := num_shown hw hl
    exact two_shown (by decide +kernel) (by omega) h2 h3 (by omega)
  · split
    · obtain ⟨h1, h2, h3, h4⟩ := rows_shown (m := PS.length + 1 - i) (q := fun k => BackP n PS.length (stepR E PS) O (PS.length - (i + k))) n8 (by omega)
      exact two_shown (by decide +kernel) h1 h2 h3 h4
    · obtain ⟨h1, h2, h3, h4⟩ := rows_shown (m := i + 1) (q := fun k => ForthP n p (stepR E PS) O k) n8 (by omega)
      exact two_shown (by decide +kernel) h1 h2 h3 h4
end
end RL
/-! a paper stays; what paper(..) answers is one -/
namespace RL
open PySem PySem.Spec PyProof.Rows L2 RLM
section
variable {n c N : Nat} {H H' : Hp} {t : Addr}
theorem PaperAt.keep (k : Kc c H H') (hc : ∃ ys, H c = some (.lst ys)) (h : PaperAt n c N H t) : PaperAt n c N H' t := by
  cases h with
  | rows aw l m q ht LA lc m1 mN => exact .rows aw l m q (k.tup hc ht) (lots_keep k hc lc LA) lc m1 mN
  | walk tw zs ht htw lz bz => exact .walk tw zs (k.tup hc ht) (k.tup hc htw) lz bz
theorem PaperAt.same (s : Same H H') (h : PaperAt n c N H t) : PaperAt n c N H' t := by
  cases h with
  | rows aw l m q ht LA lc m1 mN => exact .rows aw l m q (s _ _ ht) (LA.same s) lc m1 mN
  | walk tw zs ht htw lz bz => exact .walk tw zs (s _ _ ht) (s _ _ htw) lz bz
theorem PaperAt.mono {N' : Nat} (l : N ≤ N') (h : PaperAt n c N H t) : PaperAt n c N' H t := by
  cases h with
  | rows aw l' m q ht LA lc m1 mN => exact .rows aw l' m q ht LA lc m1 (Nat.le_trans mN l)
  | walk tw zs ht htw lz bz => exact .walk tw zs ht htw (Nat.le_trans lz l) bz
theorem paper_walk {tw : Addr} {ws : List Nat} (n8 : n ≤ 8) (ht : H t = some (.tup [.str "walk", .ref tw])) (hw : H tw = some (.tup (ws.map vI))) (l : ws.length ≤ N) (wn : ∀ b ∈ ws, b < n) : PaperAt n c N H t :=
  .walk tw (ws.map nI) ht (by rw [hw, vI_map]) (by rw [List.length_map]; exact l) fun z hz => by
    obtain ⟨b, hb, rfl⟩ := List.mem_map.mp hz
    have := wn b hb
    unfold nI
    omega
end
end RL
/-! the text of a paper of any lots or any walk -/
namespace RL
open PySem PySem.Spec PyProof.Rows L2 RLM
theorem int_text0 : ∀ k : Nat, k < 10 → (PyData.shown (.int ((k : Int) - 1))).length ≤ 2 ∧ PyData.showable (.int ((k : Int) - 1)) = true := by
  decide +kernel
theorem int_text {z : Int} (h1 : -1 ≤ z) (h2 : z ≤ 8) : (PyData.shown (.int z)).length ≤ 2 ∧ PyData.showable (.int z) = true := by
  have := int_text0 (z + 1).toNat (by omega)
  rw [show (((z + 1).toNat : Nat) : Int) - 1 = z by omega] at this
  exact this
theorem intsZ_shown : ∀ {zs : List Int}, (∀ z ∈ zs, -1 ≤ z ∧ z ≤ 8) → ((PyData.shownAll (zs.map PyData.int)).map (·.length)).sum ≤ 2 * zs.length ∧ PyData.showableAll (zs.map PyData.int) = true ∧ PyData.hasDictAll (zs.map PyData.int) = false ∧ PyData.depthAll (zs.map PyData.int) = 0 ∧ (PyData.shownAll (zs.map PyData.int)).length = zs.length
  | [], _ => by simp [PyData.shownAll, PyData.showableAll, PyData.hasDictAll, PyData.depthAll]
  | x :: xs, h => by
    obtain ⟨h1, h2, h3, h4, h5⟩ := intsZ_shown (zs := xs) fun z hz => h z (by simp [hz])
    obtain ⟨n1, n2⟩ := int_text (h x (by simp)).1 (h x (by simp)).2
    simp only [List.map_cons, PyData.shownAll, PyData.showableAll, PyData.hasDictAll, PyData.depthAll, List.sum_cons, List.length_cons]
    refine ⟨by omega, by rw [n2, h2]; rfl, by rw [h3]; rfl, by rw [h4]; rfl, by rw [h5]⟩
theorem zs_shown {zs : List Int} (h : ∀ z ∈ zs, -1 ≤ z ∧ z ≤ 8) (l : zs.length ≤ 13) : (PyData.tuple (zs.map PyData.int)).shown.length ≤ 200 ∧ (PyData.tuple (zs.map PyData.int)).showable = true ∧ (PyData.tuple (zs.map PyData.int)).hasDict = false ∧ (PyData.tuple (zs.map PyData.int)).depth = 1 := by
  obtain ⟨h1, h2, h3, h4, h5⟩ := intsZ_shown h
  have := tupleText_len_le (PyData.shownAll (zs.map PyData.int))
  simp only [PyData.shown, PyData.showable, PyData.hasDict, PyData.depth]
  exact ⟨by omega, h2, h3, by rw [h4]⟩
section
variable {n c N : Nat} {K : PySem.W.Frag} {H : Hp} {t : Addr}
theorem paper_data (h : PaperAt n c N H t) (n8 : n ≤ 8) (N13 : N ≤ 13) : ∃ d : PyData, d.showable = true ∧ d.hasDict = false ∧ d.depth ≤ 60 ∧ d.shown.length ≤ sizeLine ∧ ∀ H', Same H H' → Dp K H' (.ref t) d := by
  cases h with
  | rows aw l m q ht LA lc m1 mN =>
    obtain ⟨r1, r2, r3, r4⟩ := rows_shown (q := q) n8 (show m ≤ 13 by omega)
    obtain ⟨a1, a2, a3, a4⟩ := two_shown (s := if aw = true then "ahead" else "behind") (by cases aw <;> decide +kernel) r1 r2 r3 r4
    refine ⟨_, a1, a2, a3, a4, fun H' s => .tup (SqT.of (s _ _ ht)) (.cons (.str _) (.cons ?_ .nil))⟩
    have := dp_lots (K := K) (LA.same s)
    rw [List.map_map] at this ⊢
    exact this
  | walk tw zs ht htw lz bz =>
    obtain ⟨r1, r2, r3, r4⟩ := zs_shown bz (by omega)
    obtain ⟨a1, a2, a3, a4⟩ := two_shown (s := "walk") (by decide +kernel) (Nat.le_trans r1 (by decide)) r2 r3 (Nat.le_trans (Nat.le_of_eq r4) (by decide))
    exact ⟨_, a1, a2, a3, a4, fun H' s => .tup (SqT.of (s _ _ ht)) (.cons (.str _) (.cons (.tup (SqT.of (s _ _ htw)) (dp_ints zs)) .nil))⟩
end
end RL
namespace RL
open PySem PySem.Spec PyProof.Rows L2 RLM
theorem lots_ys {n m : Nat} {H : Hp} {D : Addr} {ys : List V} {q : Nat → Nat → Prop} (h : H D = some (.lst ys)) (l : ys.length = m) (hy : ∀ k y, ys[k]? = some y → ∃ t : Addr, y = .ref t ∧ H t = some (.tup ((lotP n (q k)).map vI))) : LotsAt n H D m q := by
  let g : V → Addr := fun y => match y with | .ref t => t | _ => 0
  have e : (ys.map g).map V.ref = ys := by
    refine List.ext_getElem? fun k => ?_
    rw [List.getElem?_map, List.getElem?_map]
    cases hk : ys[k]? with
    | none => rfl
    | some y =>
      obtain ⟨t, rfl, _⟩ := hy k y hk
      rfl
  refine ⟨ys.map g, by rw [e]; exact h, by rw [List.length_map]; exact l, fun k u eu => ?_⟩
  rw [List.getElem?_map] at eu
  cases hk : ys[k]? with
  | none =>
    rw [hk] at eu
    cases eu
  | some y =>
    rw [hk] at eu
    obtain ⟨t, rfl, ht⟩ := hy k y hk
    cases eu
    exact ht
section
variable {P : Program} {w : World} {K : PySem.W.Frag} {mg : Str → Option Value} {base : Heap}
theorem sc_law : FnScope ["_law_script", "_law_box_here", "_law_turn", "_law_board_here", "_law_spans_here", "_law_here", "_law_story_here", "_law_many", "_law_beat", "_law_shown", "_law_lots", "_law_bending", "_law_kept", "_law_place", "_law_due", "_law_k"] ["_law_script"] (defScope s_law) := ⟨rfl, rfl, rfl, by decide +kernel, rfl, by decide +kernel, by decide +kernel⟩
theorem ok_law (T : Tx K mg) {fd : FuncData} (F : FnP K "law" "law" s_law [] (He.ga K "law") fd) {a : Addr} {ns : List Int} {s : Shared} (hl : ns.length ≤ 63) (hb : ∀ (s : Shared) (u : Value), BindsTo s fd ⟨[u], []⟩ [("_law_script", u)]) (hR : Room 12 callerA) : RLG.RunsTrue P w K mg (He.ga K "law") a ns s := by
  refine RLG.runs_of F sc_law hR hb (fun cdv base H hr hS => ?_)
  obtain ⟨⟨fd_law_box, F_law_box, b_law_box⟩, kp_law_box⟩ := ok_box (P := P) (w := w) (base := base) T
  obtain ⟨⟨fd_law_pick, F_law_pick, b_law_pick⟩, kp_law_pick⟩ := ok_pick (P := P) (w := w) (base := base) T
  obtain ⟨⟨fd_law_ground, F_law_ground, b_law_ground⟩, kp_law_ground⟩ := ok_ground (P := P) (w := w) (base := base) T
  obtain ⟨⟨fd_law_story, F_law_story, b_law_story⟩, kp_law_story⟩ := ok_story (P := P) (w := w) (base := base) T
  obtain ⟨⟨fd_paper, F_paper, b_paper⟩, kp_paper⟩ := ok_paper (P := P) (w := w) (base := base) T
  obtain ⟨⟨fd_law_from, F_law_from, b_law_from⟩, kp_law_from⟩ := ok_from (P := P) (w := w) (base := base) T
  obtain ⟨⟨fd_law_bent_paper, F_law_bent_paper, b_law_bent_paper⟩, kp_law_bent_paper⟩ := ok_bentPaper (P := P) (w := w) (base := base) T
  obtain ⟨⟨fd_law_judged_so, F_law_judged_so, b_law_judged_so⟩, kp_law_judged_so⟩ := ok_judged (P := P) (w := w) (base := base) T
  obtain ⟨⟨fd_holds, F_holds, b_holds⟩, kp_holds⟩ := ok_holdsU (P := P) (w := w) (base := base) T
  obtain ⟨⟨fd_law_same, F_law_same, b_law_same⟩, kp_law_same⟩ := ok_same (P := P) (w := w) (base := base) T 1
  · have _u := hS
    have hr_law_box : Room 1 _ := hr.mono (by decide)
    have hr_law_pick : Room 1 _ := hr.mono (by decide)
    have hr_law_ground : Room 7 _ := hr.mono (by decide)
    have hr_law_story : Room 5 _ := hr.mono (by decide)
    have hr_paper : Room 11 _ := hr.mono (by decide)
    have hr_law_from : Room 2 _ := hr.mono (by decide)
    have hr_law_bent_paper : Room 4 _ := hr.mono (by decide)
    have hr_law_judged_so : Room 4 _ := hr.mono (by decide)
    have hr_holds : Room 11 _ := hr.mono (by decide)
    have hr_law_same : Room 2 _ := hr.mono (by decide)
    refine ⟨_, PSs.nox (pss_cons (ps_set (i := 1) sc_law.nd rfl (Or.inl rfl) (pe_call F_law_box hr_law_box rfl T.glo_law_box kp_law_box b_law_box .nil pass0 (pa_cons (pv 0) pa_nil)))
      (pss_cons (ps_for PassesOwn.never rfl (pi_range1 (by rfl) T.free_range (pa_cons pe_int pa_nil)) (pg_name (i := 2) sc_law.nd rfl (Or.inl rfl)) (pss_cons (ps_asg (pe_call F_law_ground hr_law_ground rfl T.glo_law_ground kp_law_ground b_law_ground .nil pass0 (pa_cons (pv 1) (pa_cons pe_int pa_nil))) (pgT (K := K) (n := 3) rfl (pgs_cons (pg_name (i := 3) sc_law.nd rfl (Or.inl rfl)) (pgs_cons (pg_name (i := 4) sc_law.nd rfl (Or.inl rfl)) (pgs_cons (pg_name (i := 5) sc_law.nd rfl (Or.inl rfl)) pgs_nil)))))
      (pss_cons (ps_set (i := 6) sc_law.nd rfl (Or.inl rfl) (pe_call F_law_story hr_law_story rfl T.glo_law_story kp_law_story b_law_story .nil pass0 (pa_cons (pv 1) (pa_cons (pv 3) (pa_cons (pv 4) (pa_cons (pe_call F_law_pick hr_law_pick rfl T.glo_law_pick kp_law_pick b_law_pick .nil pass0 (pa_cons (pv 1) (pa_cons pe_int pa_nil))) (pa_cons pe_int pa_nil)))))))
      (pss_cons (ps_asg (pe_tup (pa_cons (pe_ix (ixT (K := K)) (pv 3) pe_int (fun _ _ => rfl)) (pa_cons (pe_call F_law_pick hr_law_pick rfl T.glo_law_pick kp_law_pick b_law_pick .nil pass0 (pa_cons (pv 1) (pa_cons (pe_op op_add (pe_callB (lenK (K := K)) (by rfl) T.free_len (by decide +kernel) (pa_cons (pe_ix (ixT (K := K)) (pv 6) pe_int (fun _ _ => rfl)) pa_nil)) pe_int) pa_nil))) pa_nil))) (pgT (K := K) (n := 2) rfl (pgs_cons (pg_name (i := 7) sc_law.nd rfl (Or.inr rfl)) (pgs_cons (pg_name (i := 8) sc_law.nd rfl (Or.inl rfl)) pgs_nil))))
      (C8.pss_cut (ps_set (i := 9) sc_law.nd rfl (Or.inl rfl) (pe_call F_paper hr_paper rfl T.glo_paper kp_paper b_paper .nil pass0 (pa_cons (pv 5) (pa_cons (pv 6) (pa_cons (pv 8) (pa_cons (pe_call F_law_pick hr_law_pick rfl T.glo_law_pick kp_law_pick b_law_pick .nil pass0 (pa_cons (pv 1) (pa_cons (pv 7) pa_nil))) pa_nil))))))
      (C8.pss_cut (ps_if (pt_cmpR op_eq (pe_call F_law_pick hr_law_pick rfl T.glo_law_pick kp_law_pick b_law_pick .nil pass0 (pa_cons (pv 1) (pa_cons pe_int pa_nil))) pe_int (nomark _)) (pss_cons (ps_setLc (i := 10) (own := [("_law_k", 15)]) (g := (gName 15)) (tt := tYes) rfl sc_law.nd rfl rfl (sw_true rfl rfl rfl (by decide +kernel)) (pi_range1 (by rfl) T.free_range (pa_cons (pe_op op_add (pe_callB (lenK (K := K)) (by rfl) T.free_len (by decide +kernel) (pa_cons (pe_ix (ixT (K := K)) (pv 6) pe_int (fun _ _ => rfl)) pa_nil)) pe_int) pa_nil)) (blkOk_by (by kernel_rfl)) (fun _ _ _ _ _ => (pg_name (i := 15) sc_law.nd rfl (Or.inl rfl))) (fun _ _ _ _ _ => pts_nil) (fun _ _ _ _ _ => (pe_tupRg rfl (by rfl) T.free_tuple (prg_1 (by rfl) T.free_range (pv 7)))))
      (pss_one (ps_set (i := 9) sc_law.nd rfl (Or.inl rfl) (pe_call F_law_from hr_law_from rfl T.glo_law_from kp_law_from b_law_from .nil pass0 (pa_cons (pv 1) (pa_cons (pe_lst (pa_cons (pe_tup (pa_cons pe_str (pa_cons (pe_slice (slL (K := K)) (pv 10) (po_some (pv 8)) po_none) pa_nil))) (pa_cons (pe_tup (pa_cons pe_str (pa_cons (pe_slice (slL (K := K)) (pv 10) (po_some (pv 8)) po_none) pa_nil))) (pa_cons (pe_tup (pa_cons pe_str (pa_cons (pe_slice (slL (K := K)) (pv 10) po_none (po_some (pe_op op_add (pv 8) pe_int))) pa_nil))) pa_nil)))) pa_nil)))))) pss_nil)
      (pss_cons (ps_for PassesOwn.never rfl (pi_range1 (by rfl) T.free_range (pa_cons (pe_call F_law_pick hr_law_pick rfl T.glo_law_pick kp_law_pick b_law_pick .nil pass0 (pa_cons (pv 1) (pa_cons pe_int pa_nil))) pa_nil)) (pg_name (i := 11) sc_law.nd rfl (Or.inl rfl)) (pss_one (ps_set (i := 9) sc_law.nd rfl (Or.inl rfl) (pe_call F_law_bent_paper hr_law_bent_paper rfl T.glo_law_bent_paper kp_law_bent_paper b_law_bent_paper .nil pass0 (pa_cons (pv 1) (pa_cons (pv 9) (pa_cons (pv 7) pa_nil)))))))
      (pss_cons (ps_set (i := 12) sc_law.nd rfl (Or.inl rfl) (pe_callB (reprK (K := K) rfl hr.units) (by rfl) T.free_repr (by decide +kernel) (pa_cons (pv 9) pa_nil)))
      (pss_one (ps_for PassesOwn.never rfl (pi_range1 (by rfl) T.free_range (pa_cons (pv 7) pa_nil)) (pg_name (i := 13) sc_law.nd rfl (Or.inl rfl)) (pss_cons (ps_set (i := 14) sc_law.nd rfl (Or.inl rfl) (pe_call F_law_judged_so hr_law_judged_so rfl T.glo_law_judged_so kp_law_judged_so b_law_judged_so .nil pass0 (pa_cons (pv 4) (pa_cons (pv 6) (pa_cons (pv 8) (pa_cons (pv 13) (pa_cons (pv 9) pa_nil)))))))
      (pss_one (ps_if (PW.pt (pw_or (pt_not (pt_val (pe_call F_law_same hr_law_same rfl T.glo_law_same kp_law_same b_law_same .nil pass0 (pa_cons (pe_call F_holds hr_holds rfl T.glo_holds kp_holds b_holds .nil pass0 (pa_cons (pv 5) (pa_cons (pv 6) (pa_cons (pv 8) (pa_cons (pv 13) (pa_cons (pv 9) pa_nil)))))) (pa_cons (pv 14) pa_nil))))) (pw_or1 (pt_cmpR op_ne (pe_callB (reprK (K := K) rfl hr.units) (by rfl) T.free_repr (by decide +kernel) (pa_cons (pv 9) pa_nil)) (pv 12) (nomark _))))) (pss_one (ps_ret pe_bl)) pss_nil)))))))))))))
      (pss_one (ps_ret pe_bl)))), ?_⟩
    refine ⟨_, rfl, a, ns, rfl, hS, hl, fun H1 b c s1 B1 => ?_⟩
    refine ⟨4, rfl, by decide, by decide, for_range (lo := 0) (n := 4) (fun i σ H2 => (∃ (v2 v3 v4 v5 v6 v7 v8 v9 v10 v11 v12 v13 v14 v15 : Option V), σ = [some (.ref a), some (.ref b), v2, v3, v4, v5, v6, v7, v8, v9, v10, v11, v12, v13, v14, v15]) ∧ Box b c H2)
      ⟨⟨none, none, none, none, none, none, none, none, none, none, none, none, none, none, rfl⟩, B1⟩ ?_ (fun σ H2 _ => rfl)⟩
    rintro i σ H2 hi ⟨⟨v2, v3, v4, v5, v6, v7, v8, v9, v10, v11, v12, v13, v14, v15, rfl⟩, B2⟩
    refine ⟨_, rfl, b, c, rfl, B2, fun H3 u t l D x n L rs M E n1 n8 hu ht PA WO eE TA S Bd k3 B3 => ?_⟩
    refine ⟨u, _, rfl, SqT.of hu, rfl, _, _, rfl, _, _, rfl, _, _, rfl, rfl, ?_⟩
    -- the story
    refine ⟨_, rfl, _, rfl, _, rfl, _, rfl, b, c, 7, rfl, B3, by decide, by decide, fun H4 y k4 B4 y0 y1 => ?_⟩
    obtain ⟨i0, rfl⟩ := Int.eq_ofNat_of_zero_le y0
    refine ⟨b, c, t, l, D, n, i0, 8, rs, M, E, rfl, B4, k4.tup B3.lst ht, n1, n8, TA.keep k4, S, by omega, by decide, fun H5 sa p PS SN SA ex eP lS k5 B5 => ?_⟩
    have lp : PS.length ≤ 6 := by omega
    have k35 := k4.trans k5
    have TA5 := TA.keep k35
    have Bd5 := Bd.keep k35 B3.lst
    have ht5 := k35.tup B3.lst ht
    clear TA Bd k4 k5 k35 B4 B3 k3 hu PA B2
    obtain ⟨tl, tp, ts, hs, htl, htp, hts⟩ := SA.ex
    -- how many, the beat
    refine ⟨_, rfl, t, _, 0, _, rfl, rfl, SqT.of ht5, rfl, _, rfl, _, rfl, sa, _, 1, _, rfl, rfl, SqT.of hs, rfl, tp, _, rfl, .inr (SqT.of htp), _, _, rfl, rfl, b, c, _, rfl, B5, ?_⟩
    rw [List.length_map]
    refine ⟨by omega, by omega, fun H6 y6 k6 B6 y60 y61 => ?_⟩
    obtain ⟨bt, rfl⟩ := Int.eq_ofNat_of_zero_le y60
    have TA6 := TA5.keep k6
    have Bd6 := Bd5.keep k6 B5.lst
    have SA6 := SA.tk (k6.tk B5.lst)
    clear TA5 Bd5 ht5 SA hs htl htp hts
    refine ⟨(by show 2 ≤ sizeLine; decide), fun o7 ho7 => ⟨o7, _, rfl, SqT.of upd_same, rfl, _, _, rfl, _, _, rfl, rfl, ?_⟩⟩
    have s7 := same_upd (o := HO.tup [vI n, V.int ((bt : Nat) : Int)]) ho7
    have TA7 := TA6.same s7
    have Bd7 := Bd6.same s7
    have SA7 := SA6.same s7
    have B7 := B6.same s7
    generalize L2.upd H6 o7 (.tup [vI n, V.int ((bt : Nat) : Int)]) = H7 at TA7 Bd7 SA7 B7
    clear TA6 Bd6 SA6 B6 k6 B5 ho7 s7
    have bp : bt ≤ PS.length := by omega
    -- what is told
    refine ⟨fun σ H' => ∃ sh : Addr, σ = [some (.ref a), some (.ref b), some (.int (0 + (i : Nat))), some (.ref t), some (.ref D), some (.ref x), some (.ref sa), some (vI n), some (vI bt), some (.ref sh), v10, v11, v12, v13, v14, v15] ∧ Kc c H7 H' ∧ Box b c H' ∧ PaperAt n c 7 H' sh, ?_, ?_⟩
    · refine ⟨_, rfl, _, rfl, _, rfl, _, rfl, _, rfl, b, c, n, rfl, B7, by omega, by omega, fun H9 y9 k9 B9 y90 y91 => ?_⟩
      obtain ⟨pl, rfl⟩ := Int.eq_ofNat_of_zero_le y90
      have ne : ∀ l : Addr, H9 l = none → l ≠ c := fun l hl z => by
        obtain ⟨ys, hc⟩ := B9.lst
        rw [z, hc] at hl
        cases hl
      refine ⟨c, x, sa, n, bt, pl, E, M, p, PS, SN, rfl, Bd7.keep k9 B7.lst, S, SA7.tk (k9.tk B7.lst), ex, bp, by omega, fun H10 sh tw ws h1 h2 f e e0 s10 => ?_, fun nk H10 sh l h1 LA nf fl s10 => ?_, fun nk H10 sh l h1 LB ff fl s10 => ?_⟩
      · exact ⟨sh, rfl, k9.trans (kc_same s10), B9.same s10, paper_walk n8 h1 h2 (by have := f.len; omega) (fit_lt f)⟩
      · exact ⟨sh, rfl, k9.trans (kc_same s10), B9.same s10, .rows true l _ _ h1 LA (ne l fl) (by omega) (by omega)⟩
      · exact ⟨sh, rfl, k9.trans (kc_same s10), B9.same s10, .rows false l _ _ h1 LB (ne l fl) (by omega) (by omega)⟩
    rintro σ H8 ⟨sh, rfl, k8, B8, PA8⟩
    have TA8 := TA7.keep k8
    have Bd8 := Bd7.keep k8 B7.lst
    have SA8 := SA7.tk (k8.tk B7.lst)
    clear TA7 Bd7 SA7 B7 k8
    -- full lots at times
    refine ⟨fun σ H' => ∃ (sh : Addr) (v10 : Option V), σ = [some (.ref a), some (.ref b), some (.int (0 + (i : Nat))), some (.ref t), some (.ref D), some (.ref x), some (.ref sa), some (vI n), some (vI bt), some (.ref sh), v10, v11, v12, v13, v14, v15] ∧ Kc c H8 H' ∧ Box b c H' ∧ PaperAt n c 7 H' sh, ?_, ?_⟩
    · refine ⟨_, rfl, b, c, 4, rfl, B8, by decide, by decide, fun H9 y9 k9 B9 y90 y91 => ⟨rfl, _, rfl, ?_⟩⟩
      refine ite2 (fun z => ?_) (fun z => ⟨sh, _, rfl, k9, B9, PA8.keep k9 B8.lst⟩)
      clear z
      have SA9 := SA8.tk (k9.tk B8.lst)
      obtain ⟨tl, tp, ts, hs, htl, htp, hts⟩ := SA9.ex
      refine ⟨_, rfl, sa, _, 1, _, rfl, rfl, SqT.of hs, rfl, tp, _, rfl, .inr (SqT.of htp), _, _, rfl, rfl, ?_⟩
      rw [List.length_map]
      refine ⟨_, rfl, by omega, by omega, fun L hL => ?_⟩
      refine lc_rel (walk_range (lo := 0) (n := (((PS.length : Nat) : Int) + 1).toNat)) (fun k v H1 => ∃ q : Addr, v = .ref q ∧ H1 q = some (.tup ((lotP n fun _ => True).map vI))) (by omega) hL (fun k v H1 H2 ⟨q, e1, e2⟩ tk => ⟨q, e1, tk _ _ e2⟩) (fun _ _ => trivial) ?_ ?_
      · rintro k y H10 H11 Nx hk s10 ⟨rfl, ey⟩ kk
        exact ⟨rfl, _, rfl, (n : Int), rfl, .of_le (by decide) (by omega) (by decide) (by omega), fun q hq => kk _ _ ⟨q, rfl, by rw [upd_same, rg_range, lotP_true]⟩ (same_upd hq)⟩
      intro H10 ys h10 ly hy s10
      have LA10 : LotsAt n H10 L (PS.length + 1) (fun _ _ => True) := lots_ys h10 (by rw [ly]; omega) hy
      have B10 := B9.same s10
      have Lc : L ≠ c := (B9.new hL).1
      clear h10 ly hy ys
      obtain ⟨us, hus, lus, rus⟩ := LA10.ex
      have eD : cutV (us.map V.ref) (some ((bt : Nat) : Int)) none = (us.drop bt).map V.ref := by rw [cut_fromB, List.map_drop]
      have eT : cutV (us.map V.ref) none (some (((bt : Nat) : Int) + 1)) = (us.take (bt + 1)).map V.ref := by
        rw [show ((bt : Nat) : Int) + 1 = ((bt + 1 : Nat) : Int) from rfl, cut_toB, List.map_take]
      -- the first
      refine ⟨_, rfl, _, rfl, _, rfl, _, rfl, L, _, rfl, SqL.of hus, fun q1 hq1 => ⟨(by show 2 ≤ sizeLine; decide), fun o1 ho1 => ?_⟩⟩
      have s11 := same_upd (o := HO.lst (cutV (us.map V.ref) (some ((bt : Nat) : Int)) none)) hq1
      have h11 : (L2.upd H10 q1 (.lst (cutV (us.map V.ref) (some ((bt : Nat) : Int)) none))) q1 = some (.lst ((us.drop bt).map V.ref)) := by rw [upd_same, eD]
      have q1c := (B10.new hq1).1
      have B11 := B10.same s11
      generalize L2.upd H10 q1 (.lst (cutV (us.map V.ref) (some ((bt : Nat) : Int)) none)) = H11 at s11 h11 ho1 B11
      have s12 := same_upd (o := HO.tup [V.str "ahead", V.ref q1]) ho1
      have h12 : (L2.upd H11 o1 (.tup [V.str "ahead", V.ref q1])) o1 = some (.tup [V.str "ahead", V.ref q1]) := upd_same
      generalize L2.upd H11 o1 (.tup [V.str "ahead", V.ref q1]) = H12 at s12 h12
      have B12 := B11.same s12
      have s02 := s11.trans s12
      -- the second
      refine ⟨_, rfl, _, rfl, _, rfl, L, _, rfl, SqL.of (s02 _ _ hus), fun q2 hq2 => ⟨(by show 2 ≤ sizeLine; decide), fun o2 ho2 => ?_⟩⟩
      have s13 := same_upd (o := HO.lst (cutV (us.map V.ref) (some ((bt : Nat) : Int)) none)) hq2
      have h13 : (L2.upd H12 q2 (.lst (cutV (us.map V.ref) (some ((bt : Nat) : Int)) none))) q2 = some (.lst ((us.drop bt).map V.ref)) := by rw [upd_same, eD]
      have q2c := (B12.new hq2).1
      have B13 := B12.same s13
      generalize L2.upd H12 q2 (.lst (cutV (us.map V.ref) (some ((bt : Nat) : Int)) none)) = H13 at s13 h13 ho2 B13
      have s14 := same_upd (o := HO.tup [V.str "behind", V.ref q2]) ho2
      have h14 : (L2.upd H13 o2 (.tup [V.str "behind", V.ref q2])) o2 = some (.tup [V.str "behind", V.ref q2]) := upd_same
      generalize L2.upd H13 o2 (.tup [V.str "behind", V.ref q2]) = H14 at s14 h14
      have B14 := B13.same s14
      have s04 := (s02.trans s13).trans s14
      -- the third
      refine ⟨_, rfl, _, rfl, _, _, rfl, rfl, _, rfl, L, _, rfl, SqL.of (s04 _ _ hus), fun q3 hq3 => ⟨(by show 2 ≤ sizeLine; decide), fun o3 ho3 => ?_⟩⟩
      have s15 := same_upd (o := HO.lst (cutV (us.map V.ref) none (some (((bt : Nat) : Int) + 1)))) hq3
      have h15 : (L2.upd H14 q3 (.lst (cutV (us.map V.ref) none (some (((bt : Nat) : Int) + 1))))) q3 = some (.lst ((us.take (bt + 1)).map V.ref)) := by rw [upd_same, eT]
      have q3c := (B14.new hq3).1
      have B15 := B14.same s15
      generalize L2.upd H14 q3 (.lst (cutV (us.map V.ref) none (some (((bt : Nat) : Int) + 1)))) = H15 at s15 h15 ho3 B15
      have s16 := same_upd (o := HO.tup [V.str "ahead", V.ref q3]) ho3
      have h16 : (L2.upd H15 o3 (.tup [V.str "ahead", V.ref q3])) o3 = some (.tup [V.str "ahead", V.ref q3]) := upd_same
      generalize L2.upd H15 o3 (.tup [V.str "ahead", V.ref q3]) = H16 at s16 h16
      have B16 := B15.same s16
      have s06 := (s04.trans s15).trans s16
      refine ⟨(by show 3 ≤ sizeLine; decide), fun l17 hl17 => ?_⟩
      have s17 := same_upd (o := HO.lst [V.ref o1, V.ref o2, V.ref o3]) hl17
      refine ⟨b, c, l17, _, rfl, B16.same s17, upd_same, (B16.new hl17).1, (by show 1 ≤ 3; decide), (by show 3 ≤ 1000; decide), fun H18 v k18 B18 hv => ?_⟩
      have lst17 := (B16.same s17).lst
      have kall : Kc c H8 H18 := (k9.trans (kc_same ((s10.trans s06).trans s17))).trans k18
      have P1 := LA10.drop s06 us hus (k := bt) ((s16 _ _ (s15 _ _ (s14 _ _ (s13 _ _ (s12 _ _ h11))))))
      have P2 := LA10.drop s06 us hus (k := bt) ((s16 _ _ (s15 _ _ (s14 _ _ h13))))
      have P3 := LA10.take s06 (k := bt + 1) (by omega) us hus (s16 _ _ h15)
      have A1 : PaperAt n c 7 H16 o1 := .rows true q1 _ _ (s16 _ _ (s15 _ _ (s14 _ _ (s13 _ _ h12)))) P1 q1c (by omega) (by omega)
      have A2 : PaperAt n c 7 H16 o2 := .rows false q2 _ _ (s16 _ _ (s15 _ _ h14)) P2 q2c (by omega) (by omega)
      have A3 : PaperAt n c 7 H16 o3 := .rows true q3 _ _ h16 P3 q3c (by omega) (by omega)
      simp only [List.mem_cons, List.not_mem_nil, or_false] at hv
      rcases hv with e | e | e <;> subst e
      · exact ⟨o1, _, rfl, kall, B18, (A1.same s17).keep k18 lst17⟩
      · exact ⟨o2, _, rfl, kall, B18, (A2.same s17).keep k18 lst17⟩
      · exact ⟨o3, _, rfl, kall, B18, (A3.same s17).keep k18 lst17⟩
    rintro σ H9 ⟨sh, v10, rfl, k9, B9, PA9⟩
    have TA9 := TA8.keep k9
    have Bd9 := Bd8.keep k9 B8.lst
    have SA9 := SA8.tk (k9.tk B8.lst)
    clear TA8 Bd8 SA8 B8 k9 PA8
    -- bent
    refine ⟨_, rfl, b, c, 4, rfl, B9, by decide, by decide, fun H10 y10 k10 B10 y100 y101 => ?_⟩
    obtain ⟨bd, rfl⟩ := Int.eq_ofNat_of_zero_le y100
    refine ⟨(bd : Int), rfl, by omega, by omega, for_range (lo := 0) (n := ((bd : Nat) : Int).toNat) (fun j σ H' => ∃ (sh : Addr) (v11 : Option V), σ = [some (.ref a), some (.ref b), some (.int (0 + (i : Nat))), some (.ref t), some (.ref D), some (.ref x), some (.ref sa), some (vI n), some (vI bt), some (.ref sh), v10, v11, v12, v13, v14, v15] ∧ Kc c H9 H' ∧ Box b c H' ∧ PaperAt n c (7 + j) H' sh)
      ⟨sh, _, rfl, k10, B10, PA9.keep k10 B9.lst⟩ ?_ ?_⟩
    · rintro j σ H11 hj ⟨sh, v11, rfl, k11, B11, PA11⟩
      exact ⟨_, rfl, _, rfl, _, rfl, b, c, sh, n, 7 + j, rfl, B11, PA11, by omega, n1, n8, fun H12 sh' k12 B12 PA12 => ⟨sh', _, rfl, k11.trans k12, B12, PA12⟩⟩
    rintro σ H11 ⟨sh, v11, rfl, k11, B11, PA11⟩
    have TA11 := TA9.keep k11
    have Bd11 := Bd9.keep k11 B9.lst
    have SA11 := SA9.tk (k11.tk B9.lst)
    replace PA11 := PA11.mono (N' := 13) (by omega)
    clear TA9 Bd9 SA9 B9 k11 k10 B10 PA9
    -- its text
    obtain ⟨d, d1, d2, d3, d4, dp⟩ := paper_data (K := K) PA11 n8 (Nat.le_refl _)
    refine ⟨_, rfl, sh, d, rfl, dp _ (Same.refl _), d1, d2, d3, d4, ?_⟩
    refine ⟨_, rfl, ?_⟩
    refine ⟨n, rfl, by omega, by omega, for_range (lo := 0) (n := ((n : Nat) : Int).toNat) (fun k σ H' => (∃ (v13 v14 : Option V), σ = [some (.ref a), some (.ref b), some (.int (0 + (i : Nat))), some (.ref t), some (.ref D), some (.ref x), some (.ref sa), some (vI n), some (vI bt), some (.ref sh), v10, v11, some (.str d.shown), v13, v14, v15]) ∧ Same H11 H')
      ⟨⟨_, _, rfl⟩, Same.refl _⟩ ?_ (fun σ H' ⟨⟨_, _, e⟩, s'⟩ => ⟨⟨_, _, _, _, _, _, _, _, _, _, _, _, _, _, e⟩, B11.same s'⟩)⟩
    rintro k σ H12 hk ⟨⟨v13', v14', rfl⟩, s12⟩
    have kn : k < n := by omega
    rw [Int.zero_add]
    have TA12 := TA11.same s12
    have Bd12 := Bd11.same s12
    have SA12 := SA11.same s12
    have PA12 := PA11.same s12
    -- what it must be
    obtain ⟨g, hg1, hg2⟩ : ∃ g : Bool, (∀ {Hx : Hp} {Q : VK}, Same H12 Hx → (∀ H', Same Hx H' → Q (.bl g) H') → spRightU K [.ref D, .ref sa, vI bt, vI k, .ref sh] Hx Q E0) ∧ (∀ {Hx : Hp} {Q : VK}, Same H12 Hx → (∀ H', Same Hx H' → Q (.bl g) H') → spHoldsU K [.ref x, .ref sa, vI bt, vI k, .ref sh] Hx Q E0) := by
      cases PA12 with
      | rows aw l m q ht' LA lc m1 mN =>
        exact ⟨decB (RowOk n p E PS (openP M SN) q bt k m aw), fun {Hx Q} sx h => .inl ⟨c, D, sa, sh, l, n, bt, k, m, rs, M, E, p, PS, SN, q, aw, rfl, n8, TA12.same sx, S, SA12.same sx, bp, kn, sx _ _ ht', LA.same sx, m1, by omega, h⟩,
          fun {Hx Q} sx h => .inl ⟨c, x, sa, sh, l, n, bt, k, m, E, M, p, PS, SN, q, aw, rfl, Bd12.same sx, S, SA12.same sx, ex, bp, kn, sx _ _ ht', LA.same sx, m1, by omega, h⟩⟩
      | walk tw zs ht' htw lz bz =>
        exact ⟨decB (WalkOk n p E PS (openP M SN) bt k zs), fun {Hx Q} sx h => .inr ⟨c, D, sa, sh, tw, n, bt, k, rs, M, E, p, PS, SN, zs, rfl, n8, TA12.same sx, S, SA12.same sx, bp, kn, sx _ _ ht', sx _ _ htw, by omega, h⟩,
          fun {Hx Q} sx h => .inr ⟨c, x, sa, sh, tw, n, bt, k, E, M, p, PS, SN, zs, rfl, Bd12.same sx, S, SA12.same sx, ex, bp, kn, sx _ _ ht', sx _ _ htw, h⟩⟩
    refine ⟨_, rfl, _, rfl, _, rfl, _, rfl, _, rfl, hg1 (Same.refl _) fun H13 s13 => ?_⟩
    refine ⟨_, rfl, _, rfl, _, rfl, _, rfl, _, rfl, hg2 s13 fun H14 s14 => ?_⟩
    refine ⟨_, rfl, _, _, rfl, ⟨rfl, .inr (.inl ⟨_, rfl⟩)⟩, fun H15 s15 => ⟨_, rfl, iteF ?_⟩⟩
    have s1115 := ((s12.trans s13).trans s14).trans s15
    refine ⟨_, rfl, sh, d, rfl, dp _ s1115, d1, d2, d3, d4, _, rfl, rfl, _, rfl, ?_⟩
    show if (!decide (V.str d.shown = V.str d.shown)) = true then _ else _
    rw [decide_eq_true rfl]
    exact iteF ⟨⟨_, _, rfl⟩, s1115⟩
end
end RL
namespace RL
open PySem PySem.Spec PyProof.Rows L2
theorem law_facts {P : Program} {w : World} {K : PySem.W.Frag} {h : Heap} {mg : Str → Option Value} {f : Addr} (X : K.In h) (G : h.Ns mainGlobals mg) (hfa : mg ("law" : Str) = some (.ref f)) (c : He.SaysD fa fn K) :
    ∀ (a : Addr) (ns : List Int) (s : Shared), ns.length ≤ 63 → RLG.RunsTrue P w K mg f a ns s := by
  have T : Tx K mg := ⟨c, fun x z => He.glo_ok X G z, fun x z => He.free_ok X G z, fun x i z => He.int_ok X G z⟩
  obtain ⟨fd, F⟩ := T.d_law
  have e := hfa.symm.trans T.glo_law
  cases e
  have b := FunD.bindsA (ps := ["_law_script"]) F fun _ _ _ _ _ _ us hl => match us, hl with | [_], _ => rfl
  exact fun a ns s hl => ok_law T F hl (fun s v => b s [v] rfl) ⟨rfl, by decide, by decide⟩
end RL
open PySem PySem.W PySem.Calls PyProof.Rows
theorem PySem.Challenge.cw_roamlook_k20_papers_judged_holds : PySem.Challenge.rw_roamlook_k20_papers_judged.Holds := by
  w_on; o_law
  refine HandSHeadRun.head_any (r := OpenLaw.row PySem.Challenge.rw_roamlook_k20_papers_judged) (q := view (OpenLaw.row PySem.Challenge.rw_roamlook_k20_papers_judged).prog [92]) (H := RL.hkL) (ob := RL.obL) (M := 9000) (loose := RL.loose) (d := HandSHeadRun.topDef (OpenLaw.row PySem.Challenge.rw_roamlook_k20_papers_judged).prog 92) (kwd := []) RL.obL_eq
    (by kernel_rfl) (fun s => by kernel_rfl) RL.run (by kernel_rfl) (by kernel_rfl) (by kernel_rfl) (by rfl) (by first | assumption | decide +kernel) (by decide +kernel) ⟨rfl, rfl, rfl, rfl, rfl, by decide +kernel⟩ ?hw ?hc
  case hw => w_witness2
  case hc =>
    refine RLG.walk_ofG (l := PySem.Challenge.rw_roamlook_k20_papers_judged) (n := 63) rfl (by decide) (by kernel_rfl) ?F
    intro w mg fa h Y G hmg0
    obtain ⟨K, KX, c⟩ := Y
    have hmg : mg ("law" : PySem.Str) = some (.ref fa) := by
      have e : (HandSHeadRun.topDef (OpenLaw.row PySem.Challenge.rw_roamlook_k20_papers_judged).prog 92).name = ("law" : PySem.Str) := by kernel_rfl
      rw [← e]
      exact hmg0
    exact ⟨K, KX, RL.law_facts (P := (PySem.Challenge.rw_roamlook_k20_papers_judged).prog) (w := w) KX G hmg c⟩
