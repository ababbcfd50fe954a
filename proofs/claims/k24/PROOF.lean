import PyProof.Rows.All
import Wide.All
import OpenK.AllK
import Wide.FinOn
import KE.KStateDown
import HandS.Base
import HandS.Call
import HandS.List
import HandS.Comp
import HandS.Ends
import HandS.Dict
import HandS.Iter
import HandS.Text
import HandS.More
import HandS.Words
import HandS.WordsList
import HandS.WordsDict
import HandS.WordsExc
import HandS.Exc
import HandS.Defaults
import HandS.IsInst
import HandS.Set
import HandS.Strs
import HandS.SetFor
import HandS.TupSets
import HandS.TupMul
import HandS.TupAny
import HandS.TupLe
import HandS.Conv
import HandS.Walk
import HandS.Evl
import HandS.Flow
import HandS.Style
import HandS.Deep
import HandS.DeepEq
import HandS.SetBool
import HandS.Codes
import HandS.Head0
import HandS.Head1
import HandS.Head2
import HandS.HeadEnd
import HandS.HeadHook1
import HandS.HeadHook2
import PySem.Challenge.RW_roamlook_k24_tables_judged
import KE.GoesEnum
import PyProof.TupleOfSeq
import PyProof.EnumMake
import HandS.Zip0
import HandS.Zip
import KE.KRevSl
import KE.KDictZip
import PyProof.ListNew
import HandS.ExcValue
import HandS.Flt
import HandS.FltList
import HandS.SetKeys
import HandS.DictComp
import KE.KEqSeq
import PyProof.ReprRoads
import HandS.Lambda
import PyProof.ReprLen
set_option Elab.async false
set_option linter.all false
set_option maxRecDepth 100000
set_option maxHeartbeats 0
/-! The text by places, its facts by names. -/
namespace RL
open PySem PySem.Spec PyProof.Rows L2
def top (i : Nat) : Stmt := PySem.Challenge.pw_roamlook_k24_tables_judged.main.body.getD i (.Pass ⟨0, 0, 0, 0⟩)
abbrev s_is_number : Stmt := top 14
abbrev s_is_between : Stmt := top 15
abbrev s_is_lot : Stmt := top 16
abbrev s_check_lot : Stmt := top 17
abbrev s_is_filled_lot : Stmt := top 18
abbrev s_rising_ways : Stmt := top 19
abbrev s_fars_from : Stmt := top 20
abbrev s_way_text : Stmt := top 21
abbrev s_Board_init : Stmt := inClass (top 22) 0
abbrev s_Board_ways : Stmt := inClass (top 22) 1
abbrev s_Board_far : Stmt := inClass (top 22) 3
abbrev s_Board_within : Stmt := inClass (top 22) 4
abbrev s_Board_check_place : Stmt := inClass (top 22) 7
abbrev s_Board_len : Stmt := inClass (top 22) 9
abbrev s_are_parts : Stmt := top 25
abbrev s_is_look : Stmt := top 26
abbrev s_near_answer : Stmt := top 27
abbrev s_answers : Stmt := top 28
abbrev s_is_pace : Stmt := top 32
abbrev s_check_pace : Stmt := top 33
abbrev s_step : Stmt := top 34
abbrev s_are_paces : Stmt := top 37
abbrev s_is_triple : Stmt := top 38
abbrev s_are_triples : Stmt := top 39
abbrev s_look_story : Stmt := top 40
abbrev s_last_beat : Stmt := top 41
abbrev s_miss_counts : Stmt := top 44
abbrev s_check_count : Stmt := top 45
abbrev s_first_needs : Stmt := top 46
abbrev s_next_needs : Stmt := top 47
abbrev s_least_row : Stmt := top 48
abbrev s_row_has : Stmt := top 49
abbrev s_table : Stmt := top 50
abbrev s_is_shut : Stmt := top 51
abbrev s_is_sized : Stmt := top 52
abbrev s_table_holds : Stmt := top 53
abbrev s__law_box : Stmt := top 55
abbrev s__law_pick : Stmt := top 56
abbrev s__law_from : Stmt := top 57
abbrev s__law_mixed : Stmt := top 58
abbrev s__law_same : Stmt := top 59
abbrev s__law_ways : Stmt := top 60
abbrev s__law_board : Stmt := top 61
abbrev s__law_made : Stmt := top 62
abbrev s__law_spans : Stmt := top 63
abbrev s__law_pace : Stmt := top 64
abbrev s__law_reached : Stmt := top 65
abbrev s__law_lot : Stmt := top 66
abbrev s__law_start : Stmt := top 67
abbrev s__law_look : Stmt := top 68
abbrev s__law_answer : Stmt := top 69
abbrev s__law_seen : Stmt := top 70
abbrev s__law_story : Stmt := top 71
abbrev s__law_ground : Stmt := top 72
abbrev s__law_counts : Stmt := top 73
abbrev s__law_in_from : Stmt := top 74
abbrev s__law_table_right : Stmt := top 75
abbrev s__law_bent_rows : Stmt := top 76
abbrev s_law : Stmt := top 77
abbrev FnP (K : PySem.W.Frag) (x q : Str) (st : Stmt) (ds : List V) (f : Addr) (fd : FuncData) : Prop := FunD K x q (defArgs st) (defBody st) (defScope st) ds [] f fd
def d_is_number : He.DefD := ⟨("is_number", none), "is_number", "is_number", defArgs s_is_number, defBody s_is_number, defScope s_is_number, [], []⟩
def d_is_between : He.DefD := ⟨("is_between", none), "is_between", "is_between", defArgs s_is_between, defBody s_is_between, defScope s_is_between, [], []⟩
def d_is_lot : He.DefD := ⟨("is_lot", none), "is_lot", "is_lot", defArgs s_is_lot, defBody s_is_lot, defScope s_is_lot, [], []⟩
def d_check_lot : He.DefD := ⟨("check_lot", none), "check_lot", "check_lot", defArgs s_check_lot, defBody s_check_lot, defScope s_check_lot, [], []⟩
def d_is_filled_lot : He.DefD := ⟨("is_filled_lot", none), "is_filled_lot", "is_filled_lot", defArgs s_is_filled_lot, defBody s_is_filled_lot, defScope s_is_filled_lot, [], []⟩
def d_rising_ways : He.DefD := ⟨("rising_ways", none), "rising_ways", "rising_ways", defArgs s_rising_ways, defBody s_rising_ways, defScope s_rising_ways, [], []⟩
def d_fars_from : He.DefD := ⟨("fars_from", none), "fars_from", "fars_from", defArgs s_fars_from, defBody s_fars_from, defScope s_fars_from, [], []⟩
def d_way_text : He.DefD := ⟨("way_text", none), "way_text", "way_text", defArgs s_way_text, defBody s_way_text, defScope s_way_text, [], []⟩
def d_Board_init : He.DefD := ⟨("Board", some "__init__"), "__init__", "Board.__init__", defArgs s_Board_init, defBody s_Board_init, defScope s_Board_init, [.adr (He.dflAt ("Board", some "__init__") 0)], []⟩
def d_Board_ways : He.DefD := ⟨("Board", some "ways"), "ways", "Board.ways", defArgs s_Board_ways, defBody s_Board_ways, defScope s_Board_ways, [], []⟩
def d_Board_far : He.DefD := ⟨("Board", some "far"), "far", "Board.far", defArgs s_Board_far, defBody s_Board_far, defScope s_Board_far, [], []⟩
def d_Board_within : He.DefD := ⟨("Board", some "within"), "within", "Board.within", defArgs s_Board_within, defBody s_Board_within, defScope s_Board_within, [], []⟩
def d_Board_check_place : He.DefD := ⟨("Board", some "check_place"), "check_place", "Board.check_place", defArgs s_Board_check_place, defBody s_Board_check_place, defScope s_Board_check_place, [], []⟩
def d_Board_len : He.DefD := ⟨("Board", some "__len__"), "__len__", "Board.__len__", defArgs s_Board_len, defBody s_Board_len, defScope s_Board_len, [], []⟩
def d_are_parts : He.DefD := ⟨("are_parts", none), "are_parts", "are_parts", defArgs s_are_parts, defBody s_are_parts, defScope s_are_parts, [], []⟩
def d_is_look : He.DefD := ⟨("is_look", none), "is_look", "is_look", defArgs s_is_look, defBody s_is_look, defScope s_is_look, [], []⟩
def d_near_answer : He.DefD := ⟨("near_answer", none), "near_answer", "near_answer", defArgs s_near_answer, defBody s_near_answer, defScope s_near_answer, [], []⟩
def d_answers : He.DefD := ⟨("answers", none), "answers", "answers", defArgs s_answers, defBody s_answers, defScope s_answers, [], []⟩
def d_is_pace : He.DefD := ⟨("is_pace", none), "is_pace", "is_pace", defArgs s_is_pace, defBody s_is_pace, defScope s_is_pace, [], []⟩
def d_check_pace : He.DefD := ⟨("check_pace", none), "check_pace", "check_pace", defArgs s_check_pace, defBody s_check_pace, defScope s_check_pace, [], []⟩
def d_step : He.DefD := ⟨("step", none), "step", "step", defArgs s_step, defBody s_step, defScope s_step, [], []⟩
def d_are_paces : He.DefD := ⟨("are_paces", none), "are_paces", "are_paces", defArgs s_are_paces, defBody s_are_paces, defScope s_are_paces, [], []⟩
def d_is_triple : He.DefD := ⟨("is_triple", none), "is_triple", "is_triple", defArgs s_is_triple, defBody s_is_triple, defScope s_is_triple, [], []⟩
def d_are_triples : He.DefD := ⟨("are_triples", none), "are_triples", "are_triples", defArgs s_are_triples, defBody s_are_triples, defScope s_are_triples, [], []⟩
def d_look_story : He.DefD := ⟨("look_story", none), "look_story", "look_story", defArgs s_look_story, defBody s_look_story, defScope s_look_story, [], []⟩
def d_last_beat : He.DefD := ⟨("last_beat", none), "last_beat", "last_beat", defArgs s_last_beat, defBody s_last_beat, defScope s_last_beat, [], []⟩
def d_miss_counts : He.DefD := ⟨("miss_counts", none), "miss_counts", "miss_counts", defArgs s_miss_counts, defBody s_miss_counts, defScope s_miss_counts, [], []⟩
def d_check_count : He.DefD := ⟨("check_count", none), "check_count", "check_count", defArgs s_check_count, defBody s_check_count, defScope s_check_count, [], []⟩
def d_first_needs : He.DefD := ⟨("first_needs", none), "first_needs", "first_needs", defArgs s_first_needs, defBody s_first_needs, defScope s_first_needs, [], []⟩
def d_next_needs : He.DefD := ⟨("next_needs", none), "next_needs", "next_needs", defArgs s_next_needs, defBody s_next_needs, defScope s_next_needs, [], []⟩
def d_least_row : He.DefD := ⟨("least_row", none), "least_row", "least_row", defArgs s_least_row, defBody s_least_row, defScope s_least_row, [], []⟩
def d_row_has : He.DefD := ⟨("row_has", none), "row_has", "row_has", defArgs s_row_has, defBody s_row_has, defScope s_row_has, [], []⟩
def d_table : He.DefD := ⟨("table", none), "table", "table", defArgs s_table, defBody s_table, defScope s_table, [], []⟩
def d_is_shut : He.DefD := ⟨("is_shut", none), "is_shut", "is_shut", defArgs s_is_shut, defBody s_is_shut, defScope s_is_shut, [], []⟩
def d_is_sized : He.DefD := ⟨("is_sized", none), "is_sized", "is_sized", defArgs s_is_sized, defBody s_is_sized, defScope s_is_sized, [], []⟩
def d_table_holds : He.DefD := ⟨("table_holds", none), "table_holds", "table_holds", defArgs s_table_holds, defBody s_table_holds, defScope s_table_holds, [], []⟩
def d__law_box : He.DefD := ⟨("_law_box", none), "_law_box", "_law_box", defArgs s__law_box, defBody s__law_box, defScope s__law_box, [], []⟩
def d__law_pick : He.DefD := ⟨("_law_pick", none), "_law_pick", "_law_pick", defArgs s__law_pick, defBody s__law_pick, defScope s__law_pick, [], []⟩
def d__law_from : He.DefD := ⟨("_law_from", none), "_law_from", "_law_from", defArgs s__law_from, defBody s__law_from, defScope s__law_from, [], []⟩
def d__law_mixed : He.DefD := ⟨("_law_mixed", none), "_law_mixed", "_law_mixed", defArgs s__law_mixed, defBody s__law_mixed, defScope s__law_mixed, [], []⟩
def d__law_same : He.DefD := ⟨("_law_same", none), "_law_same", "_law_same", defArgs s__law_same, defBody s__law_same, defScope s__law_same, [], []⟩
def d__law_ways : He.DefD := ⟨("_law_ways", none), "_law_ways", "_law_ways", defArgs s__law_ways, defBody s__law_ways, defScope s__law_ways, [], []⟩
def d__law_board : He.DefD := ⟨("_law_board", none), "_law_board", "_law_board", defArgs s__law_board, defBody s__law_board, defScope s__law_board, [], []⟩
def d__law_made : He.DefD := ⟨("_law_made", none), "_law_made", "_law_made", defArgs s__law_made, defBody s__law_made, defScope s__law_made, [], []⟩
def d__law_spans : He.DefD := ⟨("_law_spans", none), "_law_spans", "_law_spans", defArgs s__law_spans, defBody s__law_spans, defScope s__law_spans, [], []⟩
def d__law_pace : He.DefD := ⟨("_law_pace", none), "_law_pace", "_law_pace", defArgs s__law_pace, defBody s__law_pace, defScope s__law_pace, [], []⟩
def d__law_reached : He.DefD := ⟨("_law_reached", none), "_law_reached", "_law_reached", defArgs s__law_reached, defBody s__law_reached, defScope s__law_reached, [], []⟩
def d__law_lot : He.DefD := ⟨("_law_lot", none), "_law_lot", "_law_lot", defArgs s__law_lot, defBody s__law_lot, defScope s__law_lot, [], []⟩
def d__law_start : He.DefD := ⟨("_law_start", none), "_law_start", "_law_start", defArgs s__law_start, defBody s__law_start, defScope s__law_start, [], []⟩
def d__law_look : He.DefD := ⟨("_law_look", none), "_law_look", "_law_look", defArgs s__law_look, defBody s__law_look, defScope s__law_look, [], []⟩
def d__law_answer : He.DefD := ⟨("_law_answer", none), "_law_answer", "_law_answer", defArgs s__law_answer, defBody s__law_answer, defScope s__law_answer, [], []⟩
def d__law_seen : He.DefD := ⟨("_law_seen", none), "_law_seen", "_law_seen", defArgs s__law_seen, defBody s__law_seen, defScope s__law_seen, [], []⟩
def d__law_story : He.DefD := ⟨("_law_story", none), "_law_story", "_law_story", defArgs s__law_story, defBody s__law_story, defScope s__law_story, [], []⟩
def d__law_ground : He.DefD := ⟨("_law_ground", none), "_law_ground", "_law_ground", defArgs s__law_ground, defBody s__law_ground, defScope s__law_ground, [], []⟩
def d__law_counts : He.DefD := ⟨("_law_counts", none), "_law_counts", "_law_counts", defArgs s__law_counts, defBody s__law_counts, defScope s__law_counts, [], []⟩
def d__law_in_from : He.DefD := ⟨("_law_in_from", none), "_law_in_from", "_law_in_from", defArgs s__law_in_from, defBody s__law_in_from, defScope s__law_in_from, [], []⟩
def d__law_table_right : He.DefD := ⟨("_law_table_right", none), "_law_table_right", "_law_table_right", defArgs s__law_table_right, defBody s__law_table_right, defScope s__law_table_right, [], []⟩
def d__law_bent_rows : He.DefD := ⟨("_law_bent_rows", none), "_law_bent_rows", "_law_bent_rows", defArgs s__law_bent_rows, defBody s__law_bent_rows, defScope s__law_bent_rows, [], []⟩
def d_law : He.DefD := ⟨("law", none), "law", "law", defArgs s_law, defBody s_law, defScope s_law, [], []⟩
def fn : List He.DefD := [d_is_number, d_is_between, d_is_lot, d_check_lot, d_is_filled_lot, d_rising_ways, d_fars_from, d_way_text, d_Board_init, d_Board_ways, d_Board_far, d_Board_within, d_Board_check_place, d_Board_len, d_are_parts, d_is_look, d_near_answer, d_answers, d_is_pace, d_check_pace, d_step, d_are_paces, d_is_triple, d_are_triples, d_look_story, d_last_beat, d_miss_counts, d_check_count, d_first_needs, d_next_needs, d_least_row, d_row_has, d_table, d_is_shut, d_is_sized, d_table_holds, d__law_box, d__law_pick, d__law_from, d__law_mixed, d__law_same, d__law_ways, d__law_board, d__law_made, d__law_spans, d__law_pace, d__law_reached, d__law_lot, d__law_start, d__law_look, d__law_answer, d__law_seen, d__law_story, d__law_ground, d__law_counts, d__law_in_from, d__law_table_right, d__law_bent_rows, d_law]
def fa0 : List He.Fa := [.glo "is_number", .glo "is_between", .glo "is_lot", .glo "check_lot", .glo "is_filled_lot", .glo "rising_ways", .glo "fars_from", .glo "way_text", .glo "are_parts", .glo "is_look", .glo "near_answer", .glo "answers", .glo "is_pace", .glo "check_pace", .glo "step", .glo "are_paces", .glo "is_triple", .glo "are_triples", .glo "look_story", .glo "last_beat", .glo "miss_counts", .glo "check_count", .glo "first_needs", .glo "next_needs", .glo "least_row", .glo "row_has", .glo "table", .glo "is_shut", .glo "is_sized", .glo "table_holds"]
def fa1 : List He.Fa := [.glo "_law_box", .glo "_law_pick", .glo "_law_from", .glo "_law_mixed", .glo "_law_same", .glo "_law_ways", .glo "_law_board", .glo "_law_made", .glo "_law_spans", .glo "_law_pace", .glo "_law_reached", .glo "_law_lot", .glo "_law_start", .glo "_law_look", .glo "_law_answer", .glo "_law_seen", .glo "_law_story", .glo "_law_ground", .glo "_law_counts", .glo "_law_in_from", .glo "_law_table_right", .glo "_law_bent_rows", .glo "law", .glo "Board", .free "abs", .free "all", .free "any", .free "bool", .free "enumerate", .free "int"]
def fa2 : List He.Fa := [.free "isinstance", .free "len", .free "list", .free "max", .free "min", .free "range", .free "repr", .free "set", .free "sorted", .free "str", .free "tuple", .free "zip", .int "MOST_PLACES" 8, .int "MOST_NEAR" 7, .int "MOST_PACE" 7, .int "MOST_BEATS" 12, .int "MOST_TRIPLES" 24, .int "MOST_SEEN" 24, .cls "Board", .mkr "Board", .noat "Board" "many", .noat "Board" "pairs", .noat "Board" "leads", .noat "Board" "fars", .meth "Board" "ways", .meth "Board" "far", .meth "Board" "within", .meth "Board" "check_place", .meth "Board" "__len__"]
def fa : List He.Fa := fa0 ++ fa1 ++ fa2
abbrev R : PySem.W.OpenRow := PySem.W.OpenLaw.row PySem.Challenge.rw_roamlook_k24_tables_judged
abbrev hk : PySem.W.Hook := He.hookD 5 fa fn
def ob (s : PySem.W.SharedT) : He.AlD := He.obsDG 5 fa fn (HandSHeadRun.getT s)
theorem ob_eq (s : PySem.W.SharedT) : ob s = hk.obs s.abs := He.obsDG_eq (HandSHeadRun.getT_eq s)
end RL
namespace RL
open PySem PySem.Spec PyProof.Rows L2
def lo0 : List PySem.Str := ["_wall", "RoamError", "BadMany", "BadWay", "BadPace", "BadLot", "BadLook", "BadStory", "BadCount", "Missing", "NoPlace", "MOST_PLACES", "is_number", "is_between", "is_lot", "check_lot", "is_filled_lot", "rising_ways", "fars_from", "way_text", "Board", "MOST_NEAR", "are_parts", "is_look", "near_answer", "answers", "MOST_PACE", "MOST_BEATS", "is_pace", "check_pace"]
def lo1 : List PySem.Str := ["step", "MOST_TRIPLES", "are_paces", "is_triple", "are_triples", "look_story", "last_beat", "MOST_SEEN", "miss_counts", "check_count", "first_needs", "next_needs", "least_row", "row_has", "table", "is_shut", "is_sized", "table_holds", "_law_box", "_law_pick", "_law_from", "_law_mixed", "_law_same", "_law_ways", "_law_board", "_law_made", "_law_spans", "_law_pace", "_law_reached", "_law_lot"]
def lo2 : List PySem.Str := ["_law_start", "_law_look", "_law_answer", "_law_seen", "_law_story", "_law_ground", "_law_counts", "_law_in_from", "_law_table_right", "_law_bent_rows"]
def loose : List PySem.Str := lo0 ++ lo1 ++ lo2
abbrev hkL : PySem.W.Hook := hk
abbrev obL := ob
theorem obL_eq (s : PySem.W.SharedT) : obL s = hkL.obs s.abs := ob_eq s
theorem run (w : World) : HandSHeadRun.RunEq R (PySem.W.view R.prog [77]) hkL obL 9000 loose w := by
  intro os
  kernel_rfl
end RL
namespace RL
open PySem PySem.Spec PyProof.Rows L2
/-- what the top has left, by names -/
structure Tx (K : PySem.W.Frag) (mg : Str → Option Value) : Prop where
  sa : He.SaysD fa fn K
  hg : ∀ x, (He.Fa.glo x).ok K = true → mg x = some (.ref (He.ga K x))
  hf : ∀ x, (He.Fa.free x).ok K = true → mg x = none
  hi : ∀ x i, (He.Fa.int x i).ok K = true → ∃ t, mg x = some (.int i t)
/-- the class -/
abbrev cB (K : PySem.W.Frag) : Addr := He.ga K "Board"
abbrev mB (K : PySem.W.Frag) (m : Str) : Addr := He.ma K (He.ga K "Board") m
abbrev mC (K : PySem.W.Frag) (C m : Str) : Addr := He.ma K (He.ga K C) m
section
variable {K : PySem.W.Frag} {mg : Str → Option Value}
theorem Tx.glo_is_number (T : Tx K mg) : mg "is_number" = some (.ref (He.ga K "is_number")) := T.hg _ (T.sa.fact 0)
theorem Tx.glo_is_between (T : Tx K mg) : mg "is_between" = some (.ref (He.ga K "is_between")) := T.hg _ (T.sa.fact 1)
theorem Tx.glo_is_lot (T : Tx K mg) : mg "is_lot" = some (.ref (He.ga K "is_lot")) := T.hg _ (T.sa.fact 2)
theorem Tx.glo_check_lot (T : Tx K mg) : mg "check_lot" = some (.ref (He.ga K "check_lot")) := T.hg _ (T.sa.fact 3)
theorem Tx.glo_is_filled_lot (T : Tx K mg) : mg "is_filled_lot" = some (.ref (He.ga K "is_filled_lot")) := T.hg _ (T.sa.fact 4)
theorem Tx.glo_rising_ways (T : Tx K mg) : mg "rising_ways" = some (.ref (He.ga K "rising_ways")) := T.hg _ (T.sa.fact 5)
theorem Tx.glo_fars_from (T : Tx K mg) : mg "fars_from" = some (.ref (He.ga K "fars_from")) := T.hg _ (T.sa.fact 6)
theorem Tx.glo_way_text (T : Tx K mg) : mg "way_text" = some (.ref (He.ga K "way_text")) := T.hg _ (T.sa.fact 7)
theorem Tx.glo_are_parts (T : Tx K mg) : mg "are_parts" = some (.ref (He.ga K "are_parts")) := T.hg _ (T.sa.fact 8)
theorem Tx.glo_is_look (T : Tx K mg) : mg "is_look" = some (.ref (He.ga K "is_look")) := T.hg _ (T.sa.fact 9)
theorem Tx.glo_near_answer (T : Tx K mg) : mg "near_answer" = some (.ref (He.ga K "near_answer")) := T.hg _ (T.sa.fact 10)
theorem Tx.glo_answers (T : Tx K mg) : mg "answers" = some (.ref (He.ga K "answers")) := T.hg _ (T.sa.fact 11)
theorem Tx.glo_is_pace (T : Tx K mg) : mg "is_pace" = some (.ref (He.ga K "is_pace")) := T.hg _ (T.sa.fact 12)
theorem Tx.glo_check_pace (T : Tx K mg) : mg "check_pace" = some (.ref (He.ga K "check_pace")) := T.hg _ (T.sa.fact 13)
theorem Tx.glo_step (T : Tx K mg) : mg "step" = some (.ref (He.ga K "step")) := T.hg _ (T.sa.fact 14)
theorem Tx.glo_are_paces (T : Tx K mg) : mg "are_paces" = some (.ref (He.ga K "are_paces")) := T.hg _ (T.sa.fact 15)
theorem Tx.glo_is_triple (T : Tx K mg) : mg "is_triple" = some (.ref (He.ga K "is_triple")) := T.hg _ (T.sa.fact 16)
theorem Tx.glo_are_triples (T : Tx K mg) : mg "are_triples" = some (.ref (He.ga K "are_triples")) := T.hg _ (T.sa.fact 17)
theorem Tx.glo_look_story (T : Tx K mg) : mg "look_story" = some (.ref (He.ga K "look_story")) := T.hg _ (T.sa.fact 18)
theorem Tx.glo_last_beat (T : Tx K mg) : mg "last_beat" = some (.ref (He.ga K "last_beat")) := T.hg _ (T.sa.fact 19)
theorem Tx.glo_miss_counts (T : Tx K mg) : mg "miss_counts" = some (.ref (He.ga K "miss_counts")) := T.hg _ (T.sa.fact 20)
theorem Tx.glo_check_count (T : Tx K mg) : mg "check_count" = some (.ref (He.ga K "check_count")) := T.hg _ (T.sa.fact 21)
theorem Tx.glo_first_needs (T : Tx K mg) : mg "first_needs" = some (.ref (He.ga K "first_needs")) := T.hg _ (T.sa.fact 22)
theorem Tx.glo_next_needs (T : Tx K mg) : mg "next_needs" = some (.ref (He.ga K "next_needs")) := T.hg _ (T.sa.fact 23)
theorem Tx.glo_least_row (T : Tx K mg) : mg "least_row" = some (.ref (He.ga K "least_row")) := T.hg _ (T.sa.fact 24)
theorem Tx.glo_row_has (T : Tx K mg) : mg "row_has" = some (.ref (He.ga K "row_has")) := T.hg _ (T.sa.fact 25)
theorem Tx.glo_table (T : Tx K mg) : mg "table" = some (.ref (He.ga K "table")) := T.hg _ (T.sa.fact 26)
theorem Tx.glo_is_shut (T : Tx K mg) : mg "is_shut" = some (.ref (He.ga K "is_shut")) := T.hg _ (T.sa.fact 27)
theorem Tx.glo_is_sized (T : Tx K mg) : mg "is_sized" = some (.ref (He.ga K "is_sized")) := T.hg _ (T.sa.fact 28)
theorem Tx.glo_table_holds (T : Tx K mg) : mg "table_holds" = some (.ref (He.ga K "table_holds")) := T.hg _ (T.sa.fact 29)
theorem Tx.glo_law_box (T : Tx K mg) : mg "_law_box" = some (.ref (He.ga K "_law_box")) := T.hg _ (T.sa.fact 30)
theorem Tx.glo_law_pick (T : Tx K mg) : mg "_law_pick" = some (.ref (He.ga K "_law_pick")) := T.hg _ (T.sa.fact 31)
theorem Tx.glo_law_from (T : Tx K mg) : mg "_law_from" = some (.ref (He.ga K "_law_from")) := T.hg _ (T.sa.fact 32)
theorem Tx.glo_law_mixed (T : Tx K mg) : mg "_law_mixed" = some (.ref (He.ga K "_law_mixed")) := T.hg _ (T.sa.fact 33)
theorem Tx.glo_law_same (T : Tx K mg) : mg "_law_same" = some (.ref (He.ga K "_law_same")) := T.hg _ (T.sa.fact 34)
theorem Tx.glo_law_ways (T : Tx K mg) : mg "_law_ways" = some (.ref (He.ga K "_law_ways")) := T.hg _ (T.sa.fact 35)
theorem Tx.glo_law_board (T : Tx K mg) : mg "_law_board" = some (.ref (He.ga K "_law_board")) := T.hg _ (T.sa.fact 36)
theorem Tx.glo_law_made (T : Tx K mg) : mg "_law_made" = some (.ref (He.ga K "_law_made")) := T.hg _ (T.sa.fact 37)
theorem Tx.glo_law_spans (T : Tx K mg) : mg "_law_spans" = some (.ref (He.ga K "_law_spans")) := T.hg _ (T.sa.fact 38)
theorem Tx.glo_law_pace (T : Tx K mg) : mg "_law_pace" = some (.ref (He.ga K "_law_pace")) := T.hg _ (T.sa.fact 39)
theorem Tx.glo_law_reached (T : Tx K mg) : mg "_law_reached" = some (.ref (He.ga K "_law_reached")) := T.hg _ (T.sa.fact 40)
theorem Tx.glo_law_lot (T : Tx K mg) : mg "_law_lot" = some (.ref (He.ga K "_law_lot")) := T.hg _ (T.sa.fact 41)
theorem Tx.glo_law_start (T : Tx K mg) : mg "_law_start" = some (.ref (He.ga K "_law_start")) := T.hg _ (T.sa.fact 42)
theorem Tx.glo_law_look (T : Tx K mg) : mg "_law_look" = some (.ref (He.ga K "_law_look")) := T.hg _ (T.sa.fact 43)
theorem Tx.glo_law_answer (T : Tx K mg) : mg "_law_answer" = some (.ref (He.ga K "_law_answer")) := T.hg _ (T.sa.fact 44)
theorem Tx.glo_law_seen (T : Tx K mg) : mg "_law_seen" = some (.ref (He.ga K "_law_seen")) := T.hg _ (T.sa.fact 45)
theorem Tx.glo_law_story (T : Tx K mg) : mg "_law_story" = some (.ref (He.ga K "_law_story")) := T.hg _ (T.sa.fact 46)
theorem Tx.glo_law_ground (T : Tx K mg) : mg "_law_ground" = some (.ref (He.ga K "_law_ground")) := T.hg _ (T.sa.fact 47)
theorem Tx.glo_law_counts (T : Tx K mg) : mg "_law_counts" = some (.ref (He.ga K "_law_counts")) := T.hg _ (T.sa.fact 48)
theorem Tx.glo_law_in_from (T : Tx K mg) : mg "_law_in_from" = some (.ref (He.ga K "_law_in_from")) := T.hg _ (T.sa.fact 49)
theorem Tx.glo_law_table_right (T : Tx K mg) : mg "_law_table_right" = some (.ref (He.ga K "_law_table_right")) := T.hg _ (T.sa.fact 50)
theorem Tx.glo_law_bent_rows (T : Tx K mg) : mg "_law_bent_rows" = some (.ref (He.ga K "_law_bent_rows")) := T.hg _ (T.sa.fact 51)
theorem Tx.glo_law (T : Tx K mg) : mg "law" = some (.ref (He.ga K "law")) := T.hg _ (T.sa.fact 52)
theorem Tx.glo_Board (T : Tx K mg) : mg "Board" = some (.ref (He.ga K "Board")) := T.hg _ (T.sa.fact 53)
theorem Tx.free_abs (T : Tx K mg) : mg "abs" = none := T.hf _ (T.sa.fact 54)
theorem Tx.free_all (T : Tx K mg) : mg "all" = none := T.hf _ (T.sa.fact 55)
theorem Tx.free_any (T : Tx K mg) : mg "any" = none := T.hf _ (T.sa.fact 56)
theorem Tx.free_bool (T : Tx K mg) : mg "bool" = none := T.hf _ (T.sa.fact 57)
theorem Tx.free_enumerate (T : Tx K mg) : mg "enumerate" = none := T.hf _ (T.sa.fact 58)
theorem Tx.free_int (T : Tx K mg) : mg "int" = none := T.hf _ (T.sa.fact 59)
theorem Tx.free_isinstance (T : Tx K mg) : mg "isinstance" = none := T.hf _ (T.sa.fact 60)
theorem Tx.free_len (T : Tx K mg) : mg "len" = none := T.hf _ (T.sa.fact 61)
theorem Tx.free_list (T : Tx K mg) : mg "list" = none := T.hf _ (T.sa.fact 62)
theorem Tx.free_max (T : Tx K mg) : mg "max" = none := T.hf _ (T.sa.fact 63)
theorem Tx.free_min (T : Tx K mg) : mg "min" = none := T.hf _ (T.sa.fact 64)
theorem Tx.free_range (T : Tx K mg) : mg "range" = none := T.hf _ (T.sa.fact 65)
theorem Tx.free_repr (T : Tx K mg) : mg "repr" = none := T.hf _ (T.sa.fact 66)
theorem Tx.free_set (T : Tx K mg) : mg "set" = none := T.hf _ (T.sa.fact 67)
theorem Tx.free_sorted (T : Tx K mg) : mg "sorted" = none := T.hf _ (T.sa.fact 68)
theorem Tx.free_str (T : Tx K mg) : mg "str" = none := T.hf _ (T.sa.fact 69)
theorem Tx.free_tuple (T : Tx K mg) : mg "tuple" = none := T.hf _ (T.sa.fact 70)
theorem Tx.free_zip (T : Tx K mg) : mg "zip" = none := T.hf _ (T.sa.fact 71)
theorem Tx.glob_MOST_PLACES (T : Tx K mg) : ∃ t, mg "MOST_PLACES" = some (.int 8 t) := T.hi _ _ (T.sa.fact 72)
theorem Tx.glob_MOST_NEAR (T : Tx K mg) : ∃ t, mg "MOST_NEAR" = some (.int 7 t) := T.hi _ _ (T.sa.fact 73)
theorem Tx.glob_MOST_PACE (T : Tx K mg) : ∃ t, mg "MOST_PACE" = some (.int 7 t) := T.hi _ _ (T.sa.fact 74)
theorem Tx.glob_MOST_BEATS (T : Tx K mg) : ∃ t, mg "MOST_BEATS" = some (.int 12 t) := T.hi _ _ (T.sa.fact 75)
theorem Tx.glob_MOST_TRIPLES (T : Tx K mg) : ∃ t, mg "MOST_TRIPLES" = some (.int 24 t) := T.hi _ _ (T.sa.fact 76)
theorem Tx.glob_MOST_SEEN (T : Tx K mg) : ∃ t, mg "MOST_SEEN" = some (.int 24 t) := T.hi _ _ (T.sa.fact 77)
theorem Tx.cl (T : Tx K mg) : Cls K (cB K) := He.cls_ok (T.sa.fact 78)
theorem Tx.mkB (T : Tx K mg) : Mk K (cB K) (mB K "__init__") := He.mkr_ok (T.sa.fact 79)
theorem Tx.n_many (T : Tx K mg) : NoAttr K (cB K) "many" := He.noat_ok (T.sa.fact 80)
theorem Tx.n_pairs (T : Tx K mg) : NoAttr K (cB K) "pairs" := He.noat_ok (T.sa.fact 81)
theorem Tx.n_leads (T : Tx K mg) : NoAttr K (cB K) "leads" := He.noat_ok (T.sa.fact 82)
theorem Tx.n_fars (T : Tx K mg) : NoAttr K (cB K) "fars" := He.noat_ok (T.sa.fact 83)
theorem Tx.m_ways (T : Tx K mg) : Meth K (cB K) "ways" (mB K "ways") := He.meth_ok (T.sa.fact 84)
theorem Tx.m_far (T : Tx K mg) : Meth K (cB K) "far" (mB K "far") := He.meth_ok (T.sa.fact 85)
theorem Tx.m_within (T : Tx K mg) : Meth K (cB K) "within" (mB K "within") := He.meth_ok (T.sa.fact 86)
theorem Tx.m_check_place (T : Tx K mg) : Meth K (cB K) "check_place" (mB K "check_place") := He.meth_ok (T.sa.fact 87)
theorem Tx.m_len (T : Tx K mg) : Meth K (cB K) "__len__" (mB K "__len__") := He.meth_ok (T.sa.fact 88)
theorem Tx.d_is_number (T : Tx K mg) : ∃ fd, FnP K "is_number" "is_number" s_is_number [] (He.ga K "is_number") fd := T.sa.def_ 0 (d := _root_.RL.d_is_number) rfl
theorem Tx.d_is_between (T : Tx K mg) : ∃ fd, FnP K "is_between" "is_between" s_is_between [] (He.ga K "is_between") fd := T.sa.def_ 1 (d := _root_.RL.d_is_between) rfl
theorem Tx.d_is_lot (T : Tx K mg) : ∃ fd, FnP K "is_lot" "is_lot" s_is_lot [] (He.ga K "is_lot") fd := T.sa.def_ 2 (d := _root_.RL.d_is_lot) rfl
theorem Tx.d_check_lot (T : Tx K mg) : ∃ fd, FnP K "check_lot" "check_lot" s_check_lot [] (He.ga K "check_lot") fd := T.sa.def_ 3 (d := _root_.RL.d_check_lot) rfl
theorem Tx.d_is_filled_lot (T : Tx K mg) : ∃ fd, FnP K "is_filled_lot" "is_filled_lot" s_is_filled_lot [] (He.ga K "is_filled_lot") fd := T.sa.def_ 4 (d := _root_.RL.d_is_filled_lot) rfl
theorem Tx.d_rising_ways (T : Tx K mg) : ∃ fd, FnP K "rising_ways" "rising_ways" s_rising_ways [] (He.ga K "rising_ways") fd := T.sa.def_ 5 (d := _root_.RL.d_rising_ways) rfl
theorem Tx.d_fars_from (T : Tx K mg) : ∃ fd, FnP K "fars_from" "fars_from" s_fars_from [] (He.ga K "fars_from") fd := T.sa.def_ 6 (d := _root_.RL.d_fars_from) rfl
theorem Tx.d_way_text (T : Tx K mg) : ∃ fd, FnP K "way_text" "way_text" s_way_text [] (He.ga K "way_text") fd := T.sa.def_ 7 (d := _root_.RL.d_way_text) rfl
theorem Tx.d_Board_init (T : Tx K mg) : ∃ fd, FnP K "__init__" "Board.__init__" s_Board_init [V.ref (He.dflAt ("Board", some "__init__") 0 K)] (mB K "__init__") fd := T.sa.def_ 8 (d := _root_.RL.d_Board_init) rfl
theorem Tx.d_Board_ways (T : Tx K mg) : ∃ fd, FnP K "ways" "Board.ways" s_Board_ways [] (mB K "ways") fd := T.sa.def_ 9 (d := _root_.RL.d_Board_ways) rfl
theorem Tx.d_Board_far (T : Tx K mg) : ∃ fd, FnP K "far" "Board.far" s_Board_far [] (mB K "far") fd := T.sa.def_ 10 (d := _root_.RL.d_Board_far) rfl
theorem Tx.d_Board_within (T : Tx K mg) : ∃ fd, FnP K "within" "Board.within" s_Board_within [] (mB K "within") fd := T.sa.def_ 11 (d := _root_.RL.d_Board_within) rfl
theorem Tx.d_Board_check_place (T : Tx K mg) : ∃ fd, FnP K "check_place" "Board.check_place" s_Board_check_place [] (mB K "check_place") fd := T.sa.def_ 12 (d := _root_.RL.d_Board_check_place) rfl
theorem Tx.d_Board_len (T : Tx K mg) : ∃ fd, FnP K "__len__" "Board.__len__" s_Board_len [] (mB K "__len__") fd := T.sa.def_ 13 (d := _root_.RL.d_Board_len) rfl
theorem Tx.d_are_parts (T : Tx K mg) : ∃ fd, FnP K "are_parts" "are_parts" s_are_parts [] (He.ga K "are_parts") fd := T.sa.def_ 14 (d := _root_.RL.d_are_parts) rfl
theorem Tx.d_is_look (T : Tx K mg) : ∃ fd, FnP K "is_look" "is_look" s_is_look [] (He.ga K "is_look") fd := T.sa.def_ 15 (d := _root_.RL.d_is_look) rfl
theorem Tx.d_near_answer (T : Tx K mg) : ∃ fd, FnP K "near_answer" "near_answer" s_near_answer [] (He.ga K "near_answer") fd := T.sa.def_ 16 (d := _root_.RL.d_near_answer) rfl
theorem Tx.d_answers (T : Tx K mg) : ∃ fd, FnP K "answers" "answers" s_answers [] (He.ga K "answers") fd := T.sa.def_ 17 (d := _root_.RL.d_answers) rfl
theorem Tx.d_is_pace (T : Tx K mg) : ∃ fd, FnP K "is_pace" "is_pace" s_is_pace [] (He.ga K "is_pace") fd := T.sa.def_ 18 (d := _root_.RL.d_is_pace) rfl
theorem Tx.d_check_pace (T : Tx K mg) : ∃ fd, FnP K "check_pace" "check_pace" s_check_pace [] (He.ga K "check_pace") fd := T.sa.def_ 19 (d := _root_.RL.d_check_pace) rfl
theorem Tx.d_step (T : Tx K mg) : ∃ fd, FnP K "step" "step" s_step [] (He.ga K "step") fd := T.sa.def_ 20 (d := _root_.RL.d_step) rfl
theorem Tx.d_are_paces (T : Tx K mg) : ∃ fd, FnP K "are_paces" "are_paces" s_are_paces [] (He.ga K "are_paces") fd := T.sa.def_ 21 (d := _root_.RL.d_are_paces) rfl
theorem Tx.d_is_triple (T : Tx K mg) : ∃ fd, FnP K "is_triple" "is_triple" s_is_triple [] (He.ga K "is_triple") fd := T.sa.def_ 22 (d := _root_.RL.d_is_triple) rfl
theorem Tx.d_are_triples (T : Tx K mg) : ∃ fd, FnP K "are_triples" "are_triples" s_are_triples [] (He.ga K "are_triples") fd := T.sa.def_ 23 (d := _root_.RL.d_are_triples) rfl
theorem Tx.d_look_story (T : Tx K mg) : ∃ fd, FnP K "look_story" "look_story" s_look_story [] (He.ga K "look_story") fd := T.sa.def_ 24 (d := _root_.RL.d_look_story) rfl
theorem Tx.d_last_beat (T : Tx K mg) : ∃ fd, FnP K "last_beat" "last_beat" s_last_beat [] (He.ga K "last_beat") fd := T.sa.def_ 25 (d := _root_.RL.d_last_beat) rfl
theorem Tx.d_miss_counts (T : Tx K mg) : ∃ fd, FnP K "miss_counts" "miss_counts" s_miss_counts [] (He.ga K "miss_counts") fd := T.sa.def_ 26 (d := _root_.RL.d_miss_counts) rfl
theorem Tx.d_check_count (T : Tx K mg) : ∃ fd, FnP K "check_count" "check_count" s_check_count [] (He.ga K "check_count") fd := T.sa.def_ 27 (d := _root_.RL.d_check_count) rfl
theorem Tx.d_first_needs (T : Tx K mg) : ∃ fd, FnP K "first_needs" "first_needs" s_first_needs [] (He.ga K "first_needs") fd := T.sa.def_ 28 (d := _root_.RL.d_first_needs) rfl
theorem Tx.d_next_needs (T : Tx K mg) : ∃ fd, FnP K "next_needs" "next_needs" s_next_needs [] (He.ga K "next_needs") fd := T.sa.def_ 29 (d := _root_.RL.d_next_needs) rfl
theorem Tx.d_least_row (T : Tx K mg) : ∃ fd, FnP K "least_row" "least_row" s_least_row [] (He.ga K "least_row") fd := T.sa.def_ 30 (d := _root_.RL.d_least_row) rfl
theorem Tx.d_row_has (T : Tx K mg) : ∃ fd, FnP K "row_has" "row_has" s_row_has [] (He.ga K "row_has") fd := T.sa.def_ 31 (d := _root_.RL.d_row_has) rfl
theorem Tx.d_table (T : Tx K mg) : ∃ fd, FnP K "table" "table" s_table [] (He.ga K "table") fd := T.sa.def_ 32 (d := _root_.RL.d_table) rfl
theorem Tx.d_is_shut (T : Tx K mg) : ∃ fd, FnP K "is_shut" "is_shut" s_is_shut [] (He.ga K "is_shut") fd := T.sa.def_ 33 (d := _root_.RL.d_is_shut) rfl
theorem Tx.d_is_sized (T : Tx K mg) : ∃ fd, FnP K "is_sized" "is_sized" s_is_sized [] (He.ga K "is_sized") fd := T.sa.def_ 34 (d := _root_.RL.d_is_sized) rfl
theorem Tx.d_table_holds (T : Tx K mg) : ∃ fd, FnP K "table_holds" "table_holds" s_table_holds [] (He.ga K "table_holds") fd := T.sa.def_ 35 (d := _root_.RL.d_table_holds) rfl
theorem Tx.d__law_box (T : Tx K mg) : ∃ fd, FnP K "_law_box" "_law_box" s__law_box [] (He.ga K "_law_box") fd := T.sa.def_ 36 (d := _root_.RL.d__law_box) rfl
theorem Tx.d__law_pick (T : Tx K mg) : ∃ fd, FnP K "_law_pick" "_law_pick" s__law_pick [] (He.ga K "_law_pick") fd := T.sa.def_ 37 (d := _root_.RL.d__law_pick) rfl
theorem Tx.d__law_from (T : Tx K mg) : ∃ fd, FnP K "_law_from" "_law_from" s__law_from [] (He.ga K "_law_from") fd := T.sa.def_ 38 (d := _root_.RL.d__law_from) rfl
theorem Tx.d__law_mixed (T : Tx K mg) : ∃ fd, FnP K "_law_mixed" "_law_mixed" s__law_mixed [] (He.ga K "_law_mixed") fd := T.sa.def_ 39 (d := _root_.RL.d__law_mixed) rfl
theorem Tx.d__law_same (T : Tx K mg) : ∃ fd, FnP K "_law_same" "_law_same" s__law_same [] (He.ga K "_law_same") fd := T.sa.def_ 40 (d := _root_.RL.d__law_same) rfl
theorem Tx.d__law_ways (T : Tx K mg) : ∃ fd, FnP K "_law_ways" "_law_ways" s__law_ways [] (He.ga K "_law_ways") fd := T.sa.def_ 41 (d := _root_.RL.d__law_ways) rfl
theorem Tx.d__law_board (T : Tx K mg) : ∃ fd, FnP K "_law_board" "_law_board" s__law_board [] (He.ga K "_law_board") fd := T.sa.def_ 42 (d := _root_.RL.d__law_board) rfl
theorem Tx.d__law_made (T : Tx K mg) : ∃ fd, FnP K "_law_made" "_law_made" s__law_made [] (He.ga K "_law_made") fd := T.sa.def_ 43 (d := _root_.RL.d__law_made) rfl
theorem Tx.d__law_spans (T : Tx K mg) : ∃ fd, FnP K "_law_spans" "_law_spans" s__law_spans [] (He.ga K "_law_spans") fd := T.sa.def_ 44 (d := _root_.RL.d__law_spans) rfl
theorem Tx.d__law_pace (T : Tx K mg) : ∃ fd, FnP K "_law_pace" "_law_pace" s__law_pace [] (He.ga K "_law_pace") fd := T.sa.def_ 45 (d := _root_.RL.d__law_pace) rfl
theorem Tx.d__law_reached (T : Tx K mg) : ∃ fd, FnP K "_law_reached" "_law_reached" s__law_reached [] (He.ga K "_law_reached") fd := T.sa.def_ 46 (d := _root_.RL.d__law_reached) rfl
theorem Tx.d__law_lot (T : Tx K mg) : ∃ fd, FnP K "_law_lot" "_law_lot" s__law_lot [] (He.ga K "_law_lot") fd := T.sa.def_ 47 (d := _root_.RL.d__law_lot) rfl
theorem Tx.d__law_start (T : Tx K mg) : ∃ fd, FnP K "_law_start" "_law_start" s__law_start [] (He.ga K "_law_start") fd := T.sa.def_ 48 (d := _root_.RL.d__law_start) rfl
theorem Tx.d__law_look (T : Tx K mg) : ∃ fd, FnP K "_law_look" "_law_look" s__law_look [] (He.ga K "_law_look") fd := T.sa.def_ 49 (d := _root_.RL.d__law_look) rfl
theorem Tx.d__law_answer (T : Tx K mg) : ∃ fd, FnP K "_law_answer" "_law_answer" s__law_answer [] (He.ga K "_law_answer") fd := T.sa.def_ 50 (d := _root_.RL.d__law_answer) rfl
theorem Tx.d__law_seen (T : Tx K mg) : ∃ fd, FnP K "_law_seen" "_law_seen" s__law_seen [] (He.ga K "_law_seen") fd := T.sa.def_ 51 (d := _root_.RL.d__law_seen) rfl
theorem Tx.d__law_story (T : Tx K mg) : ∃ fd, FnP K "_law_story" "_law_story" s__law_story [] (He.ga K "_law_story") fd := T.sa.def_ 52 (d := _root_.RL.d__law_story) rfl
theorem Tx.d__law_ground (T : Tx K mg) : ∃ fd, FnP K "_law_ground" "_law_ground" s__law_ground [] (He.ga K "_law_ground") fd := T.sa.def_ 53 (d := _root_.RL.d__law_ground) rfl
theorem Tx.d__law_counts (T : Tx K mg) : ∃ fd, FnP K "_law_counts" "_law_counts" s__law_counts [] (He.ga K "_law_counts") fd := T.sa.def_ 54 (d := _root_.RL.d__law_counts) rfl
theorem Tx.d__law_in_from (T : Tx K mg) : ∃ fd, FnP K "_law_in_from" "_law_in_from" s__law_in_from [] (He.ga K "_law_in_from") fd := T.sa.def_ 55 (d := _root_.RL.d__law_in_from) rfl
theorem Tx.d__law_table_right (T : Tx K mg) : ∃ fd, FnP K "_law_table_right" "_law_table_right" s__law_table_right [] (He.ga K "_law_table_right") fd := T.sa.def_ 56 (d := _root_.RL.d__law_table_right) rfl
theorem Tx.d__law_bent_rows (T : Tx K mg) : ∃ fd, FnP K "_law_bent_rows" "_law_bent_rows" s__law_bent_rows [] (He.ga K "_law_bent_rows") fd := T.sa.def_ 57 (d := _root_.RL.d__law_bent_rows) rfl
theorem Tx.d_law (T : Tx K mg) : ∃ fd, FnP K "law" "law" s_law [] (He.ga K "law") fd := T.sa.def_ 58 (d := _root_.RL.d_law) rfl
end
/-- a def keeps its promise -/
structure Has (P : Program) (w : World) (K : PySem.W.Frag) (mg : Str → Option Value) (base : Heap) (f : Addr) (k : Nat) (ps : List Str) (sp : Sp) : Prop where
  ex : ∃ fd, FnOk P w K mg base CX0 k f fd ps sp ∧ Binds K fd ps []
  kp : PySem.W.keepIn K (.ref f) = true
end RL
/-! Walks on a board, how far places are, lots: plain mathematics. -/
namespace RLM
/-- a walk of so many ways -/
inductive Wk (E : List (Nat × Nat)) : Nat → Nat → Nat → Prop where
  | z (a : Nat) : Wk E 0 a a
  | s {k a b c : Nat} (h : Wk E k a b) (e : (b, c) ∈ E) : Wk E (k + 1) a c
def Near (E : List (Nat × Nat)) (m : Int) (a b : Nat) : Prop := ∃ k : Nat, (k : Int) ≤ m ∧ Wk E k a b
/-- all ways lie on n places -/
def On (n : Nat) (E : List (Nat × Nat)) : Prop := ∀ p ∈ E, p.1 < n ∧ p.2 < n ∧ p.1 ≠ p.2
theorem Wk.lt {n : Nat} {E : List (Nat × Nat)} (h : On n E) {k a b : Nat} (w : Wk E k a b) (ha : a < n) : b < n := by
  induction w with
  | z a => exact ha
  | s w e ih => exact (h _ e).2.1
theorem Wk.left {E : List (Nat × Nat)} {k a b c : Nat} (e : (a, b) ∈ E) (w : Wk E k b c) : Wk E (k + 1) a c := by
  induction w with
  | z b => exact .s (.z a) e
  | s w e2 ih => exact .s (ih e) e2
theorem Wk.turn {E F : List (Nat × Nat)} (h : ∀ a b, (a, b) ∈ E → (b, a) ∈ F) {k a b : Nat} (w : Wk E k a b) : Wk F k b a := by
  induction w with
  | z a => exact .z a
  | s w e ih => exact ih.left (h _ _ e)
theorem Wk.map {E F : List (Nat × Nat)} (f : Nat → Nat) (h : ∀ a b, (a, b) ∈ E → (f a, f b) ∈ F) {k a b : Nat} (w : Wk E k a b) : Wk F k (f a) (f b) := by
  induction w with
  | z a => exact .z _
  | s w e ih => exact .s ih (h _ _ e)
theorem Wk.mono {E F : List (Nat × Nat)} (h : ∀ p, p ∈ E → p ∈ F) {k a b : Nat} (w : Wk E k a b) : Wk F k a b := by
  induction w with
  | z a => exact .z _
  | s w e ih => exact .s ih (h _ e)
theorem near_refl {E : List (Nat × Nat)} {m : Int} {a : Nat} (h : 0 ≤ m) : Near E m a a := ⟨0, h, .z a⟩
theorem near_mono {E : List (Nat × Nat)} {m m' : Int} {a b : Nat} (h : m ≤ m') (x : Near E m a b) : Near E m' a b := by
  obtain ⟨k, h1, h2⟩ := x
  exact ⟨k, Int.le_trans h1 h, h2⟩
theorem near_turn {E F : List (Nat × Nat)} (h : ∀ a b, (a, b) ∈ E ↔ (b, a) ∈ F) {m : Int} {a b : Nat} : Near E m a b ↔ Near F m b a := by
  constructor
  · rintro ⟨k, h1, h2⟩
    exact ⟨k, h1, h2.turn fun a b => (h a b).1⟩
  · rintro ⟨k, h1, h2⟩
    exact ⟨k, h1, h2.turn fun a b => (h b a).2⟩
/-! ### how far: breadth first -/
/-- the lists of how far while the places that are l far are looked at -/
structure Lev (n : Nat) (E : List (Nat × Nat)) (a l : Nat) (fs : List (Option Nat)) (edge : List Nat) : Prop where
  len : fs.length = n
  some_ : ∀ (b d : Nat), fs[b]? = some (some d) → d ≤ l ∧ Wk E d a b ∧ ∀ k, Wk E k a b → d ≤ k
  none_ : ∀ b : Nat, fs[b]? = some none → ∀ k, Wk E k a b → l < k
  edge_ : ∀ b, b ∈ edge ↔ fs[b]? = some (some l)
theorem lev_start {n : Nat} {E : List (Nat × Nat)} {a : Nat} (ha : a < n) : Lev n E a 0 ((List.replicate n none).set a (some 0)) [a] := by
  refine ⟨by simp, fun b d h => ?_, fun b h k w => ?_, fun b => ?_⟩
  · rw [List.getElem?_set] at h
    by_cases e : a = b
    · subst e
      simp [ha] at h
      subst h
      exact ⟨Nat.le_refl _, .z _, fun k _ => Nat.zero_le _⟩
    · rw [if_neg e, List.getElem?_replicate] at h
      split at h <;> simp at h
  · rw [List.getElem?_set] at h
    by_cases e : a = b
    · subst e
      simp [ha] at h
    · cases w with
      | z => exact absurd rfl e
      | s w e2 => omega
  · rw [List.getElem?_set]
    by_cases e : a = b
    · subst e
      simp [ha]
    · rw [if_neg e, List.getElem?_replicate]
      simp
      exact fun h => e h.symm
/-- within a level: done are the ends looked at -/
structure Mid (n : Nat) (E : List (Nat × Nat)) (l : Nat) (fs0 : List (Option Nat)) (edge done : List Nat) (fs : List (Option Nat)) (bey : List Nat) : Prop where
  len : fs.length = n
  old : ∀ (b d : Nat), fs0[b]? = some (some d) → fs[b]? = some (some d)
  new : ∀ (b d : Nat), fs[b]? = some (some d) → fs0[b]? = some (some d) ∨ (fs0[b]? = some none ∧ d = l + 1 ∧ b ∈ bey)
  bey_ : ∀ b : Nat, b ∈ bey → fs0[b]? = some none ∧ fs[b]? = some (some (l + 1)) ∧ ∃ c, c ∈ edge ∧ (c, b) ∈ E
  done_ : ∀ o : Nat, o ∈ done → ∃ d, fs[o]? = some (some d)
  cnt : fs.count none + bey.length = fs0.count none
theorem mid_start {n l : Nat} {E : List (Nat × Nat)} {fs0 : List (Option Nat)} {edge : List Nat} (h : fs0.length = n) : Mid n E l fs0 edge [] fs0 [] :=
  ⟨h, fun _ _ h => h, fun _ _ h => .inl h, fun _ h => (by cases h), fun _ h => (by cases h), by simp⟩
theorem count_set : ∀ (fs : List (Option Nat)) (o d : Nat), fs[o]? = some none → (fs.set o (some d)).count none + 1 = fs.count none
  | [], o, d, h => by simp at h
  | x :: r, 0, d, h => by
    simp at h
    subst h
    simp
  | x :: r, o + 1, d, h => by
    simp at h
    have ih := count_set r o d h
    rw [List.set_cons_succ, List.count_cons, List.count_cons]
    omega
theorem Mid.hit {n l : Nat} {E : List (Nat × Nat)} {fs0 fs : List (Option Nat)} {edge done bey : List Nat} {o d : Nat} (M : Mid n E l fs0 edge done fs bey) (h : fs[o]? = some (some d)) : Mid n E l fs0 edge (done ++ [o]) fs bey :=
  ⟨M.len, M.old, M.new, M.bey_, fun p hp => (List.mem_append.mp hp).elim (M.done_ p) (fun hq => ⟨d, by rw [List.mem_singleton.mp hq]; exact h⟩), M.cnt⟩
theorem Mid.put {n l : Nat} {E : List (Nat × Nat)} {fs0 fs : List (Option Nat)} {edge done bey : List Nat} {o c : Nat} (M : Mid n E l fs0 edge done fs bey) (h0 : fs0.length = n) (h : fs[o]? = some none) (hc : c ∈ edge) (he : (c, o) ∈ E) :
    Mid n E l fs0 edge (done ++ [o]) (fs.set o (some (l + 1))) (bey ++ [o]) := by
  have hl : o < fs.length := (List.getElem?_eq_some_iff.mp h).1
  have h00 : fs0[o]? = some none := by
    have h1 : o < fs0.length := by rw [h0, ← M.len]; exact hl
    rw [List.getElem?_eq_getElem h1]
    cases e : fs0[o] with
    | none => rfl
    | some d =>
      have q := M.old o d (by rw [List.getElem?_eq_getElem h1, e])
      rw [h] at q
      cases q
  refine ⟨by simp [M.len], fun b d hb => ?_, fun b d hb => ?_, fun b hb => ?_, fun p hp => ?_, ?_⟩
  · have q := M.old b d hb
    rw [List.getElem?_set]
    by_cases e : o = b
    · subst e
      rw [h] at q
      cases q
    · rw [if_neg e]
      exact q
  · rw [List.getElem?_set] at hb
    by_cases e : o = b
    · subst e
      simp [hl] at hb
      exact .inr ⟨h00, hb.symm, by simp⟩
    · rw [if_neg e] at hb
      rcases M.new b d hb with q | ⟨q1, q2, q3⟩
      · exact .inl q
      · exact .inr ⟨q1, q2, List.mem_append_left _ q3⟩
  · rcases List.mem_append.mp hb with hb | hb
    · obtain ⟨q1, q2, q3⟩ := M.bey_ b hb
      refine ⟨q1, ?_, q3⟩
      rw [List.getElem?_set]
      by_cases e : o = b
      · subst e
        simp [hl]
      · rw [if_neg e]
        exact q2
    · rw [List.mem_singleton.mp hb]
      exact ⟨h00, by simp [hl], c, hc, he⟩
  · rw [List.getElem?_set]
    by_cases e : o = p
    · subst e
      exact ⟨l + 1, by simp [hl]⟩
    · rw [if_neg e]
      rcases List.mem_append.mp hp with hp | hp
      · exact M.done_ p hp
      · exact absurd (List.mem_singleton.mp hp).symm e
  · have q := count_set fs o (l + 1) h
    have q2 := M.cnt
    rw [List.length_append]
    simp
    omega
/-- a level's end -/
theorem Mid.next {n l a : Nat} {E : List (Nat × Nat)} {fs0 fs : List (Option Nat)} {edge done bey : List Nat} (M : Mid n E l fs0 edge done fs bey) (L : Lev n E a l fs0 edge) (hE : On n E) (ha : a < n) (hd : ∀ c o, c ∈ edge → (c, o) ∈ E → o ∈ done) : Lev n E a (l + 1) fs bey := by
  have key : ∀ b, fs[b]? = some none → fs0[b]? = some none := fun b h => by
    have hl : b < fs.length := (List.getElem?_eq_some_iff.mp h).1
    have h1 : b < fs0.length := by rw [L.len, ← M.len]; exact hl
    rw [List.getElem?_eq_getElem h1]
    cases e : fs0[b] with
    | none => rfl
    | some d =>
      have q := M.old b d (by rw [List.getElem?_eq_getElem h1, e])
      rw [h] at q
      cases q
  refine ⟨M.len, fun b d h => ?_, fun b h k w => ?_, fun b => ⟨fun h => (M.bey_ b h).2.1, fun h => ?_⟩⟩
  · rcases M.new b d h with q | ⟨q1, q2, q3⟩
    · obtain ⟨r1, r2, r3⟩ := L.some_ b d q
      exact ⟨Nat.le_succ_of_le r1, r2, r3⟩
    · subst q2
      obtain ⟨_, _, c, hc, he⟩ := M.bey_ b q3
      have r := (L.some_ c l ((L.edge_ c).1 hc)).2.1
      exact ⟨Nat.le_refl _, .s r he, fun k w => L.none_ b q1 k w⟩
  · have h0 := key b h
    have q := L.none_ b h0 k w
    rcases Nat.lt_or_ge (l + 1) k with c | c
    · exact c
    · exfalso
      have e : k = l + 1 := by omega
      subst e
      cases w with
      | s w e =>
        rename_i c
        have hc : c < n := w.lt hE ha
        have hcl : c < fs0.length := by rw [L.len]; exact hc
        have hcs : fs0[c]? = some (some l) := by
          rw [List.getElem?_eq_getElem hcl]
          cases z : fs0[c] with
          | none =>
            have := L.none_ c (by rw [List.getElem?_eq_getElem hcl, z]) l w
            omega
          | some d =>
            have hz : fs0[c]? = some (some d) := by rw [List.getElem?_eq_getElem hcl, z]
            obtain ⟨r1, r2, r3⟩ := L.some_ c d hz
            have r4 := r3 l w
            have r5 : l + 1 ≤ d + 1 := by
              have := L.none_ b h0 (d + 1) (.s r2 e)
              omega
            have : d = l := by omega
            rw [this]
        obtain ⟨d, hd2⟩ := M.done_ b (hd c b ((L.edge_ c).2 hcs) e)
        rw [h] at hd2
        cases hd2
  · rcases M.new b (l + 1) h with q | ⟨_, _, q3⟩
    · have := (L.some_ b _ q).1
      omega
    · exact q3
/-- what a list of how far tells -/
def Fars (n : Nat) (E : List (Nat × Nat)) (a : Nat) (fs : List (Option Nat)) : Prop := fs.length = n ∧ ∀ (b : Nat) (d : Option Nat), fs[b]? = some d → (∀ m : Int, (∃ k : Nat, d = some k ∧ (k : Int) ≤ m) ↔ Near E m a b)
theorem Lev.fars {n l a : Nat} {E : List (Nat × Nat)} {fs : List (Option Nat)} (L : Lev n E a l fs []) (hE : On n E) (ha : a < n) : Fars n E a fs := by
  have all : ∀ k b, Wk E k a b → ∃ d, fs[b]? = some (some d) := by
    intro k
    induction k with
    | zero =>
      intro b w
      cases w
      have hl : a < fs.length := by rw [L.len]; exact ha
      cases z : fs[a] with
      | none =>
        have := L.none_ a (by rw [List.getElem?_eq_getElem hl, z]) 0 (.z a)
        omega
      | some d => exact ⟨d, by rw [List.getElem?_eq_getElem hl, z]⟩
    | succ k ih =>
      intro b w
      have hb : b < n := w.lt hE ha
      have hbl : b < fs.length := by rw [L.len]; exact hb
      cases w with
      | s w e =>
        rename_i c
        obtain ⟨d, hd⟩ := ih c w
        obtain ⟨r1, r2, r3⟩ := L.some_ c d hd
        have r4 : d ≠ l := fun z => by
          subst z
          have := (L.edge_ c).2 hd
          cases this
        cases z : fs[b] with
        | none =>
          have := L.none_ b (by rw [List.getElem?_eq_getElem hbl, z]) (d + 1) (.s r2 e)
          omega
        | some d2 => exact ⟨d2, by rw [List.getElem?_eq_getElem hbl, z]⟩
  refine ⟨L.len, fun b d h m => ⟨?_, ?_⟩⟩
  · rintro ⟨k, rfl, hk⟩
    exact ⟨k, hk, (L.some_ b k h).2.1⟩
  · rintro ⟨k, hk, w⟩
    obtain ⟨d2, hd2⟩ := all k b w
    rw [h] at hd2
    have e : d = some d2 := Option.some.inj hd2
    subst e
    have := (L.some_ b d2 h).2.2 k w
    exact ⟨d2, rfl, by omega⟩
/-! ### lots -/
open Classical in
noncomputable def lotP (n : Nat) (p : Nat → Prop) : List Nat := (List.range n).filter fun b => decide (p b)
open Classical in
theorem mem_lotP {n : Nat} {p : Nat → Prop} {b : Nat} : b ∈ lotP n p ↔ b < n ∧ p b := by
  unfold lotP
  rw [List.mem_filter, List.mem_range, decide_eq_true_iff]
open Classical in
theorem lotP_congr {n : Nat} {p q : Nat → Prop} (h : ∀ b, b < n → (p b ↔ q b)) : lotP n p = lotP n q := by
  unfold lotP
  refine List.filter_congr fun b hb => ?_
  rw [decide_eq_decide]
  exact h b (List.mem_range.mp hb)
theorem sorted_eq : ∀ {xs ys : List Nat}, xs.Pairwise (· < ·) → ys.Pairwise (· < ·) → (∀ b, b ∈ xs ↔ b ∈ ys) → xs = ys
  | [], [], _, _, _ => rfl
  | [], y :: ys, _, _, h => by
    have := (h y).2 (by simp)
    cases this
  | x :: xs, [], _, _, h => by
    have := (h x).1 (by simp)
    cases this
  | x :: xs, y :: ys, h1, h2, h => by
    rw [List.pairwise_cons] at h1 h2
    have exy : x = y := by
      rcases List.mem_cons.mp ((h x).1 (by simp)) with e | e
      · exact e
      · rcases List.mem_cons.mp ((h y).2 (by simp)) with e2 | e2
        · exact e2.symm
        · have a := h1.1 y e2
          have b := h2.1 x e
          omega
    subst exy
    congr 1
    refine sorted_eq h1.2 h2.2 fun b => ⟨fun hb => ?_, fun hb => ?_⟩
    · rcases List.mem_cons.mp ((h b).1 (List.mem_cons_of_mem _ hb)) with e | e
      · have := h1.1 b hb
        omega
      · exact e
    · rcases List.mem_cons.mp ((h b).2 (List.mem_cons_of_mem _ hb)) with e | e
      · have := h2.1 b hb
        omega
      · exact e
theorem range_sorted (n : Nat) : (List.range n).Pairwise (· < ·) := List.pairwise_lt_range
theorem lotP_sorted (n : Nat) (p : Nat → Prop) : (lotP n p).Pairwise (· < ·) := (range_sorted n).filter _
theorem lotP_of {n : Nat} {p : Nat → Prop} {xs : List Nat} (h : xs.Pairwise (· < ·)) (hm : ∀ b, b ∈ xs ↔ b < n ∧ p b) : xs = lotP n p :=
  sorted_eq h (lotP_sorted n p) fun b => (hm b).trans mem_lotP.symm
theorem lotP_len (n : Nat) (p : Nat → Prop) : (lotP n p).length ≤ n := by
  have := List.length_filter_le (fun b => @decide (p b) (Classical.propDecidable _)) (List.range n)
  rw [List.length_range] at this
  exact this
end RLM
/-! Rules that this program wants besides: len of an own object, sorted and set of a tuple, a tuple's index and multiple, enumerate of a tuple. -/
namespace RL
open PySem PySem.Spec PyProof.Rows L2
section
variable {X : Cx}
/-- set(t), t a tuple of ints -/
def rSetT (w : World) (K : PySem.W.Frag) : List V → Hp → VK → Prop := fun vs H Q => ∃ (a : Addr) (ns : List Int), vs = [.ref a] ∧ SqT K H a (ns.map V.int) ∧ ns.length ≤ 1000 ∧
  ∀ (p : Addr) (c : Nat), H p = none → c ≤ ns.length → Q (.ref p) (upd H p (SetO w p (fun j => decide (j ∈ ns)) c))
theorem cr_setT (hc : X.calm = true) : CallR X (.type "set") (rSetT X.w X.K) := by
  intro pins s σ H vs us Q I r h
  obtain ⟨a, ns, rfl, hs, hz, q⟩ := h
  obtain ⟨its, rv, ht, _⟩ := I.tuple hs
  rw [Vals.ref1 r]
  have hi : IntsAre its.toArray.toList ns := by simpa using rv.ints
  refine call_set_tupI ns (I.ok.hd hc) ht hi (Nat.lt_of_le_of_lt (Nat.succ_le_succ hz) (by decide)) fun h' tk c R hcl hk => ?_
  have fr : H s.heap.objs.size = none := I.hok.fresh (Nat.le_refl _)
  exact ⟨.ref _, _, I.laid hk (Nat.le_refl _) (setO_new R), rfl, q _ c fr hcl⟩
/-- sorted(t), t a tuple of ints, fewer than 64 -/
def rSortT (K : PySem.W.Frag) : List V → Hp → VK → Prop := fun vs H Q => ∃ (a : Addr) (ns : List Int), vs = [.ref a] ∧ SqT K H a (ns.map V.int) ∧ ns.length < 64 ∧
  ∀ (ms : List Int) (p : Addr), ms.Perm ns → ms.Pairwise (· ≤ ·) → H p = none → Q (.ref p) (upd H p (.lst (ms.map V.int)))
theorem cr_sortTup : CallR X (.builtin "sorted") (rSortT X.K) := by
  intro pins s σ H vs us Q I r h
  obtain ⟨a, ns, rfl, hs, h64, q⟩ := h
  obtain ⟨its, rv, ⟨o, ho, hcl, nn, hd⟩, _⟩ := I.tuple hs
  rw [Vals.ref1 r]
  have hi := rv.ints
  have hle : its.length = ns.length := hi.length
  refine Calls.call_function_entry kind_sorted plain_sorted entry_sorted (args_sorted1 _) ?_
  unfold Builtin.«sorted»
  refine wpAny_bind (m := checkCount "sorted" 1 1 _) (wpAny_pure ?_)
  refine wpAny_bind (wpAny_collect_seq a (.inr rfl) ho hcl hd (fun h1 k1 => ?_) (by rw [List.size_toArray, hle, sizeLine_eq]; omega))
  refine wpAny_bind (wpAny_newList ?_ (by rw [sizeLine_eq]; simp; omega))
  have at1 : (h1.push (seqObj "list" its.toArray 0)).get? h1.objs.size = some (seqObj "list" its.toArray 0) := Heap.get?_push_size _ rfl
  refine wpAny_bind (wpAny_holding (wpAny_call_entry slot_list_sort ⟨_, at1, rfl⟩ entry_list_sort (list_sort_tree at1 hi (by omega) fun out ms a1 a2 a3 => ⟨_, rfl, ?_⟩) (args_list_sort _)))
  refine wpAny_pure ⟨_, rfl, ?_⟩
  have I1 : Inv X pins σ H { s with heap := h1 } := I.kept (t' := s.toks) k1
  obtain ⟨ep, he⟩ := PyProof.Rows.sortedHeap_at (vs := its) (out := out) at1
  have hlen : (ms.map V.int).length ≤ sizeLine := by rw [List.length_map, a2.length_eq, sizeLine_eq]; omega
  refine ⟨.ref h1.objs.size, upd H h1.objs.size (.lst (ms.map V.int)), I1.laid (t' := s.toks) (fun b ob e => ?_) (Nat.le_refl _) ⟨hlen, out.toList, ep, vals_of_ints a1, by simpa using he⟩, rfl, q ms _ a2 a3 (I1.hok.fresh (Nat.le_refl _))⟩
  rw [PyProof.Rows.sortedHeap_old (Nat.ne_of_lt (Heap.lt_size e)) (by rw [Heap.size_push]; exact Nat.lt_succ_of_lt (Heap.lt_size e))]
  exact Heap.get?_push_of_some _ e
/-- t.index(k), ints: the first place -/
theorem flat_ints (ys : List Int) : (ys.map V.int).all flatV = true := by
  rw [List.all_map]
  exact List.all_eq_true.mpr fun _ _ => rfl
def rTupIx (K : PySem.W.Frag) : V → List V → Hp → VK → Prop := fun x xs H Q => ∃ (p : Addr) (ys : List Int) (z : Int) (j : Nat), x = .ref p ∧ xs = [.int z] ∧ SqT K H p (ys.map V.int) ∧ ys[j]? = some z ∧ (∀ m : Nat, m < j → ys[m]? ≠ some z) ∧ Q (.int (j : Nat)) H
theorem mt_tupIx : MtR X "tuple.index" (rTupIx X.K) := by
  intro pins s σ H x xs v us Q I rx rs h
  obtain ⟨p, ys, z, j, rfl, rfl, hq, hy, hno, q⟩ := h
  cases rx
  obtain ⟨u, rfl, t, rfl⟩ := vals1 rs
  obtain ⟨its, r, ⟨⟨cls, dd, dt, sl⟩, ho, hc, n, hd⟩, hz⟩ := I.tuple hq
  cases (show cls = _ from hc)
  cases (show dt = _ from hd)
  have hl : its.length = ys.length := by rw [← r.length, List.length_map]
  have each : ∀ (m : Nat) (hm : m < its.toArray.size), ∃ y t', ys[m]? = some y ∧ its.toArray[m] = Value.int y t' := fun m hm => by
    have hm2 : m < ys.length := by rw [← hl]; simpa using hm
    obtain ⟨wv, hw, t', hw'⟩ := r.get (i := m) (x := .int ys[m]) (by simp [hm2])
    refine ⟨ys[m], t', List.getElem?_eq_getElem hm2, ?_⟩
    have e := (List.getElem?_eq_some_iff.mp hw).2
    rw [← hw', ← e]
    simp
  have hj : j < its.toArray.size := by
    rw [List.size_toArray, hl]
    exact (List.getElem?_eq_some_iff.mp hy).1
  refine call_meets PySem.F.slot_tuple_index ⟨_, ho, rfl⟩ PySem.F.entry_tuple_index (PySem.F.args_tuple_index_2 _ _) (TI.tuple_indexAt p its.toArray n dd sl (.int z t) (eqU (.int z)) j hj ?_ ?_)
    ⟨ho, fun wv hw => mem_eqAt (x := .int z) ⟨t, rfl⟩ rfl r (flat_ints ys) wv (by simpa using hw), ⟨.int (j : Nat), H, I.tok _, ⟨_, rfl⟩, q⟩⟩
  · obtain ⟨y, t', h1, h2⟩ := each j hj
    rw [hy] at h1
    cases h1
    rw [h2]
    show decide (z = z) = true
    simp
  · intro m hm hmj
    obtain ⟨y, t', h1, h2⟩ := each m hm
    rw [h2]
    have e : y ≠ z := fun e => hno m hmj (e ▸ h1)
    show decide (y = z) = false
    simp [e]
end
end RL
namespace RL
open PySem PySem.Spec PyProof.Rows L2
open AutoSeq1 (wpAny_loadPart')
/-- t * 1 is t -/
theorem tuple_mul1 (l : Addr) (items : Array Value) (n : Nat) (dd : Option Addr) (sl : Array (Option Value)) (u : Tok) :
    Meets (Builtin.«tuple.__mul__» ⟨[.ref l, .int 1 u], []⟩) (fun _ R s => s.heap.get? l = some { cls := .type "tuple", dict := dd, data := .seq items n, slots := sl } ∧ R (.ok (.ret (.ref l))) s) :=
  .of_wp fun prog w A R s h => by
    obtain ⟨hp, g, d, tk, os⟩ := s
    obtain ⟨hl, h⟩ := h
    have f1 := AutoSeq1.idx_int
    have c1 : (items.isEmpty || (1 : Int) == 1) = true := by simp
    wp_walk using wpAny_loadPart' hl
    exact ⟨_, rfl, h⟩
set_option maxHeartbeats 1000000 in
theorem meets_enum_tup {v : Value} {o : Obj} {H : Heap → Prop} (B : Begins v o H) :
    Meets (Builtin.«enumerate.__new__» ⟨[.type "enumerate", v], []⟩) (fun _ R s => H s.heap ∧
      R (.ok (.ret (.ref (s.heap.push o).objs.size))) { s with heap := (s.heap.push o).push { cls := .type "enumerate", data := .fields #[.none, .bool false, .ref s.heap.objs.size, rawInt 0, .none, .none] } }) :=
  .of_wp fun P0 w0 A R s hh => by
    obtain ⟨hp, g, d, tk, os⟩ := s
    have hsub := sub_enumerate
    have draw : ∀ {A1 : Around} {E1 : Value → Shared → Prop} {Q1 : Value → Shared → Prop}, Q1 (.ref hp.objs.size) ⟨hp.push o, g, d, tk, os⟩ → wpAny (model P0 w0) A1 (pyIter v) Q1 E1 ⟨hp, g, d, tk, os⟩ :=
      fun z => B.iter P0 w0 _ _ ⟨hp, g, d, tk, os⟩ _ hh.1 z
    have fin := hh.2
    wp_walk using draw
    refine wpAny_stack_any fun st => wpAny_pure ?_
    split
    · rename_i c _ _ _ _ _
      cases (c == Value.type "enumerate")
      all_goals
        wp_walk using draw
        exact ⟨_, rfl, fin⟩
    · wp_walk using draw
      exact ⟨_, rfl, fin⟩
theorem call_enum_tup {prog : Program} {w : World} {A : Around} {E : Value → Shared → Prop} {s : Shared} {t : Addr} {items : Array Value} {Q : Value → Shared → Prop} (ht : s.heap.IsTuple t items)
    (h : ∀ h', IsEnum h' (s.heap.objs.size + 1) s.heap.objs.size 0 .none → h'.IsTupleIter s.heap.objs.size t 0 → (∀ b o, s.heap.get? b = some o → h'.get? b = some o) → Q (.ref (s.heap.objs.size + 1)) { s with heap := h' }) :
    wpAny (model prog w) A (call (.type "enumerate") [.ref t]) Q E s := by
  refine callType_new F.called_enumerate (by decide) (F.typeCall_enumerate_1 _) (F.newCall_enumerate_1 _) (fun ob => F.args_object_init_2 ob _) F.entry_enumerate_new (meets_enum_tup (begins_tuple t items)) ⟨ht, ?_⟩
  generalize ho1 : ({ cls := .type "tuple_iterator", data := .fields #[.ref t, .int 0 0] } : Obj) = o1
  have fr1 : o1.isFreed = false := by rw [← ho1]; rfl
  generalize ho2 : ({ cls := .type "enumerate", data := .fields #[.none, .bool false, .ref s.heap.objs.size, rawInt 0, .none, .none] } : Obj) = o2
  have z1 : (s.heap.push o1).objs.size = s.heap.objs.size + 1 := Heap.size_push ..
  have g2 : ((s.heap.push o1).push o2).get? (s.heap.objs.size + 1) = some o2 := by
    rw [← z1]
    exact Heap.get?_push_size _ (by rw [← ho2]; rfl)
  have g1 : ((s.heap.push o1).push o2).get? s.heap.objs.size = some o1 := Heap.get?_push_of_some _ (Heap.get?_push_size _ fr1)
  show _ ∧ _
  rw [z1]
  refine ⟨⟨o2, g2, by rw [← ho2]⟩, h _ (by rw [← ho2] at g2 ⊢; exact g2) ⟨o1, g1, by rw [← ho1], by rw [← ho1]; rfl⟩ fun b o e => Heap.get?_push_of_some _ (Heap.get?_push_of_some _ e)⟩
/-- a tuple at a, its items in new pairs with their numbers -/
def Itu (K : PySem.W.Frag) (a : Addr) : It :=
  ⟨fun i H => ∃ (xs : List V) (x : V), SqT K H a xs ∧ xs[i]? = some x, fun i H v H' => ∃ T x, v = .ref T ∧ H T = none ∧ H' = upd H T (.tup [.int (i : Nat), x]) ∧ ∀ xs, SqT K H a xs → xs[i]? = some x, fun i H => ∃ xs : List V, SqT K H a xs ∧ xs.length = i⟩
theorem turn_enumT {P : Program} {w : World} {K : PySem.W.Frag} {elts : List Expr} {kk : Nat} {tpos : Pos} (a e it : Addr) (hne : e ≠ it) (hai : a ≠ it) (hea : e ≠ a) :
    Turn P w K (.Tuple elts kk tpos) (Itu K a) [e, it] e (fun i h => (∃ old, IsEnum h e it ((i : Nat) : Int) old) ∧ h.IsTupleIter it a i) where
  mem := by simp
  obj := fun i h st b hb => by
    obtain ⟨⟨old, he⟩, ⟨o, ho, hc, hd⟩⟩ := st
    have z : b = e ∨ b = it := by simpa using hb
    rcases z with z | z
    · rw [z]
      exact ⟨_, he, fun v q => nomatch q⟩
    · rw [z]
      exact ⟨o, ho, fun v q => by rw [hd] at q; cases q⟩
  keep := fun i h h' st k => ⟨st.1.imp fun old he => k e (by simp) _ he, st.2.at fun o q => k it (by simp) o q⟩
  item := by
    intro X hP hw hK hc i pins s σ H E I hf st hg
    subst hP hw hK
    obtain ⟨⟨old, he⟩, hit⟩ := st
    obtain ⟨xs, x, hq, hx⟩ := hg
    obtain ⟨its, rv, ht, hz⟩ := I.tuple hq
    obtain ⟨u, hu, ru⟩ := rv.get hx
    have hi : i < its.toArray.size := by
      rw [List.size_toArray]
      exact (List.getElem?_eq_some_iff.mp hu).1
    have el : e < s.heap.objs.size := Heap.lt_size he
    have il : it < s.heap.objs.size := by
      obtain ⟨_, q, _⟩ := hit
      exact Heap.lt_size q
    refine wpAny_pyNext_enum_itemD (Draws.tuple (A := X.A.in1) (show X.A.in1.handled = none from I.ok.hd hc) it a hai its.toArray) he ⟨hit, ht⟩ hi hne (by simp [hne, hea]) fun y h' tk py ho st' hT hsz hk => ?_
    have ey : y = u := by
      have q : its[i]? = some y := by simpa using py
      rw [hu] at q
      exact (Option.some.inj q).symm
    subst ey
    refine ⟨_, rfl, wpAny_letOwnedTupleGo_enum (s := { s with heap := h', toks := tk + 1 }) ho fun h'' he' sb => ?_⟩
    have hT2 : h''.get? s.heap.objs.size = some { cls := .type "tuple", data := .seq #[.int i tk, y] } := (sb.2 _ (Nat.ne_of_gt el)).trans hT
    have new : ObjOk X.prog X.w (upd H s.heap.objs.size (.tup [.int (i : Nat), x])) h'' s.heap.objs.size (.tup [.int (i : Nat), x]) :=
      ⟨by show 2 ≤ sizeLine; decide, [.int i tk, y], .cons ⟨_, rfl⟩ (.cons ru .nil), ⟨_, hT2, rfl, _, rfl⟩⟩
    have I1 : Inv X pins σ (upd H s.heap.objs.size (.tup [.int (i : Nat), x])) { s with heap := h'', toks := tk + 1 } :=
      I.turnedNew (ch := [e, it]) (fun b ob hb q => (sb.2 b (fun z => hb (by simp [z]))).trans (hk b ob (fun z => hb (by simp [z])) (fun z => hb (by simp [z])) q)) hf (Nat.le_refl _) new
    refine ⟨.ref s.heap.objs.size, _, I1, rfl, ⟨_, x, rfl, I.hok.fresh (Nat.le_refl _), rfl, fun ys hy => by rw [I.tuple_inj hy hq]; exact hx⟩, ⟨⟨y, by simpa using he'⟩, st'.1.at fun o q => (sb.2 it (Ne.symm hne)).trans q⟩, fun b hb => ?_⟩
    have lt : b < s.heap.objs.size := by
      have z : b = e ∨ b = it := by simpa using hb
      rcases z with z | z
      · rw [z]; exact el
      · rw [z]; exact il
    rw [upd_ne (Nat.ne_of_lt lt)]
    exact (hf b hb).1
  done := by
    intro X hP hw hK hc i pins s σ H E I hf st hg
    subst hP hw hK
    obtain ⟨⟨old, he⟩, hit⟩ := st
    obtain ⟨xs, hq, hx⟩ := hg
    obtain ⟨its, rv, ht, hz⟩ := I.tuple hq
    obtain ⟨f0, f1, f2, f3, f4, f5⟩ := hf it (by simp)
    have hl : its.toArray.size = i := by
      rw [List.size_toArray, ← rv.length]
      exact hx
    exact wpAny_pyNext_enum_endD (Draws.tuple (A := X.A.in1) (show X.A.in1.handled = none from I.ok.hd hc) it a hai its.toArray) he (by rw [hl]; exact ⟨hit, ht⟩) fun h' eb => ⟨rfl, I.turned (t' := s.toks) (fun b o hb q => eb b o hb q) f0 f1 f3 f4 f5⟩
  self := fun A i s Q E st h => wpAny_pyIter_enum st.1.choose_spec h
def iEnumT (K : PySem.W.Frag) (ta : TA) : TI := fun σ H R => ta σ H fun vs H1 => ∃ a xs, vs = [.ref a] ∧ SqT K H1 a xs ∧ R (Itu K a) H1
theorem pi_enumT {X : Cx} {e : Expr} {ta : TA} {p pos tpos : Pos} {elts : List Expr} {kk : Nat} (hg : Gl X "enumerate") (hm : X.mg "enumerate" = none) (ha : PA X [e] ta) (hs : starEach [e] X.env = [(false, eval e X.env)] := by rfl) :
    PI X (.Tuple elts kk tpos) (.Call (.Name "enumerate" p) [e] [] pos) (iEnumT X.K ta) := by
  refine ⟨fun pins s σ H R I h => ?_⟩
  refine Call_ (ld_blt I hg hm boot_enumerate (PyProof.Rows.callWith_type1 (thn (ha.run pos pins s σ H _ I h) fun us s1 ⟨vs, H1, I1, r1, q1⟩ => ?_) hs rfl))
  obtain ⟨a, xs, ex, hq, q⟩ := q1
  subst ex
  rw [Vals.ref1 r1]
  obtain ⟨its, rv, ht, hz⟩ := I1.tuple hq
  have al : a < s1.heap.objs.size := by
    obtain ⟨o, ho, _⟩ := ht
    exact Heap.lt_size ho
  refine call_enum_tup ht fun h' he hit hk => wpAny_pyIter_enum he ?_
  have I2 : Inv X pins σ H1 { s1 with heap := h' } := I1.kept (t' := s1.toks) hk
  refine ⟨s1.heap.objs.size + 1, [s1.heap.objs.size + 1, s1.heap.objs.size], _, _, H1, rfl, I2, turn_enumT a (s1.heap.objs.size + 1) s1.heap.objs.size (Nat.succ_ne_self _) (Nat.ne_of_lt al) (Nat.ne_of_gt (Nat.lt_succ_of_lt al)), ⟨⟨.none, he⟩, hit⟩, fun b hb => ?_, q⟩
  have hle : s1.heap.objs.size ≤ b := by
    have z : b = s1.heap.objs.size + 1 ∨ b = s1.heap.objs.size := by simpa using hb
    rcases z with z | z
    · rw [z]; exact Nat.le_succ _
    · rw [z]; exact Nat.le_refl _
  exact I1.fpOk hle (I1.hok.fresh hle)
theorem walk_enumT {K : PySem.W.Frag} {a : Addr} {xs : List V} : Walk (Itu K a) xs.length (fun H => SqT K H a xs) (YPair (fun i => some (.int (i : Nat))) (fun i => xs[i]?)) := by
  refine ⟨fun i H hi q => ⟨xs, xs[i], q, by simp [hi]⟩, fun H q => ⟨xs, q, rfl⟩, fun i H v H' hi q y => ?_⟩
  obtain ⟨T, x, e1, e2, e3, e4⟩ := y
  exact ⟨T, _, x, e1, e2, e3, rfl, e4 xs q⟩
section
variable {X : Cx}
/-- t * k, 1 ≤ k -/
def rRepT1 (K : PySem.W.Frag) : R2 := fun x y H Q => ∃ (l : Addr) (k : Int) (xs : List V), x = .ref l ∧ y = .int k ∧ SqT K H l xs ∧ xs ≠ [] ∧ 1 ≤ k ∧ k ≤ 1000 ∧ xs.length ≤ 1000 ∧ (k = 1 → Q (.ref l) H) ∧ ∀ p, H p = none → Q (.ref p) (upd H p (.tup (List.replicate k.toNat xs).flatten))
theorem op_repT1 : OpR X (binaryOp .Mult) (rRepT1 X.K) := by
  intro pins s σ H x y v u Q I rx ry h
  obtain ⟨l, k, xs, hx, hy, hT, hne, h1, h2, hz, q1, q⟩ := h
  by_cases hk : k = 1
  · subst hk hx hy
    cases rx
    obtain ⟨t, rfl⟩ := ry
    obtain ⟨its, r, ⟨⟨cls, dd, data, sl⟩, ho, hc, n, hd⟩, hs⟩ := I.tuple hT
    cases (show cls = _ from hc)
    cases (show data = _ from hd)
    refine wpAny_binaryOp_repeat_ref (T := "tuple") (U := "int") (by decide) ⟨_, ho, rfl⟩ (fun s' => typeIs_int s' 1 t) noFill_tuple_mul F.fills_int_mul F.slot_int_rmul repeat_tuple F.slot_int_index.lookup
      (call_meets F.slot_int_rmul (typeIs_int s 1 t) F.entry_int_rmul (F.args_int_rmul_2 _ _) (int_rmul_tuple 1 t l its.toArray n dd sl)
        ⟨ho, rfl, ⟨_, ho, rfl⟩, call_meets F.slot_tuple_mul ⟨_, ho, rfl⟩ F.entry_tuple_mul (F.args_tuple_mul_2 _ _) (tuple_mul1 l its.toArray n dd sl t) ⟨ho, ?_⟩⟩)
    exact ⟨.ref l, H, I, rfl, q1 rfl⟩
  · exact op_repT pins s σ H x y v u Q I rx ry ⟨l, k, xs, hx, hy, hT, hne, by omega, h2, hz, q⟩
/-- len(o), o of a class with its own __len__ -/
def rLenOwn (C : Addr) (sp : Sp) : List V → Hp → VK → Prop := fun vs H Q => ∃ (a dx : Addr) (fs : List (Str × V)), vs = [.ref a] ∧ H a = some (.ins C dx fs) ∧ sp [.ref a] H (fun v H' => ∃ n : Int, v = .int n ∧ 0 ≤ n ∧ n < 2 ^ 63 ∧ Q (.int n) H') (fun _ _ _ => False)
theorem call_lenOwn {C f : Addr} {fd : FuncData} {ps : List Str} {sp : Sp} {k : Nat} (hm : Meth X.K C "__len__" f) (F : FnOk X.prog X.w X.K X.mg X.base CX0 k f fd ps sp) (hb : Binds X.K fd ps []) (hr : Room (k + 1) X.A) : CallR X (.builtin "len") (rLenOwn C sp) := by
  intro pins s σ H vs us Q I r h
  obtain ⟨a, dx, fs, rfl, ha, q⟩ := h
  rw [Vals.ref1 r]
  obtain ⟨mA, O, _⟩ := ins_get I.hok ha
  obtain ⟨od, J, _⟩ := O.look
  refine Calls.call_function_entry kind_len plain_len entry_len (args_len1 _) ?_
  unfold Builtin.«len»
  refine wpAny_bind (m := oneArg "len" _) (wpAny_pure ?_)
  have ty : PySem.W.typeIn X.K (.ref f) = some (.type "function") := beq_iff_eq.mp hm.fn
  refine wpAny_bind (m := callSpecial? (.ref a) (Str.ofString "__len__")) (PySem.W.special_fn I.kIn J hm.at_ ty ?_)
  refine wpAny_call (codeAny_mono (F.run X.A.in1 X.stack s H ⟨[.ref a], []⟩ [.ref a] [.ref a] _ _ hr.in1 I.env0.in1 (hb s [.ref a] I.kIn (F.len _ _ _ _ q)) (.cons rfl .nil) q) fun rr s1 hq => ?_)
  cases rr with
  | error e => exact hq.elim
  | ok fl =>
    cases fl with
    | ret u =>
      obtain ⟨v, H1, I1, rv, n, e, n0, n1, qq⟩ := I.after hq
      subst e
      obtain ⟨t, rfl⟩ := rv
      refine wpAny_bind (wpAny_holding (wpAny_pure ?_))
      refine wpAny_bind (wpAny_letGo ?_)
      show wpAny _ _ (if n < 0 then _ else _) _ _ _
      rw [if_neg (by omega)]
      show wpAny _ _ (if n ≥ 2 ^ 63 then _ else _) _ _ _
      rw [if_neg (by omega)]
      exact wpAny_bind (wpAny_mkInt (wpAny_pure ⟨_, rfl, .int n, H1, I1.tok _, ⟨_, rfl⟩, qq⟩))
    | next => exact hq.elim
    | brk => exact hq.elim
    | cont => exact hq.elim
end
end RL
/-! A set comprehension with two clauses whose items are ints. -/
namespace RL
open PySem PySem.Spec PyProof.Rows L2
section
variable {prog : Program} {w : World} {A : Around} {R : Result → Shared → Prop} {s : Shared} {el ta ia tb ib : Expr} {fa fb : List Expr} {sc : Scope} {pos : Pos} {it acc : Value} {env : Env}
/-- the expression -/
abbrev sc2E (el ta ia : Expr) (fa : List Expr) (tb ib : Expr) (fb : List Expr) (sc : Scope) (pos : Pos) : Expr := .SetComp el [⟨ta, ia, fa, 0⟩, ⟨tb, ib, fb, 0⟩] sc pos
/-- the tests of a clause -/
abbrev testsOf (fs : List Expr) (env : Env) : Sem Bool := forIn fs true fun c r => if r = true then do let ok ← isTrue c env (eval c env); pure (ForInStep.yield ok) else pure (ForInStep.yield r)
theorem turn2o : compTurn (sc2E el ta ia fa tb ib fb sc pos) 0 it acc env = (do
      standAt ia.pos
      match ← pyNext it with
      | none => pure (.done .next)
      | some v =>
        letOwnedTupleGo ta it v
        assign ta env v
        let ok ← testsOf fa env
        if ok then
          let x ← eval ib env
          standAt ib.pos
          let x ← foldedSetIterable ib env x
          let _ ← runOwn (.compStart (sc2E el ta ia fa tb ib fb sc pos) 1 (← holding [x] (pyIter x)) acc env) env
        again (.compLoop (sc2E el ta ia fa tb ib fb sc pos) 0 it acc env)) := by rfl
theorem turn2i : compTurn (sc2E el ta ia fa tb ib fb sc pos) 1 it acc env = (do
      standAt ib.pos
      match ← pyNext it with
      | none => pure (.done .next)
      | some v =>
        letOwnedTupleGo tb it v
        assign tb env v
        let ok ← testsOf fb env
        if ok then
          (do let v ← eval el env; standAt el.pos; let _ ← call (.builtin "set.add") [acc, v])
        again (.compLoop (sc2E el ta ia fa tb ib fb sc pos) 1 it acc env)) := by rfl
/-- what is noted where it raises -/
abbrev Nt (prog : Program) (w : World) (A : Around) (env : Env) (R : Result → Shared → Prop) : Value → Shared → Prop := notedBy (model prog w) A env fun e s' => R (.error e) s'
theorem loop2o (hs : ∀ x, foldedSetIterable ib env x = pure x) (J : Nat → Shared → Prop)
    (turn : ∀ n s, J n s → wpAny (model prog w) A (pyNext it) (fun r s1 => match r with
      | none => R (.ok .next) s1
      | some v => wpAny (model prog w) A (letOwnedTupleGo ta it v) (fun _ s2 => wpAny (model prog w) A (assign ta env v) (fun _ s3 => wpAny (model prog w) A (testsOf fa env) (fun ok s4 =>
            if ok = true then wpAny (model prog w) A (eval ib env) (fun x s5 => wpAny (model prog w) A (pyIter x) (fun jt s6 =>
              codeAny (model prog w) A (.compStart (sc2E el ta ia fa tb ib fb sc pos) 1 jt acc env) (fun r s' => match r with
                | .ok _ => ∃ m, m < n ∧ J m s'
                | .error _ => False) s6) (Nt prog w A env R) s5) (Nt prog w A env R) s4
            else ∃ m, m < n ∧ J m s4) (Nt prog w A env R) s3) (Nt prog w A env R) s2) (Nt prog w A env R) s1) (Nt prog w A env R) s)
    (n : Nat) (h : J n s) : codeAny (model prog w) A (.compLoop (sc2E el ta ia fa tb ib fb sc pos) 0 it acc env) R s := by
  refine codeAny_loop rfl J (fun n s hJ => ?_) n h
  show wpAny _ A ((compTurn (sc2E el ta ia fa tb ib fb sc pos) 0 it acc env).onRaise (fun x => do noteFrame x env; theTreesLotGoes x)) _ _ s
  refine wpAny_noted ?_
  rw [turn2o]
  refine wpAny_bind (wpAny_standAt (wpAny_bind (wpAny_mono (turn n s hJ) (fun r s1 h1 => ?_) fun _ _ z => z)))
  cases r with
  | none => exact wpAny_pure h1
  | some v =>
    refine wpAny_bind (wpAny_mono h1 (fun _ s2 h2 => wpAny_bind (wpAny_mono h2 (fun _ s3 h3 => wpAny_bind (wpAny_mono h3 (fun ok s4 h4 => ?_) fun _ _ z => z)) fun _ _ z => z)) fun _ _ z => z)
    cases ok with
    | false => exact wpAny_pure ⟨rfl, h4⟩
    | true =>
      refine wpAny_bind (wpAny_mono h4 (fun x s5 h5 => ?_) fun _ _ z => z)
      refine wpAny_bind (wpAny_standAt (wpAny_bind (wpAny_of_eq (hs x) (wpAny_bind (wpAny_holding (wpAny_mono h5 (fun jt s6 h6 => ?_) fun _ _ z => z))))))
      refine wpAny_bind (wpAny_runOwn ?_)
      rw [Around.mark_none]
      refine codeAny_mono h6 fun r s' hr => ?_
      cases r with
      | ok f =>
        first
          | exact wpAny_pure ⟨rfl, hr⟩
          | exact wpAny_bind (wpAny_pure (wpAny_pure ⟨rfl, hr⟩))
      | error e => exact hr.elim
theorem loop2i (J : Nat → Shared → Prop)
    (turn : ∀ n s, J n s → wpAny (model prog w) A (pyNext it) (fun r s1 => match r with
      | none => R (.ok .next) s1
      | some v => wpAny (model prog w) A (letOwnedTupleGo tb it v) (fun _ s2 => wpAny (model prog w) A (assign tb env v) (fun _ s3 => wpAny (model prog w) A (testsOf fb env) (fun ok s4 =>
            if ok = true then wpAny (model prog w) A (eval el env) (fun x s5 => wpAny (model prog w) A (call (.builtin "set.add") [acc, x]) (fun _ s6 => ∃ m, m < n ∧ J m s6) (Nt prog w A env R) s5) (Nt prog w A env R) s4
            else ∃ m, m < n ∧ J m s4) (Nt prog w A env R) s3) (Nt prog w A env R) s2) (Nt prog w A env R) s1) (Nt prog w A env R) s)
    (n : Nat) (h : J n s) : codeAny (model prog w) A (.compLoop (sc2E el ta ia fa tb ib fb sc pos) 1 it acc env) R s := by
  refine codeAny_loop rfl J (fun n s hJ => ?_) n h
  show wpAny _ A ((compTurn (sc2E el ta ia fa tb ib fb sc pos) 1 it acc env).onRaise (fun x => do noteFrame x env; theTreesLotGoes x)) _ _ s
  refine wpAny_noted ?_
  rw [turn2i]
  refine wpAny_bind (wpAny_standAt (wpAny_bind (wpAny_mono (turn n s hJ) (fun r s1 h1 => ?_) fun _ _ z => z)))
  cases r with
  | none => exact wpAny_pure h1
  | some v =>
    refine wpAny_bind (wpAny_mono h1 (fun _ s2 h2 => wpAny_bind (wpAny_mono h2 (fun _ s3 h3 => wpAny_bind (wpAny_mono h3 (fun ok s4 h4 => ?_) fun _ _ z => z)) fun _ _ z => z)) fun _ _ z => z)
    cases ok with
    | false => exact wpAny_pure ⟨rfl, h4⟩
    | true => exact wpAny_bind (wpAny_bind (wpAny_mono h4 (fun x s5 h5 => wpAny_bind (wpAny_standAt (wpAny_bind (wpAny_mono h5 (fun _ s6 h6 => wpAny_pure (wpAny_pure ⟨rfl, h6⟩)) fun _ _ z => z)))) fun _ _ z => z))
theorem start2 {k : Nat} (hk : k = 0 ∨ k = 1) (h0 : codeAny (model prog w) A (.compLoop (sc2E el ta ia fa tb ib fb sc pos) k it acc env) R s)
    (h : wpAny (model prog w) A (pyIter it) (fun jt s' => codeAny (model prog w) A (.compLoop (sc2E el ta ia fa tb ib fb sc pos) k jt acc env) R s') (Nt prog w A env R) s) :
    codeAny (model prog w) A (.compStart (sc2E el ta ia fa tb ib fb sc pos) k it acc env) R s := by
  refine codeAny_of_tree ?_
  show wpAny _ _ ((compStart (sc2E el ta ia fa tb ib fb sc pos) k it acc env).onRaise (fun x => do noteFrame x env; standAt theWindowsPlace)) _ _ s
  refine wpAny_notedAt ?_
  rcases hk with e | e
  all_goals
    subst e
    unfold compStart
    show wpAny _ _ (ask >>= _) _ _ s
    refine wpAny_bind (wpAny_askSetting (wpAny_ite ?_))
    split
    · first
        | exact wpAny_bind (wpAny_pure (wpAny_pure (And.intro rfl h0)))
        | exact wpAny_pure (And.intro rfl h0)
    · refine wpAny_bind (wpAny_rule ?_)
      first
        | (show wpAny _ _ (standAt ia.pos >>= _) _ _ s; exact wpAny_bind (wpAny_standAt (wpAny_bind (wpAny_mono h (fun jt s' h' => wpAny_pure (And.intro rfl h')) fun _ _ z => z))))
        | (show wpAny _ _ (standAt ib.pos >>= _) _ _ s; exact wpAny_bind (wpAny_standAt (wpAny_bind (wpAny_mono h (fun jt s' h' => wpAny_pure (And.intro rfl h')) fun _ _ z => z))))
end
end RL
namespace RL
open PySem PySem.Spec PyProof.Rows L2
section
variable {X : Cx}
theorem newSet_at {prog : Program} {w : World} {A : Around} {E : Value → Shared → Prop} {s : Shared} {Q : Value → Shared → Prop}
    (h : Q (.ref s.heap.objs.size) { s with heap := s.heap.push { cls := .type "set", dict := none, data := .set #[] 0 (.fresh 0 0 (!w.params.followText "set-order")) } }) : wpAny (model prog w) A (newSet (.type "set")) Q E s := PpSet.newSet_ok h
theorem addI {pins : List (Addr × Obj)} {σ : L2.St} {H : Hp} {s : Shared} {E : Value → Shared → Prop} {D : Addr} {S : Int → Bool} {n : Nat} {y : Int} {v : Value} {Q : Value → Shared → Prop} (I : L2.Inv X pins σ H s) (hD : H D = some (SetO X.w D S n)) (room : n + 1 < scanBound) (r : RelV (.int y) v)
    (h : ∀ s', L2.Inv X pins σ (upd H D (SetO X.w D (fun j => S j || decide (j = y)) (if S y = true then n else n + 1))) s' → Q .none s') : wpAny (model X.prog X.w) X.A (call (.builtin "set.add") [.ref D, v]) Q E s := by
  obtain ⟨tk, rfl⟩ := r
  have R := setO_get I hD
  refine setR_add R room fun h1 sb new => ?_
  have ex : ∃ u, h1.get? D = some u := by
    have ⟨o, _, _, _, ho, _⟩ := new
    exact ⟨o, ho⟩
  exact h _ (I.write (e := D) (t' := s.toks + 1) (by rw [hD]; trivial) (.inl rfl) (fun b u hb hu => (sb.2 b hb).trans hu) ex (setO_new new))
/-- the reading: D the new set, its members told by S -/
def tSc2 (w : World) (wa : TI) (ga : TG) (fa : TT) (wb : TI) (gb : TG) (fb : TT) (te : TE) (vs vb : List Nat) : TE := fun σ H Q => wa σ H fun J H1 => ∀ D, H1 D = none → ∃ W : Nat → Nat → Hp → Prop, (∃ m, W 0 m (upd H1 D (SetO w D (fun _ => false) 0))) ∧ ∀ i m H, W i m H →
  (J.stop i H ∧ Q (.ref D) H) ∨ (J.go i H ∧ ∃ Nx : Hp → Prop, (∀ H', Nx H' → ∃ m', m' < m ∧ W (i + 1) m' H') ∧ ∀ x H', J.yld i H x H' → ga x (wipe σ vs) H' fun σ2 H2 => wipe σ2 vs = wipe σ vs ∧ fa σ2 H2 fun b H3 =>
    if b = true then wb σ2 H3 fun J1 H4 => ∃ W1 : Nat → Nat → Hp → Prop, (∃ m, W1 0 m H4) ∧ ∀ j k H, W1 j k H →
      (J1.stop j H ∧ Nx H) ∨ (J1.go j H ∧ ∃ Ny : Hp → Prop, (∀ H', Ny H' → ∃ k', k' < k ∧ W1 (j + 1) k' H') ∧ ∀ x H', J1.yld j H x H' → gb x (wipe σ2 vb) H' fun σ3 H5 => wipe σ3 vb = wipe σ2 vb ∧ fb σ3 H5 fun b H6 =>
        if b = true then te σ3 H6 fun y H7 => ∃ (c : Int) (S : Int → Bool) (n : Nat), y = .int c ∧ H7 D = some (SetO w D S n) ∧ n + 1 < scanBound ∧ Ny (upd H7 D (SetO w D (fun j => S j || decide (j = c)) (if S c = true then n else n + 1))) else Ny H6)
    else Nx H3)
theorem pe_sc2 {el ta ia tb ib : Expr} {ea eb : List Expr} {sc : Scope} {own : List (Str × Nat)} {vs1 : List Nat} {pos : Pos} {wa wb : TI} {ga gb : TG} {fa fb : TT} {te : TE} (hc : X.calm = true) (hN : X.N.Nodup) (hi : PI X ta ia wa) (ok : BlkOk X.N X.env.scope sc own) (hv : ∀ i ∈ vs1, i ∈ own.map (·.2))
    (hg : ∀ (s : Shared) (H : Hp) (C : Addr) (cl : List (Str × Addr)) (fp : List Addr), PG (X.blk s H sc (compEnvC sc cl C X.env) fp) ta ga) (ht : ∀ (s : Shared) (H : Hp) (C : Addr) (cl : List (Str × Addr)) (fp : List Addr), PTs (X.blk s H sc (compEnvC sc cl C X.env) fp) ea fa)
    (hi1 : ∀ (s : Shared) (H : Hp) (C : Addr) (cl : List (Str × Addr)) (fp : List Addr), PI (X.blk s H sc (compEnvC sc cl C X.env) fp) tb ib wb)
    (hg1 : ∀ (s : Shared) (H : Hp) (C : Addr) (cl : List (Str × Addr)) (fp : List Addr), PG (X.blk s H sc (compEnvC sc cl C X.env) fp) tb gb) (ht1 : ∀ (s : Shared) (H : Hp) (C : Addr) (cl : List (Str × Addr)) (fp : List Addr), PTs (X.blk s H sc (compEnvC sc cl C X.env) fp) eb fb)
    (he : ∀ (s : Shared) (H : Hp) (C : Addr) (cl : List (Str × Addr)) (fp : List Addr), PE (X.blk s H sc (compEnvC sc cl C X.env) fp) el te) (hs : ∀ x, foldedSetIterable ia X.env x = pure x := by intro _; rfl) (hs1 : ∀ env x, foldedSetIterable ib env x = pure x := by intro _ _; rfl) :
    PE X (sc2E el ta ia ea tb ib eb sc pos) (tSc2 X.w wa ga fa wb gb fb te (own.map (·.2)) vs1) := by
  refine ⟨fun pins s σ H Q I h => ?_⟩
  rw [PpSet.eval_SetComp]
  have cells : ∀ y ∈ sc.names, y.2 = .free → ∃ c, X.env.cells.lookup y.1 = some c := fun y hy e => (ok.free y hy e).elim (fun k => I.ok.has _ (.inl k)) fun k => I.ok.has _ (.inr k)
  refine wpAny_comprehension_free (use := none) rfl hs (closure_ok cells) ok.kind (fun y hy e => by rw [ok.uniq y hy, e]) (thn (hi.run pins s σ H _ I h) fun xv s1 hx => thn hx fun itv s2 h2 => ?_)
  obtain ⟨it, fp, tn, J, H2, e, I2, T, st2, f2, q⟩ := h2
  subst e
  refine newSet_at (newEnv_comp ?_)
  generalize hD : s2.heap.objs.size = D
  obtain ⟨W, ⟨m0, w0⟩, turn⟩ := q D (I2.hok.fresh (Nat.le_of_eq hD))
  generalize ho : ({ cls := .type "set", dict := none, data := .set #[] 0 (.fresh 0 0 (!X.w.params.followText "set-order")) } : Obj) = oS
  generalize hs3 : ({ s2 with heap := s2.heap.push oS } : Shared) = s3
  have hp3 : s3.heap = s2.heap.push oS := by rw [← hs3]
  have I3 : L2.Inv X pins σ (upd H2 D (SetO X.w D (fun _ => false) 0)) s3 := by
    rw [← hs3]
    refine I2.laid (t' := s2.toks) (fun b o e => Heap.get?_push_of_some _ e) (Nat.le_of_eq hD) ?_
    have g : (s2.heap.push oS).get? D = some oS := by
      rw [← hD]
      exact Heap.get?_push_size _ (by rw [← ho]; rfl)
    rw [← ho] at g ⊢
    exact setO_new (by simpa using setR_new_at (ns := []) g)
  have small : ∀ b ∈ fp, b < s2.heap.objs.size := fun b hb => (T.obj _ _ st2 b hb).elim fun o e => Heap.lt_size e.1
  have f3 : ∀ b ∈ fp, FpOk X pins (upd H2 D (SetO X.w D (fun _ => false) 0)) b ∧ b < s3.heap.objs.size := fun b hb => by
    refine ⟨⟨?_, (f2 b hb).2⟩, by rw [hp3, Heap.size_push]; exact Nat.lt_succ_of_lt (small b hb)⟩
    rw [upd_ne (by rw [← hD]; exact Nat.ne_of_lt (small b hb))]
    exact (f2 b hb).1
  have st3 : tn 0 s3.heap := T.keep _ _ _ st2 fun b _ o e => by rw [hp3]; exact Heap.get?_push_of_some _ e
  have I4 := block_start I3 ok hN f3
  generalize hcs : cellsFrom (s3.heap.objs.size + 1) sc.names (cloFrom X.env.cells sc.names []) = cs at I4
  have pg := hg s3 (upd H2 D (SetO X.w D (fun _ => false) 0)) s3.heap.objs.size cs fp
  have pt := ht s3 (upd H2 D (SetO X.w D (fun _ => false) 0)) s3.heap.objs.size cs fp
  have pe := he s3 (upd H2 D (SetO X.w D (fun _ => false) 0)) s3.heap.objs.size cs fp
  have qi := hi1 s3 (upd H2 D (SetO X.w D (fun _ => false) 0)) s3.heap.objs.size cs fp
  have qg := hg1 s3 (upd H2 D (SetO X.w D (fun _ => false) 0)) s3.heap.objs.size cs fp
  have qt := ht1 s3 (upd H2 D (SetO X.w D (fun _ => false) 0)) s3.heap.objs.size cs fp
  show codeAny _ _ (.compStart (sc2E el ta ia ea tb ib eb sc pos) 0 (.ref it) (.ref D) (compEnvC sc cs s3.heap.objs.size X.env)) (compPost (model X.prog X.w) X.A X.xe none (EP X pins σ Q) (.ref D) s3.heap.objs.size) { s3 with heap := pushCells (s3.heap.push { cls := .type "dict", data := .dict #[] }) sc.names }
  have nfp : ∀ b ∈ fp, (upd H2 D (SetO X.w D (fun _ => false) 0)) b = none := fun b hb => (f3 b hb).1.1
  generalize hce : compEnvC sc cs s3.heap.objs.size X.env = ce at I4 pg pt pe qi qg qt ⊢
  have cL : ce.locals = s3.heap.objs.size := by subst hce; rfl
  generalize hH3 : upd H2 D (SetO X.w D (fun _ => false) 0) = H3 at I3 I4 pg pt pe qi qg qt w0 nfp f3
  generalize hs4 : ({ s3 with heap := pushCells (s3.heap.push { cls := .type "dict", data := .dict #[] }) sc.names } : Shared) = s4 at I4 ⊢
  have st4 : tn 0 s4.heap := T.keep _ _ _ st3 fun b _ o e => by rw [← hs4]; exact pushCells_keeps _ _ _ _ (Heap.get?_push_of_some _ e)
  generalize hv0 : wipe σ (own.map (·.2)) = σ0 at I4 turn
  have len0 : σ0.length = σ.length := by rw [← hv0, wipe_length]
  have stat : ∀ {τ : L2.St} {H' : Hp} {s' : Shared}, L2.Inv (X.blk s3 H3 sc ce fp) [] τ H' s' → (∀ b ∈ fp, H' b = none) → ∀ b ∈ fp, FpOk (X.blk s3 H3 sc ce fp) [] H' b := fun {τ H' s'} I' hn b hb =>
    ⟨hn b hb, (I'.ok.exf b hb).1, I'.ok.exfs b hb, .inl hb, fun x c e => (I'.ok.exf b hb).2 x c e, fun p hp => absurd (show p ∈ ([] : List (Addr × Obj)) ++ [] from hp) (by simp)⟩
  -- between the turns of the first clause
  let Jo : Nat → Shared → Prop := fun n s' => ∃ i H', L2.Inv (X.blk s3 H3 sc ce fp) [] σ0 H' s' ∧ tn i s'.heap ∧ (∀ b ∈ fp, H' b = none) ∧ W i n H'
  have main : codeAny (model X.prog X.w) X.A (.compLoop (sc2E el ta ia ea tb ib eb sc pos) 0 (.ref it) (.ref D) ce) (compPost (model X.prog X.w) X.A X.xe none (EP X pins σ Q) (.ref D) s3.heap.objs.size) s4 := by
    refine loop2o (hs1 ce) Jo ?_ m0 ⟨0, H3, I4, st4, nfp, w0⟩
    rintro n s5 ⟨i, H5, I5, st5, n5, w5⟩
    rcases turn i n H5 w5 with ⟨stop, qq⟩ | ⟨go, Nx, hNx, step⟩
    · refine thnF (T.done (X.blk s3 H3 sc ce fp) rfl rfl rfl hc i [] s5 _ H5 (fun _ _ => False) I5 (stat I5 n5) st5 stop) fun r s6 ⟨hr, I6⟩ => ?_
      subst hr
      have I7 : L2.Inv X pins σ H5 s6 := I3.call' (ch := fp) I6.os I6.base I6.hok I6.bare fun b hb => ⟨(f3 b hb).1.2.2.2.1, (f3 b hb).1.2.1, (f3 b hb).1.2.2.2.2.1, (f3 b hb).1.2.2.2.2.2⟩
      have nC : H5 s3.heap.objs.size = none := by
        rw [← cL]
        exact I6.free
      obtain ⟨m, hn, _⟩ := I6.loc
      have hn : s6.heap.Ns ce.locals m := hn
      rw [cL] at hn
      refine ⟨m, hn, fun h'' sb => ?_⟩
      obtain ⟨g0, g1, g2, g3, g4, g5⟩ := I3.fpOk (Nat.le_refl _) nC
      exact ⟨.ref D, H5, I7.turned (t' := s6.toks) (fun b o hb e => (sb.2 b hb).trans e) g0 g1 g3 g4 g5, rfl, qq⟩
    · refine thnF (T.item (X.blk s3 H3 sc ce fp) rfl rfl rfl hc i [] s5 _ H5 (fun _ _ => False) I5 (stat I5 n5) st5 go) fun r s6 ⟨u, hr, h6⟩ => ?_
      subst hr
      refine thnF h6 fun _ s7 ⟨x, H7, I7, r7, y7, st7, n7⟩ => ?_
      have I7p := I7.pinned (stat I7 n7) (T.obj _ _ st7)
      refine thnF (pg.run _ s7 _ H7 x u _ I7p r7 (step x H7 y7)) fun _ s8 ⟨σ8, H8, I8, hw8, q8⟩ => ?_
      refine thnF (pt.run _ s8 σ8 H8 _ I8 q8) fun b s9 ⟨H9, I9, q9⟩ => ?_
      have back : ∀ {τ : L2.St} {s' : Shared} {H' : Hp}, L2.Inv (X.blk s3 H3 sc ce fp) ([] ++ pinsAt fp s7.heap) τ H' s' → σ0.length = τ.length → (∀ (j : Nat) v, σ0[j]? = some (some v) → τ[j]? = some (some v)) → Nx H' → ∃ m, m < n ∧ Jo m s' := fun {τ s' H'} I' hl hk nx => by
        obtain ⟨m1, hm, w1⟩ := hNx H' nx
        have pin : ∀ b ∈ fp, ∀ o, s7.heap.get? b = some o → s'.heap.get? b = some o ∧ H' b = none := fun b hb o e =>
          let z := I'.pin (b, o) (List.mem_append_right _ (List.mem_append_right _ (mem_pinsAt hb e)))
          ⟨z.1, z.2.1⟩
        refine ⟨m1, hm, i + 1, H', (I'.unpinned (pins := [])).weak hl hk, T.keep _ _ _ st7 fun b hb o e => (pin b hb o e).1, fun b hb => ?_, w1⟩
        obtain ⟨o, e, _⟩ := T.obj _ _ st7 b hb
        exact (pin b hb o e).2
      have l8 : σ0.length = σ8.length := by rw [← hw8, wipe_length]
      have k8 : ∀ (j : Nat) v, σ0[j]? = some (some v) → σ8[j]? = some (some v) ∧ (wipe σ8 vs1)[j]? = some (some v) := fun j v e => by
        rw [← hw8] at e
        obtain ⟨e1, e2⟩ := wipe_some e
        refine ⟨e1, ?_⟩
        rw [wipe_out fun z => e2 (hv j z)]
        exact e1
      cases b with
      | false =>
        simp only [Bool.false_eq_true, if_false] at q9 ⊢
        exact back I9 l8 (fun j v e => (k8 j v e).1) q9
      | true =>
        simp only [if_true] at q9 ⊢
        refine thnF (qi.run _ s9 σ8 H9 _ I9 q9) fun xv s10 hx => thnF hx fun itv s11 h11 => ?_
        obtain ⟨jt, fq, tq, J1, H11, e1, I11, T1, st11, f11, W1, ⟨m1, w1⟩, turn1⟩ := h11
        subst e1
        have stat1 : ∀ {H' : Hp}, (∀ b ∈ fq, H' b = none) → ∀ b ∈ fq, FpOk (X.blk s3 H3 sc ce fp) ([] ++ pinsAt fp s7.heap) H' b := fun hn b hb => ⟨hn b hb, (f11 b hb).2⟩
        let Ji : Nat → Shared → Prop := fun k s' => ∃ j H', L2.Inv (X.blk s3 H3 sc ce fp) ([] ++ pinsAt fp s7.heap) (wipe σ8 vs1) H' s' ∧ tq j s'.heap ∧ (∀ b ∈ fq, H' b = none) ∧ W1 j k H'
        have inner : codeAny (model X.prog X.w) X.A (.compLoop (sc2E el ta ia ea tb ib eb sc pos) 1 (.ref jt) (.ref D) ce) (fun r s' => match r with
              | .ok _ => ∃ m, m < n ∧ Jo m s'
              | .error _ => False) s11 := by
          refine loop2i Ji ?_ m1 ⟨0, H11, I11.weak (wipe_length _ _) (fun j v e => (wipe_some e).1), st11, fun b hb => (f11 b hb).1, w1⟩
          rintro k s12 ⟨j, H12, I12, st12, n12, w12⟩
          rcases turn1 j k H12 w12 with ⟨stop1, nx1⟩ | ⟨go1, Ny, hNy, step1⟩
          · refine thnF (T1.done (X.blk s3 H3 sc ce fp) rfl rfl rfl hc j _ s12 (wipe σ8 vs1) H12 (fun _ _ => False) I12 (stat1 n12) st12 stop1) fun r s13 ⟨hr, I13⟩ => ?_
            subst hr
            exact back I13 (l8.trans (wipe_length σ8 vs1).symm) (fun j v e => (k8 j v e).2) nx1
          · refine thnF (T1.item (X.blk s3 H3 sc ce fp) rfl rfl rfl hc j _ s12 (wipe σ8 vs1) H12 (fun _ _ => False) I12 (stat1 n12) st12 go1) fun r s13 ⟨u1, hr, h13⟩ => ?_
            subst hr
            refine thnF h13 fun _ s14 ⟨x1, H14, I14, r14, y14, st14, n14⟩ => ?_
            have I14p := I14.pinned (stat1 n14) (T1.obj _ _ st14)
            refine thnF (qg.run _ s14 (wipe σ8 vs1) H14 x1 u1 _ I14p r14 (step1 x1 H14 y14)) fun _ s15 ⟨σ15, H15, I15, hw15, q15⟩ => ?_
            refine thnF (qt.run _ s15 σ15 H15 _ I15 q15) fun b1 s16 ⟨H16, I16, q16⟩ => ?_
            have back1 : ∀ {s' : Shared} {H' : Hp}, L2.Inv (X.blk s3 H3 sc ce fp) (([] ++ pinsAt fp s7.heap) ++ pinsAt fq s14.heap) σ15 H' s' → Ny H' → ∃ m, m < k ∧ Ji m s' := fun {s' H'} I' nx => by
              obtain ⟨m2, hm, w2⟩ := hNy H' nx
              have pin : ∀ b ∈ fq, ∀ o, s14.heap.get? b = some o → s'.heap.get? b = some o ∧ H' b = none := fun b hb o e =>
                let z := I'.pin (b, o) (List.mem_append_right _ (List.mem_append_right _ (mem_pinsAt hb e)))
                ⟨z.1, z.2.1⟩
              refine ⟨m2, hm, j + 1, H', I'.unpinned.weak (by rw [← hw15, wipe_length]) (fun j v e => by rw [← hw15] at e; exact (wipe_some e).1), T1.keep _ _ _ st14 fun b hb o e => (pin b hb o e).1, fun b hb => ?_, w2⟩
              obtain ⟨o, e, _⟩ := T1.obj _ _ st14 b hb
              exact (pin b hb o e).2
            cases b1 with
            | false =>
              simp only [Bool.false_eq_true, if_false] at q16 ⊢
              exact back1 I16 q16
            | true =>
              simp only [if_true] at q16 ⊢
              refine thnF (pe.run _ s16 σ15 H16 _ I16 q16) fun z s17 ⟨yv, H17, I17, r17, c, S, nn, ey, hD17, hz17, nx⟩ => ?_
              subst ey
              exact addI (X := X.blk s3 H3 sc ce fp) I17 hD17 hz17 r17 fun s18 I18 => back1 I18 nx
        exact start2 (.inr rfl) inner (T1.self X.A 0 _ _ _ st11 inner)
  exact start2 (.inl rfl) main (T.self X.A 0 _ _ _ st4 main)
end
end RL
/-! The same rules with the written part by its name, for use within a comprehension. -/
namespace RL
open PySem PySem.Spec PyProof.Rows L2
section
variable {X : Cx} {K : PySem.W.Frag}
theorem ixL (h : X.K = K := by rfl) : IxR X (rIxL K) := h ▸ ix_list
theorem ixS (h : X.K = K := by rfl) : IxR X (rIx K) := h ▸ ix_seq
theorem ixT (h : X.K = K := by rfl) : IxR X (rIxT K) := h ▸ ix_tup
theorem inSq (h : X.K = K := by rfl) : OpR X (compareOp .In) (rIn K false) := h ▸ op_in_seq
theorem neD (hu : X.A.units + 64 < cLine) (h : X.K = K := by rfl) : OpR X (compareOp .NotEq) (rNeD K) := h ▸ op_neD hu
theorem eqD (hu : X.A.units + 64 < cLine) (h : X.K = K := by rfl) : OpR X (compareOp .Eq) (rEqD K) := h ▸ op_eqD hu
def rLenK (K : PySem.W.Frag) : List V → Hp → VK → Prop := fun xs H Q => ∃ p ys, xs = [.ref p] ∧ (SqL K H p ys ∨ SqT K H p ys) ∧ Q (.int ys.length) H
theorem lenK (h : X.K = K := by rfl) : CallR X (.builtin "len") (rLenK K) := h ▸ call_len_seq
def rListK (K : PySem.W.Frag) : List V → Hp → VK → Prop := fun xs H Q => ∃ p ys, xs = [.ref p] ∧ (SqL K H p ys ∨ SqT K H p ys) ∧ ∀ l, H l = none → Q (.ref l) (upd H l (.lst ys))
theorem listK (h : X.K = K := by rfl) : CallR X (.type "list") (rListK K) := h ▸ call_list_of
def rTupK (K : PySem.W.Frag) : List V → Hp → VK → Prop := fun xs H Q => ∃ p ys, xs = [.ref p] ∧ ((SqL K H p ys ∧ ∀ l, H l = none → Q (.ref l) (upd H l (.tup ys))) ∨ (SqT K H p ys ∧ Q (.ref p) H))
theorem tupK (h : X.K = K := by rfl) : CallR X (.type "tuple") (rTupK K) := h ▸ call_tuple_of
theorem isiK (h : X.K = K := by rfl) : CallR X (.builtin "isinstance") (rIsi K) := h ▸ call_isi
theorem anyK (hc : X.calm = true := by rfl) (h : X.K = K := by rfl) : CallR X (.builtin "any") (rAny K) := h ▸ cr_any hc
theorem allK (hc : X.calm = true := by rfl) (h : X.K = K := by rfl) : CallR X (.builtin "all") (rAll K) := h ▸ cr_all hc
theorem slL (h : X.K = K := by rfl) : SlR X (rSlL K) := h ▸ sl_list
theorem sortTK (h : X.K = K := by rfl) : CallR X (.builtin "sorted") (rSortT K) := h ▸ cr_sortTup
theorem sortLK (h : X.K = K := by rfl) : CallR X (.builtin "sorted") (rSorted K) := h ▸ cr_sorted
theorem setTK {w : World} (hc : X.calm = true := by rfl) (hw : X.w = w := by rfl) (h : X.K = K := by rfl) : CallR X (.type "set") (rSetT w K) := hw ▸ h ▸ cr_setT hc
theorem sortS {w : World} (hc : X.calm = true := by rfl) (hw : X.w = w := by rfl) : CallR X (.builtin "sorted") (rSortedSet w) := hw ▸ cr_sortedSet hc
theorem tupIxK (h : X.K = K := by rfl) : MtR X "tuple.index" (rTupIx K) := h ▸ mt_tupIx
theorem repTK (h : X.K = K := by rfl) : OpR X (binaryOp .Mult) (rRepT1 K) := h ▸ op_repT1
theorem fldK {e : Expr} {ta : TE} {f : Str} {pos : Pos} (he : PE X e ta) (hb : attributeBase e f X.env (eval e X.env) = eval e X.env) (h : X.K = K := by rfl) : PE X (.Attribute e f pos) (tFld K ta f) := h ▸ pe_fld he hb
theorem piEnum {e : Expr} {ta : TA} {p pos tpos : Pos} {elts : List Expr} {kk : Nat} (hg : Gl X "enumerate") (hm : X.mg "enumerate" = none) (ha : PA X [e] ta) (hs : starEach [e] X.env = [(false, eval e X.env)] := by rfl) (h : X.K = K := by rfl) :
    PI X (.Tuple elts kk tpos) (.Call (.Name "enumerate" p) [e] [] pos) (iEnum K ta) := h ▸ pi_enum hg hm ha hs
theorem piEnumT {e : Expr} {ta : TA} {p pos tpos : Pos} {elts : List Expr} {kk : Nat} (hg : Gl X "enumerate") (hm : X.mg "enumerate" = none) (ha : PA X [e] ta) (hs : starEach [e] X.env = [(false, eval e X.env)] := by rfl) (h : X.K = K := by rfl) :
    PI X (.Tuple elts kk tpos) (.Call (.Name "enumerate" p) [e] [] pos) (iEnumT K ta) := h ▸ pi_enumT hg hm ha hs
theorem piL {tg l : Expr} {tl : TE} (hl : PE X l tl) (h : X.K = K := by rfl) : PI X tg l (iList K tl) := h ▸ pi_list hl
theorem piT {tg l : Expr} {tl : TE} (hl : PE X l tl) (h : X.K = K := by rfl) : PI X tg l (iTup K tl) := h ▸ pi_tup hl
theorem pgT {es : List Expr} {k : Nat} {t : TGs} {n : Nat} {pos : Pos} (hc : X.calm = true) (ht : PGs X es t) (hn : (assignEach es X.env).length = n := by rfl) (hst : (assignEach es X.env).findIdx? (·.1) = none := by rfl) (h : X.K = K := by rfl) : PG X (.Tuple es k pos) (gTup K n t) := h ▸ pg_tup hc ht hn hst
theorem bmK {T id : String} {name : Str} {r : V → List V → Hp → VK → Prop} {o e : Expr} {es : List Expr} {to : TE} {t : TA} {apos cpos : Pos} (pa : PlainAttrs T) (slot : Slot T name id) (hty : typeOf (.builtin id) = pure (.type "method_descriptor")) (hm : MtR X id r) (ho : PE X o to) (ha : PA X (e :: es) t)
    (hbase : attributeBase o name X.env (eval o X.env) = eval o X.env := by rfl)
    (hfew : ((backTo cpos (starEach (e :: es) X.env)).all (fun x => !x.1) && (backToKw cpos (keywordEach [] X.env)).all (fun x => x.1.isSome) && decide ((e :: es).length + ([] : List Keyword).length + (if ([] : List Keyword).isEmpty then 0 else 1) < 30)) = true := by rfl)
    (hline : (apos.endLine == cpos.line) = true := by rfl) (hs : starEach (e :: es) X.env = (false, eval e X.env) :: starEach es X.env := by rfl) (hplain : (backTo cpos (starEach es X.env)).any (·.1) = false := by rfl) (h : X.K = K := by rfl) :
    PE X (.Call (.Attribute o name apos) (e :: es) [] cpos) (tBM K T r to t) := h ▸ pe_bm pa slot hty hm ho ha hbase hfew hline hs hplain
end
end RL
/-! Sets of tuples of ints: set(), add, in. -/
namespace RL
open PySem PySem.Spec PyProof.Rows L2
section
variable {P : Program} {w : World} {A : Around} {E : Value → Shared → Prop} {s : Shared} {a : Addr} {L : List (Addr × List Int)} {es : Array (Int × Value)} {ep : Nat} {t : SetTable}
/-- the probe's stand at its c-th step -/
abbrev stAt (P : Program) (w : World) (t : SetTable) (k : List Int) (c : Nat) : SetTable.Probe := nth t.mask (runAt t.mask (SetTable.bits (thash P w k) % (t.mask + 1)) (SetTable.bits (thash P w k))) c
theorem stAt_dummy (k : List Int) (c : Nat) : (stAt P w t k c).dummy = none := by
  have key : ∀ (n : Nat) (p : SetTable.Probe), p.dummy = none → (nth t.mask p n).dummy = none := by
    intro n
    induction n with
    | zero => exact fun _ z => z
    | succ n ih =>
      intro p z
      refine ih (adv t.mask p) ?_
      unfold adv
      split <;> exact z
  exact key c _ rfl
theorem find_from (R : SetTR P w s.heap a L es ep t) {x : Addr} {k : List Int} (hx : IsT P w s.heap k x) (hu : A.units < cLine) {M : Nat} (hMf : M < 10 * SetTable.turns t.mask)
    (hM : way t.mask (thash P w k) M ∉ t.place.toList) (hMb : ∀ c, c < M → way t.mask (thash P w k) c ∈ t.place.toList) {Q : SetFound → Shared → Prop}
    (yes : ∀ i, k ∈ L.map (·.2) → Q (.there (some i)) s) (no : k ∉ L.map (·.2) → Q (.free (way t.mask (thash P w k) M) false) s) :
    ∀ (f c : Nat) (st : Option SetTable.Probe), st.getD (t.probeStart (thash P w k)) = stAt P w t k c → c ≤ M → M - c < f →
      (∀ (i : Nat) p, L[i]? = some p → p.2 = k → ∃ d, c ≤ d ∧ d < M ∧ t.place.toList[i]? = some (way t.mask (thash P w k) d)) →
      wpAny (model P w) A (setSearchFrom a (.ref x) (thash P w k) false f st) Q E s
  | 0, c, st, _, _, hf, _ => absurd hf (Nat.not_lt_zero _)
  | f + 1, c, st, hst, hcM, hf, ahead => by
    obtain ⟨o, ho, hex, hd⟩ := R.ob
    rw [setSearchFrom_succ]
    refine wpAny_bind (wpAny_setState_of ho hd R.fits ?_)
    dsimp only
    refine wp_if_neg R.gw ?_
    try refine wpAny_bind (wpAny_pure ?_)
    have sh : ∀ q, nth t.mask (stAt P w t k c) q = stAt P w t k (c + q) := fun q => (nth_add t.mask c _ q).symm
    have jj : ∀ q, (nth t.mask (stAt P w t k c) q).j = way t.mask (thash P w k) (c + q) := fun q => congrArg SetTable.Probe.j (sh q)
    have cM : c + (M - c) = M := by omega
    have spec := go_spec t R.tab.ris R.tab.dm (fun i => (es[i]?.map (·.1)).getD 0) (thash P w k) (10 * SetTable.turns t.mask) (M - c) _ (stAt_dummy k c) (by omega)
      (fun q hq => by rw [jj]; exact hMb (c + q) (by omega)) (by rw [jj, cM]; exact hM)
    have hashAt : ∀ (i : Nat) p, L[i]? = some p → (fun i => (es[i]?.map (·.1)).getD 0) i = thash P w p.2 := fun i p hp => by
      show (es[i]?.map (·.1)).getD 0 = _
      rw [R.entry hp]
      rfl
    rcases spec with ⟨q, i, hq, hi, hh, free, pr⟩ | ⟨free, pr⟩
    · have pr1 : t.probe (fun i => (es[i]?.map (·.1)).getD 0) (thash P w k) (st.getD (t.probeStart (thash P w k))) = some (.candidate (way t.mask (thash P w k) (c + q)) i (stAt P w t k (c + (q + 1)))) := by
        rw [hst, ← jj, ← sh]
        exact pr
      rw [pr1]
      dsimp only
      rw [jj] at hi
      have il : i < L.length := by
        have l1 : i < t.place.toList.length := (List.getElem?_eq_some_iff.mp hi).1
        have l2 := R.tab.sz
        rw [List.length_map] at l2
        rw [Array.length_toList] at l1
        omega
      obtain ⟨p, hp⟩ : ∃ p, L[i]? = some p := ⟨_, List.getElem?_eq_getElem il⟩
      have mp : p ∈ L := List.mem_of_getElem? hp
      have live : t.slot (way t.mask (thash P w k) (c + q)) = .live i := slot_live R.tab.ris hi
      have rest : wpAny (model P w) A (searchRest a (.ref x) (thash P w k) false f es t (way t.mask (thash P w k) (c + q)) i (stAt P w t k (c + (q + 1)))) Q E s := by
        unfold searchRest
        rw [R.entry hp]
        dsimp only
        refine wpAny_bind (wpAny_holding (wpAny_eqBool_tuple hu (R.tup p mp) hx ?_))
        refine wpAny_bind (wpAny_setState_of ho hd R.fits ?_)
        dsimp only
        refine wp_if_neg (by simp) ?_
        try refine wpAny_bind (wpAny_pure ?_)
        rw [sameMem]
        dsimp only
        simp only [if_true, live, R.entry hp]
        refine wpAny_bind (wpAny_isSame_ref_self (wpAny_bind (wpAny_pure ?_)))
        simp only [if_true]
        by_cases e : p.2 = k
        · refine wp_if_pos (by simp [e]) ?_
          exact wpAny_pure (yes i (List.mem_map.mpr ⟨p, mp, e⟩))
        · refine wp_if_neg (by simp [e]) ?_
          refine find_from R hx hu hMf hM hMb yes no f (c + (q + 1)) _ rfl (by omega) (by omega) fun i0 p0 h0 k0 => ?_
          obtain ⟨d, d1, d2, d3⟩ := ahead i0 p0 h0 k0
          refine ⟨d, ?_, d2, d3⟩
          have ne : d ≠ c + q := fun z => by
            rw [z] at d3
            have l0 := slot_live R.tab.ris d3
            rw [live] at l0
            injection l0 with l0
            rw [← l0, hp] at h0
            exact e ((congrArg Prod.snd (Option.some.inj h0)).trans k0)
          have ge : ¬ d < c + q := fun z => by
            refine free (d - c) i0 (by omega) (by rw [jj, show c + (d - c) = d by omega]; exact d3) ?_
            exact (hashAt i0 p0 h0).trans (congrArg (thash P w) k0)
          omega
      by_cases led : t.led = true
      · refine wp_if_neg (by simp [led]) ?_
        try refine wpAny_bind (wpAny_pure ?_)
        exact rest
      · refine wp_if_pos (by simp [led]) ?_
        refine wpAny_bind (seen_tup hx (fun y hy => ?_) ?_)
        · obtain ⟨e, he, ee⟩ := List.mem_map.mp hy
          have e1 : e ∈ es ∧ e.1 = thash P w k := by simpa using he
          have e2 : e ∈ es.toList := by simpa using e1.1
          rw [R.rows] at e2
          obtain ⟨p2, hp2, e3⟩ := List.mem_map.mp e2
          exact ⟨p2.2, p2.1, by rw [← ee, ← e3], R.tup p2 hp2⟩
        · refine wp_if_neg (by decide) ?_
          try refine wpAny_bind (wpAny_pure ?_)
          exact rest
    · have pr1 : t.probe (fun i => (es[i]?.map (·.1)).getD 0) (thash P w k) (st.getD (t.probeStart (thash P w k))) = some (.empty (way t.mask (thash P w k) M) none) := by
        have e2 : way t.mask (thash P w k) M = (nth t.mask (stAt P w t k c) (M - c)).j := by rw [jj, cM]
        rw [hst, e2]
        exact pr
      rw [pr1]
      dsimp only
      refine wpAny_pure (no fun hm => ?_)
      obtain ⟨p0, h0, k0⟩ := List.mem_map.mp hm
      obtain ⟨i0, hi0, e0⟩ := List.getElem_of_mem h0
      have h00 : L[i0]? = some p0 := by rw [List.getElem?_eq_getElem hi0, e0]
      obtain ⟨d, d1, d2, d3⟩ := ahead i0 p0 h00 k0
      refine free (d - c) i0 (by omega) (by rw [jj, show c + (d - c) = d by omega]; exact d3) ?_
      exact (hashAt i0 p0 h00).trans (congrArg (thash P w) k0)
theorem find_at (R : SetTR P w s.heap a L es ep t) {x : Addr} {k : List Int} (hx : IsT P w s.heap k x) (hu : A.units < cLine) {Q : Option Nat → Shared → Prop} (h : ∀ r : Option Nat, r.isSome = decide (k ∈ L.map (·.2)) → Q r s) :
    wpAny (model P w) A (setFind a (.ref x) (thash P w k)) Q E s := by
  have room := R.room
  obtain ⟨M, hMf, hM, hMb⟩ := R.tab.first (by rw [List.length_map]; omega) (thash P w k)
  have big : M < 100000 := by
    have : 10 * SetTable.turns t.mask ≤ 1420 := by
      unfold SetTable.turns
      rcases R.tab.mok with e | e | e <;> omega
    omega
  obtain ⟨o, ho, hex, hd⟩ := R.ob
  unfold setFind setFindIn
  refine wpAny_bind (wpAny_setState_of ho hd R.fits ?_)
  dsimp only
  have bs : byScan (.ref x) es = false := by rfl
  rw [bs]
  simp only [Bool.false_eq_true, if_false]
  unfold setSearch
  refine wpAny_bind (find_from R hx hu hMf hM hMb (fun i hm => wpAny_pure (h _ (by simp [hm]))) (fun hm => wpAny_pure (h _ (by simp [hm]))) 100000 0 none rfl (Nat.zero_le _) (by omega) fun i p hp hk => ?_)
  have hi : (L.map fun p => thash P w p.2)[i]? = some (thash P w k) := by
    rw [List.getElem?_map, hp, ← hk]
    rfl
  have il : i < t.place.toList.length := by
    have h1 : i < L.length := (List.getElem?_eq_some_iff.mp hp).1
    have h2 := R.tab.sz
    rw [List.length_map] at h2
    rw [Array.length_toList]
    omega
  have hj := List.getElem?_eq_getElem il
  obtain ⟨c, hc, e⟩ := R.tab.before hM hi hj
  exact ⟨c, Nat.zero_le _, hc, by rw [hj, e]⟩
end
section
variable {X : Cx} {K : PySem.W.Frag} {P : Program} {w : World}
/-- the set's tuples stand -/
def TupsAt (K : PySem.W.Frag) (H : Hp) (L : List (Addr × List Int)) : Prop := ∀ p ∈ L, SqT K H p.1 (p.2.map V.int)
theorem setTR_of {pins : List (Addr × Obj)} {σ : L2.St} {H : Hp} {s : Shared} {a : Addr} {L : List (Addr × List Int)} (I : L2.Inv X pins σ H s) (ha : H a = some (SetTO X.prog X.w a L)) (ht : TupsAt X.K H L) : ∃ es ep t, SetTR X.prog X.w s.heap a L es ep t :=
  SetT0.full (I.hok a _ ha).1 fun p hp => I.isT (ht p hp)
/-- set() that is to hold tuples -/
def rSet0T (P : Program) (w : World) : List V → Hp → VK → Prop := fun xs H Q => xs = [] ∧ ∀ p, H p = none → Q (.ref p) (upd H p (SetTO P w p []))
theorem set0T (hP : X.prog = P := by rfl) (hw : X.w = w := by rfl) : CallR X (.type "set") (rSet0T P w) := by
  subst hP hw
  intro pins s σ H xs us Q I r h
  obtain ⟨rfl, q⟩ := h
  cases r
  refine setR_new fun _ => ?_
  exact ⟨.ref _, _, I.laid (t' := s.toks) (fun b u e => Heap.get?_push_of_some _ e) (Nat.le_refl _) (setTO_new (setTR_fresh (Heap.get?_push_size _ rfl)).t0), rfl, q _ (I.hok.fresh (Nat.le_refl _))⟩
/-- t in seen -/
def rInT (K : PySem.W.Frag) (P : Program) (w : World) : R2 := fun x y H Q => ∃ (b a : Addr) (k : List Int) (L : List (Addr × List Int)), x = .ref b ∧ y = .ref a ∧ SqT K H b (k.map V.int) ∧ H a = some (SetTO P w a L) ∧ TupsAt K H L ∧ Q (.bl (decide (k ∈ L.map (·.2)))) H
theorem inT (hu : X.A.units + 64 < cLine) (hK : X.K = K := by rfl) (hP : X.prog = P := by rfl) (hw : X.w = w := by rfl) : OpR X (compareOp .In) (rInT K P w) := by
  subst hK hP hw
  intro pins s σ H x y v u Q I rx ry h
  obtain ⟨b, a, k, L, rfl, rfl, hb, ha, ht, q⟩ := h
  cases rx
  cases ry
  obtain ⟨es, ep, t, R⟩ := setTR_of I ha ht
  have hx := I.isT hb
  obtain ⟨o, ho, hex, hd⟩ := R.ob
  have ty : s.TypeIs (.ref a) "set" := ⟨o, ho, hex.1⟩
  show wpAny _ _ (do return Value.bool (← contains (.ref a) (.ref b))) _ _ s
  refine wpAny_bind ?_
  unfold contains
  try with_reducible refine wpAny_holding ?_
  refine wpAny_bind (wpAny_specialOf ty F.slot_set_contains.lookup ?_)
  show wpAny _ _ (if (some (Value.builtin "set.__contains__") == some Value.none) = true then _ else _) _ _ s
  rw [if_neg (by rw [beq_builtin_none]; exact Bool.false_ne_true)]
  refine wpAny_bind (wpAny_callSpecialUnlessNone?_slot (name := Str.ofString "__contains__") ty F.slot_set_contains
    (wpAny_call_entry F.slot_set_contains ty entry_set_contains ?_ (F.args_set_contains_2 _ _)))
  unfold Builtin.«frozenset.__contains__» Builtin.Frozenset.oneOther
  simp only [List.isEmpty_nil, bind_assoc]
  unfold Builtin.Frozenset.addrOf Builtin.Frozenset.withSetAsKey setContains
  refine wpAny_bind (wpAny_pure ?_)
  try dsimp only
  refine wpAny_bind (wpAny_pure ?_)
  try dsimp only
  refine wpAny_bind (wpAny_tryCatch ?_)
  refine wpAny_holding ?_
  have hu2 : X.A.in1.units < cLine := by
    show X.A.units + 1 < cLine
    omega
  refine wpAny_bind (wpAny_pyHash_tuple (by simpa using hu2) hx ?_)
  refine wpAny_bind (find_at (s := { s with toks := s.toks + (k.length + 1) }) R hx (by simpa using hu2) fun r hr => ?_)
  refine wpAny_pure ?_
  show wpAny _ _ (ret (Value.bool r.isSome)) _ _ _
  rw [hr]
  exact wpAny_pure ⟨_, rfl, wpAny_truthy_bool (wpAny_pure ⟨.bl _, H, I.tok _, rfl, q⟩)⟩
/-- seen.add(t) -/
def rAddT (K : PySem.W.Frag) (P : Program) (w : World) : V → List V → Hp → VK → Prop := fun x xs H Q => ∃ (a b : Addr) (k : List Int) (L : List (Addr × List Int)), x = .ref a ∧ xs = [.ref b] ∧ SqT K H b (k.map V.int) ∧ H a = some (SetTO P w a L) ∧ TupsAt K H L ∧ L.length < 63 ∧ k ∉ L.map (·.2) ∧
  ∀ L', L'.Perm ((b, k) :: L) → Q .non (upd H a (SetTO P w a L'))
def tAddT (K : PySem.W.Frag) (P : Program) (w : World) (to : TE) (t : TA) : TE := fun σ H Q => to σ H fun x H1 => (∃ a L, x = V.ref a ∧ H1 a = some (SetTO P w a L)) ∧ t σ H1 fun xs H2 => rAddT K P w x xs H2 Q
theorem addT (hu : X.A.units + 64 < cLine) (hK : X.K = K) (hP : X.prog = P) (hw : X.w = w) : MtR X "set.add" (rAddT K P w) := by
  subst hK hP hw
  intro pins s σ H x xs v us Q I rx rxs h
  obtain ⟨a, b, k, L, rfl, rfl, hb, ha, ht, few, nin, q⟩ := h
  cases rx
  rw [Vals.ref1 rxs]
  obtain ⟨es, ep, t, R⟩ := setTR_of I ha ht
  have hx := I.isT hb
  obtain ⟨o, ho, hex, hd⟩ := R.ob
  have ty : s.TypeIs (.ref a) "set" := ⟨o, ho, hex.1⟩
  refine wpAny_call_entry F.slot_set_add ty F.entry_set_add ?_ (F.args_set_add_2 _ _)
  unfold Builtin.«set.add» Builtin.Frozenset.oneOther
  simp only [List.isEmpty_nil, bind_assoc]
  unfold Builtin.Frozenset.addrOf setAdd
  refine wpAny_bind (wpAny_pure ?_)
  try dsimp only
  refine wpAny_bind (wpAny_pure ?_)
  try dsimp only
  have hu2 : X.A.in1.units < cLine := by
    show X.A.units + 1 < cLine
    omega
  refine wpAny_bind (wpAny_holding (wpAny_bind (wpAny_pyHash_tuple hu2 hx ?_)))
  refine add_at (s := { s with toks := s.toks + (k.length + 1) }) R hx hu2 (by omega) fun fl h1 L' es' ep' t' sb R' _ c2 => ?_
  show wpAny _ _ (ret Value.none) _ _ _
  have ex : ∃ u, h1.get? a = some u := by
    obtain ⟨o', ho', _⟩ := R'.ob
    exact ⟨o', ho'⟩
  refine wpAny_pure ⟨_, rfl, ?_⟩
  exact ⟨.non, _, I.write (e := a) (t' := s.toks + (k.length + 1)) (by rw [ha]; trivial) (.inl rfl) (fun c u hc hu => (sb.2 c hc).trans hu) ex (setTO_new R'.t0), rfl, q L' (c2 nin)⟩
theorem pe_addT {o e : Expr} {es : List Expr} {to : TE} {t : TA} {apos cpos : Pos} (hu : X.A.units + 64 < cLine) (ho : PE X o to) (ha : PA X (e :: es) t)
    (hbase : attributeBase o "add" X.env (eval o X.env) = eval o X.env := by rfl)
    (hfew : ((backTo cpos (starEach (e :: es) X.env)).all (fun x => !x.1) && (backToKw cpos (keywordEach [] X.env)).all (fun x => x.1.isSome) && decide ((e :: es).length + ([] : List Keyword).length + (if ([] : List Keyword).isEmpty then 0 else 1) < 30)) = true := by rfl)
    (hline : (apos.endLine == cpos.line) = true := by rfl) (hs : starEach (e :: es) X.env = (false, eval e X.env) :: starEach es X.env := by rfl) (hplain : (backTo cpos (starEach es X.env)).any (·.1) = false := by rfl) (hK : X.K = K := by rfl) (hP : X.prog = P := by rfl) (hw : X.w = w := by rfl) :
    PE X (.Call (.Attribute o "add" apos) (e :: es) [] cpos) (tAddT K P w to t) := by
  refine ⟨fun pins s σ H Q I h => ?_⟩
  refine wpAny_Call_method_late hbase hfew hline rfl (thn (ho.run pins s σ H _ I h) fun v s1 ⟨x, H1, I1, r1, ty, q1⟩ => ?_)
  obtain ⟨a, L, rfl, hka⟩ := ty
  cases r1
  subst hP hw
  obtain ⟨es1, ep1, t1, ⟨ob, hob, hex, hd⟩, _⟩ := SetT0.ex (I1.hok a _ hka).1
  refine ⟨"set", "set.add", F.plainAttrs_set, F.slot_set_add, F.type_set_add, ⟨ob, hob, hex.1⟩, fun b z => by injection z with z; subst z; exact ⟨ob, hob, hex.2.1⟩, ?_⟩
  have hA := ha.run cpos pins s1 σ H1 _ I1 q1
  rw [hs] at hA ⊢
  refine Calls.callWith_builtin (by show (false || (backTo cpos (starEach es X.env)).any (·.1)) = false; rw [hplain]; rfl) (Calls.evalArgs_plain ?_)
  exact thn hA fun us s2 ⟨vs, H2, I2, r2, q2⟩ => addT hu hK rfl rfl pins s2 σ H2 (.ref a) vs (.ref a) us Q I2 rfl r2 q2
theorem sortSetT (hc : X.calm = true := by rfl) (hK : X.K = K := by rfl) (hP : X.prog = P := by rfl) (hw : X.w = w := by rfl) : CallR X (.builtin "sorted") (rSortedT K P w) := by
  subst hK hP hw
  exact cr_sortedT hc
end
end RL
/-! A tuple whose object is known to have no dict of its own: made by tuple(list), asked for index. -/
namespace RL
open PySem PySem.Spec PyProof.Rows L2
section
variable {X : Cx} {K : PySem.W.Frag}
def rTupFz (K : PySem.W.Frag) : List V → Hp → VK → Prop := fun xs H Q => ∃ p ys, xs = [.ref p] ∧ SqL K H p ys ∧ ∀ (l : Addr) (o : Obj), H l = none → o.dict = none → Q (.ref l) (upd H l (.frz o (.tup ys)))
theorem tupFz (h : X.K = K := by rfl) : CallR X (.type "tuple") (rTupFz K) := by
  subst h
  intro pins s σ H xs us Q I r h
  obtain ⟨p, ys, rfl, hq, q⟩ := h
  rw [Vals.ref1 r]
  obtain ⟨its, rv, pl, hz⟩ := I.list hq
  have hlen := rv.length
  refine call_tuple_list pl.isList (fun h1 kp => ?_) (by rw [List.size_toArray]; omega)
  have I1 : L2.Inv X pins σ H { s with heap := h1 } := I.kept (t' := s.toks) kp
  have fr : H h1.objs.size = none := I1.hok.fresh (Nat.le_refl _)
  refine ⟨.ref h1.objs.size, upd H h1.objs.size (.frz { cls := .type "tuple", data := .seq its.toArray } (.tup ys)), I1.laid (t' := s.toks) (fun b o e => Heap.get?_push_of_some _ e) (Nat.le_refl _) ?_, rfl, q _ _ fr rfl⟩
  exact ⟨Heap.get?_push_size _ rfl, hz, its, rv, IsTup.new _ _⟩
def tTupIx (K : PySem.W.Frag) (to : TE) (t : TA) : TE := fun σ H Q => to σ H fun x H1 => (∃ a o xs, x = V.ref a ∧ H1 a = some (.frz o (.tup xs)) ∧ o.dict = none) ∧ t σ H1 fun xs H2 => rTupIx K x xs H2 Q
theorem pe_tupIx {o e : Expr} {es : List Expr} {to : TE} {t : TA} {apos cpos : Pos} (ho : PE X o to) (ha : PA X (e :: es) t)
    (hbase : attributeBase o "index" X.env (eval o X.env) = eval o X.env := by rfl)
    (hfew : ((backTo cpos (starEach (e :: es) X.env)).all (fun x => !x.1) && (backToKw cpos (keywordEach [] X.env)).all (fun x => x.1.isSome) && decide ((e :: es).length + ([] : List Keyword).length + (if ([] : List Keyword).isEmpty then 0 else 1) < 30)) = true := by rfl)
    (hline : (apos.endLine == cpos.line) = true := by rfl) (hs : starEach (e :: es) X.env = (false, eval e X.env) :: starEach es X.env := by rfl) (hplain : (backTo cpos (starEach es X.env)).any (·.1) = false := by rfl) (hK : X.K = K := by rfl) :
    PE X (.Call (.Attribute o "index" apos) (e :: es) [] cpos) (tTupIx K to t) := by
  subst hK
  refine ⟨fun pins s σ H Q I h => ?_⟩
  refine wpAny_Call_method_late hbase hfew hline rfl (thn (ho.run pins s σ H _ I h) fun v s1 ⟨x, H1, I1, r1, ty, q1⟩ => ?_)
  obtain ⟨a, ob, ys, rfl, hka, nd⟩ := ty
  cases r1
  obtain ⟨hob, _, its, rv, ⟨o2, ho2, hc2, _⟩⟩ := (show ObjOk X.prog X.w H1 s1.heap a (.frz ob (.tup ys)) from I1.hok a _ hka)
  refine ⟨"tuple", "tuple.index", F.plainAttrs_tuple, F.slot_tuple_index, F.type_tuple_index, ⟨o2, ho2, hc2⟩, fun b z => by injection z with z; subst z; exact ⟨ob, hob, nd⟩, ?_⟩
  have hA := ha.run cpos pins s1 σ H1 _ I1 q1
  rw [hs] at hA ⊢
  refine Calls.callWith_builtin (by show (false || (backTo cpos (starEach es X.env)).any (·.1)) = false; rw [hplain]; rfl) (Calls.evalArgs_plain ?_)
  exact thn hA fun us s2 ⟨vs, H2, I2, r2, q2⟩ => mt_tupIx pins s2 σ H2 (.ref a) vs (.ref a) us Q I2 rfl r2 q2
end
end RL
/-! zip of two things, each a list or a tuple. -/
namespace RL
open PySem PySem.Spec PyProof.Rows L2
/-- what is drawn from: true a tuple, false a list -/
def hIt : Bool → Heap → Addr → Addr → Nat → Prop
  | true, h, i, l, k => h.IsTupleIter i l k
  | false, h, i, l, k => h.IsListIter i l k
def hSq : Bool → Heap → Addr → Array Value → Prop
  | true, h, l, xs => h.IsTuple l xs
  | false, h, l, xs => h.IsList l xs
theorem hIt.but {u : Bool} {h g : Heap} {c i l : Addr} {k : Nat} (x : hIt u h i l k) (e : Heap.ExtBut c h g) (n : i ≠ c) : hIt u g i l k := by
  cases u with
  | true => exact Heap.IsTupleIter.extBut x e n
  | false => exact Heap.IsListIter.extBut x e n
theorem hSq.but {u : Bool} {h g : Heap} {c l : Addr} {xs : Array Value} (x : hSq u h l xs) (e : Heap.ExtBut c h g) (n : l ≠ c) : hSq u g l xs := by
  cases u with
  | true => exact Heap.IsTuple.extBut x e n
  | false => exact Heap.IsList.extBut x e n
theorem hIt.to {u : Bool} {h g : Heap} {i l : Addr} {k : Nat} (x : hIt u h i l k) (e : ∀ o, h.get? i = some o → g.get? i = some o) : hIt u g i l k := by
  cases u with
  | true => exact Heap.IsTupleIter.at x e
  | false => exact Heap.IsListIter.at x e
theorem hIt.obj {u : Bool} {h : Heap} {i l : Addr} {k : Nat} (x : hIt u h i l k) : ∃ o, h.get? i = some o ∧ ∀ v, o.data ≠ .cell v := by
  cases u with
  | true =>
    obtain ⟨o, e, _, d⟩ := x
    exact ⟨o, e, fun v q => by rw [d] at q; cases q⟩
  | false =>
    obtain ⟨o, e, _, d⟩ := x
    exact ⟨o, e, fun v q => by rw [d] at q; cases q⟩
theorem hIt.small {u : Bool} {h : Heap} {i l : Addr} {k : Nat} (x : hIt u h i l k) : i < h.objs.size := by
  obtain ⟨o, e, _⟩ := x.obj
  exact Heap.lt_size e
section
variable {prog : Program} {w : World} {A : Around} {E : Value → Shared → Prop} {s : Shared}
theorem half_item {u : Bool} {it l : Addr} {k : Nat} {xs : Array Value} {x : Value} {Q : Value → Shared → Prop} (a1 : hIt u s.heap it l k) (a2 : hSq u s.heap l xs) (hx : xs[k]? = some x)
    (hq : ∀ g, hIt u g it l (k + 1) → Heap.SameBut it s.heap g → Q x { s with heap := g }) : wpAny (model prog w) A (Builtin.SmallTypes.nextOf (.ref it)) Q E s := by
  cases u with
  | true => exact RZ.nextOf_tuple_item a1 a2 hx hq
  | false => exact wpAny_nextOf_list_item a1 a2 hx hq
theorem half_end {u : Bool} {it l : Addr} {k : Nat} {xs : Array Value} {Q : Value → Shared → Prop} (hh : A.handled = none) (a1 : hIt u s.heap it l k) (a2 : hSq u s.heap l xs) (hx : xs[k]? = none)
    (he : ∀ g e, Heap.ExtBut it s.heap g → (∃ o, g.get? e = some o ∧ o.cls = .type "StopIteration") → E (.ref e) { s with heap := g }) : wpAny (model prog w) A (Builtin.SmallTypes.nextOf (.ref it)) Q E s := by
  cases u with
  | true => exact RZ.nextOf_tuple_end hh a1 a2 hx he
  | false => exact wpAny_nextOf_list_end hh a1 a2 hx he
theorem zh_item {q ti to m1 m2 d1 d2 : Addr} {u1 u2 : Bool} {n1 n2 : Nat} {vs1 vs2 : Array Value} {x y a b : Value} {Q : Value → Shared → Prop} (D : ZipApart q ti to m1 m2 d1 d2)
    (zz : IsZip s.heap q ti to .none) (pi : IsPair s.heap ti (.ref m1) (.ref m2)) (po : IsPair s.heap to a b)
    (w1 : hIt u1 s.heap m1 d1 n1) (w2 : hIt u2 s.heap m2 d2 n2) (s1 : hSq u1 s.heap d1 vs1) (s2 : hSq u2 s.heap d2 vs2) (hx : vs1[n1]? = some x) (hy : vs2[n2]? = some y)
    (hq : ∀ g, IsZip g q ti to (rawInt s.heap.objs.size) → IsPair g to x y → hIt u1 g m1 d1 (n1 + 1) → hIt u2 g m2 d2 (n2 + 1) → IsPair g s.heap.objs.size x y → g.objs.size = s.heap.objs.size + 1 →
      (∀ c o, c ≠ q → c ≠ to → c ≠ m1 → c ≠ m2 → s.heap.get? c = some o → g.get? c = some o) → Q (.ref s.heap.objs.size) { s with heap := g }) :
    wpAny (model prog w) A (Builtin.«zip.__next__» ⟨[.ref q], []⟩) (fun f s' => ∃ v, f = .done (.ret v) ∧ Q v s') E s := by
  show wpAny _ _ (field (.ref q) 2 >>= _) _ _ _
  refine wpAny_bind (wpAny_field zz rfl (x := .bool false) rfl ?_)
  show wpAny _ _ (field (.ref q) 3 >>= _) _ _ _
  refine wpAny_bind (wpAny_field zz rfl (x := .ref ti) rfl (wpAny_bind (wpAny_seqItems pi rfl ?_)))
  show wpAny _ _ (Builtin.SmallTypes.ownedTupleIsFree (.ref q) >>= _) _ _ _
  refine wpAny_bind ?_; unfold Builtin.SmallTypes.ownedTupleIsFree
  refine wpAny_bind (wpAny_field zz rfl (x := .none) rfl (wpAny_pure ?_))
  simp only [if_true]
  refine wpAny_bind (wpAny_rule (wpAny_bind (wpAny_field zz rfl (x := .ref to) rfl (wpAny_bind (wpAny_setField_rec zz (by simp) fun g1 zz1 b1 => ?_)))))
  replace zz1 : IsZip g1 q ti to .ellipsis := zz1
  refine wpAny_bind ?_
  simp only [List.zipIdx_nil, List.zipIdx_cons, List.forIn_nil, List.forIn_cons]
  refine wpAny_bind (wpAny_bind (wpAny_onRaise ?_))
  show wpAny _ _ (Builtin.SmallTypes.nextOf (.ref m1) >>= _) _ _ _
  refine wpAny_bind (half_item (w1.but b1.extBut D.i1z) (s1.but b1.extBut D.l1z) hx fun g2 v1 b2 => wpAny_pure ?_)
  have po2 : IsPair g2 to a b := b2.extBut _ _ D.TOi1 (b1.extBut _ _ D.TOz po)
  refine wpAny_bind (wpAny_seqItems po2 rfl (wpAny_bind (wpAny_updateSeq_pair po2 fun g3 po3 b3 => ?_)))
  replace po3 : IsPair g3 to x b := po3
  refine wpAny_bind (wpAny_letGo (wpAny_pure (wpAny_bind (wpAny_bind (wpAny_onRaise ?_)))))
  show wpAny _ _ (Builtin.SmallTypes.nextOf (.ref m2) >>= _) _ _ _
  refine wpAny_bind (half_item (((w2.but b1.extBut D.i2z).but b2.extBut D.i12.symm).but b3.extBut D.TOi2.symm) (((s2.but b1.extBut D.l2z).but b2.extBut D.l2i1).but b3.extBut D.l2TO) hy fun g4 v2 b4 => wpAny_pure ?_)
  have po4 : IsPair g4 to x b := b4.extBut _ _ D.TOi2 po3
  refine wpAny_bind (wpAny_seqItems po4 rfl (wpAny_bind (wpAny_updateSeq_pair po4 fun g5 po5 b5 => ?_)))
  replace po5 : IsPair g5 to x y := po5
  refine wpAny_bind (wpAny_letGo (wpAny_pure (wpAny_pure (wpAny_bind (wpAny_seqItems po5 rfl (wpAny_bind (wpAny_newTuple ?_)))))))
  have sz : g5.objs.size = s.heap.objs.size := by rw [b5.1, b4.1, b3.1, b2.1, b1.1]
  have zz5 : IsZip g5 q ti to .ellipsis := b5.extBut _ _ D.TOz.symm (b4.extBut _ _ D.i2z.symm (b3.extBut _ _ D.TOz.symm (b2.extBut _ _ D.i1z.symm zz1)))
  have old5 : ∀ c o, c ≠ q → c ≠ to → c ≠ m1 → c ≠ m2 → s.heap.get? c = some o → g5.get? c = some o := fun c o c1 c2 c3 c4 e => b5.extBut _ _ c2 (b4.extBut _ _ c4 (b3.extBut _ _ c2 (b2.extBut _ _ c3 (b1.extBut _ _ c1 e))))
  have v15 : hIt u1 g5 m1 d1 (n1 + 1) := ((v1.but b3.extBut D.TOi1.symm).but b4.extBut D.i12).but b5.extBut D.TOi1.symm
  have v25 : hIt u2 g5 m2 d2 (n2 + 1) := v2.but b5.extBut D.TOi2.symm
  have ql : q < g5.objs.size := Heap.lt_size zz5
  show wpAny _ _ (Builtin.SmallTypes.ownedTupleHandOut (.ref q) (.ref g5.objs.size) >>= _) _ _ _
  refine wpAny_bind ?_; unfold Builtin.SmallTypes.ownedTupleHandOut
  have zz6 : IsZip (g5.push { cls := .type "tuple", data := .seq #[x, y] }) q ti to .ellipsis := Heap.get?_push_of_some _ zz5
  refine wpAny_bind (wpAny_setField_rec zz6 (by simp) fun g7 zz7 b7 => ?_)
  replace zz7 : IsZip g7 q ti to (rawInt g5.objs.size) := zz7
  refine wpAny_setField_rec zz7 (by simp) fun g8 zz8 b8 => ?_
  replace zz8 : IsZip g8 q ti to (rawInt g5.objs.size) := zz8
  have up : ∀ c o, c ≠ q → g5.get? c = some o → g8.get? c = some o := fun c o c1 e => b8.extBut _ _ c1 (b7.extBut _ _ c1 (Heap.get?_push_of_some _ e))
  have t8 : IsPair g8 g5.objs.size x y := b8.extBut _ _ (Nat.ne_of_gt ql) (b7.extBut _ _ (Nat.ne_of_gt ql) (Heap.get?_push_size _ rfl))
  have sz8 : g8.objs.size = g5.objs.size + 1 := by rw [b8.1, b7.1, Heap.size_push]
  rw [sz] at zz8 t8 sz8
  refine wpAny_pure ⟨_, rfl, ?_⟩
  show Q (.ref g5.objs.size) _
  rw [sz]
  exact hq g8 zz8 (up _ _ D.TOz po5) (v15.to fun o e => up _ o D.i1z e) (v25.to fun o e => up _ o D.i2z e) t8 sz8 fun c o c1 c2 c3 c4 e => up c o c1 (old5 c o c1 c2 c3 c4 e)
theorem zh_end {q ti to m1 m2 d1 d2 : Addr} {u1 u2 : Bool} {n1 n2 : Nat} {vs1 vs2 : Array Value} {a b : Value} {Q : Fin → Shared → Prop} (hh : A.handled = none) (D : ZipApart q ti to m1 m2 d1 d2)
    (zz : IsZip s.heap q ti to .none) (pi : IsPair s.heap ti (.ref m1) (.ref m2)) (po : IsPair s.heap to a b)
    (w1 : hIt u1 s.heap m1 d1 n1) (w2 : hIt u2 s.heap m2 d2 n2) (s1 : hSq u1 s.heap d1 vs1) (s2 : hSq u2 s.heap d2 vs2) (he : vs1[n1]? = none ∨ vs2[n2]? = none)
    (hE : ∀ g e, (∀ c o, c ≠ q → c ≠ to → c ≠ m1 → c ≠ m2 → s.heap.get? c = some o → g.get? c = some o) → (∃ o, g.get? e = some o ∧ o.cls = .type "StopIteration") → E (.ref e) { s with heap := g }) :
    wpAny (model prog w) A (Builtin.«zip.__next__» ⟨[.ref q], []⟩) Q E s := by
  show wpAny _ _ (field (.ref q) 2 >>= _) _ _ _
  refine wpAny_bind (wpAny_field zz rfl (x := .bool false) rfl ?_)
  show wpAny _ _ (field (.ref q) 3 >>= _) _ _ _
  refine wpAny_bind (wpAny_field zz rfl (x := .ref ti) rfl (wpAny_bind (wpAny_seqItems pi rfl ?_)))
  show wpAny _ _ (Builtin.SmallTypes.ownedTupleIsFree (.ref q) >>= _) _ _ _
  refine wpAny_bind ?_; unfold Builtin.SmallTypes.ownedTupleIsFree
  refine wpAny_bind (wpAny_field zz rfl (x := .none) rfl (wpAny_pure ?_))
  simp only [if_true]
  refine wpAny_bind (wpAny_rule (wpAny_bind (wpAny_field zz rfl (x := .ref to) rfl (wpAny_bind (wpAny_setField_rec zz (by simp) fun g1 zz1 b1 => ?_)))))
  replace zz1 : IsZip g1 q ti to .ellipsis := zz1
  refine wpAny_bind ?_
  simp only [List.zipIdx_nil, List.zipIdx_cons, List.forIn_nil, List.forIn_cons]
  refine wpAny_bind (wpAny_bind (wpAny_onRaise ?_))
  show wpAny _ _ (Builtin.SmallTypes.nextOf (.ref m1) >>= _) _ _ _
  cases hx : vs1[n1]? with
  | none =>
    refine wpAny_bind (half_end hh (w1.but b1.extBut D.i1z) (s1.but b1.extBut D.l1z) hx fun g2 e b2 ⟨oe, hoe, hce⟩ => ?_)
    have zz2 : IsZip g2 q ti to .ellipsis := b2 _ _ D.i1z.symm zz1
    have ne : e ≠ q := fun x => by
      subst x
      rw [zz2] at hoe
      cases hoe
      simp at hce
    exact wpAny_setField_rec zz2 (by simp) fun g3 _ b3 => hE g3 e (fun c o c1 _ c3 _ x => b3.extBut _ _ c1 (b2 _ _ c3 (b1.extBut _ _ c1 x))) ⟨oe, b3.extBut _ _ ne hoe, hce⟩
  | some x =>
    have hy : vs2[n2]? = none := he.elim (fun z => by rw [hx] at z; cases z) id
    refine wpAny_bind (half_item (w1.but b1.extBut D.i1z) (s1.but b1.extBut D.l1z) hx fun g2 v1 b2 => wpAny_pure ?_)
    have po2 : IsPair g2 to a b := b2.extBut _ _ D.TOi1 (b1.extBut _ _ D.TOz po)
    refine wpAny_bind (wpAny_seqItems po2 rfl (wpAny_bind (wpAny_updateSeq_pair po2 fun g3 po3 b3 => ?_)))
    refine wpAny_bind (wpAny_letGo (wpAny_pure (wpAny_bind (wpAny_bind (wpAny_onRaise ?_)))))
    show wpAny _ _ (Builtin.SmallTypes.nextOf (.ref m2) >>= _) _ _ _
    refine wpAny_bind (half_end hh (((w2.but b1.extBut D.i2z).but b2.extBut D.i12.symm).but b3.extBut D.TOi2.symm) (((s2.but b1.extBut D.l2z).but b2.extBut D.l2i1).but b3.extBut D.l2TO) hy fun g4 e b4 ⟨oe, hoe, hce⟩ => ?_)
    have zz4 : IsZip g4 q ti to .ellipsis := b4 _ _ D.i2z.symm (b3.extBut _ _ D.TOz.symm (b2.extBut _ _ D.i1z.symm zz1))
    have ne : e ≠ q := fun x => by
      subst x
      rw [zz4] at hoe
      cases hoe
      simp at hce
    exact wpAny_setField_rec zz4 (by simp) fun g5 _ b5 => hE g5 e (fun c o c1 c2 c3 c4 x => b5.extBut _ _ c1 (b4 _ _ c4 (b3.extBut _ _ c2 (b2.extBut _ _ c3 (b1.extBut _ _ c1 x))))) ⟨oe, b5.extBut _ _ ne hoe, hce⟩
theorem zh_next_item {q ti to m1 m2 d1 d2 : Addr} {u1 u2 : Bool} {n1 n2 : Nat} {vs1 vs2 : Array Value} {x y a b : Value} {Q : Option Value → Shared → Prop} (D : ZipApart q ti to m1 m2 d1 d2)
    (zz : IsZip s.heap q ti to .none) (pi : IsPair s.heap ti (.ref m1) (.ref m2)) (po : IsPair s.heap to a b)
    (w1 : hIt u1 s.heap m1 d1 n1) (w2 : hIt u2 s.heap m2 d2 n2) (s1 : hSq u1 s.heap d1 vs1) (s2 : hSq u2 s.heap d2 vs2) (hx : vs1[n1]? = some x) (hy : vs2[n2]? = some y)
    (hq : ∀ g, IsZip g q ti to (rawInt s.heap.objs.size) → IsPair g to x y → hIt u1 g m1 d1 (n1 + 1) → hIt u2 g m2 d2 (n2 + 1) → IsPair g s.heap.objs.size x y → g.objs.size = s.heap.objs.size + 1 →
      (∀ c o, c ≠ q → c ≠ to → c ≠ m1 → c ≠ m2 → s.heap.get? c = some o → g.get? c = some o) → Q (some (.ref s.heap.objs.size)) { s with heap := g }) :
    wpAny (model prog w) A (pyNext (.ref q)) Q E s := by
  have ty : s.TypeIs (.ref q) "zip" := ⟨_, zz, rfl⟩
  unfold pyNext
  exact wpAny_bind (wpAny_attempt (wpAny_callSpecial?_slot (name := Str.ofString "__next__") ty F.slot_zip_next (wpAny_call_entry F.slot_zip_next ty F.entry_zip_next
    (zh_item D zz pi po w1 w2 s1 s2 hx hy fun g a1 a2 a3 a4 a5 a6 a7 => wpAny_pure (hq g a1 a2 a3 a4 a5 a6 a7)) (F.args_zip_next_1 _))))
theorem zh_next_end {q ti to m1 m2 d1 d2 : Addr} {u1 u2 : Bool} {n1 n2 : Nat} {vs1 vs2 : Array Value} {a b : Value} {Q : Option Value → Shared → Prop} (hh : A.handled = none) (D : ZipApart q ti to m1 m2 d1 d2)
    (zz : IsZip s.heap q ti to .none) (pi : IsPair s.heap ti (.ref m1) (.ref m2)) (po : IsPair s.heap to a b)
    (w1 : hIt u1 s.heap m1 d1 n1) (w2 : hIt u2 s.heap m2 d2 n2) (s1 : hSq u1 s.heap d1 vs1) (s2 : hSq u2 s.heap d2 vs2) (he : vs1[n1]? = none ∨ vs2[n2]? = none)
    (hq : ∀ g, (∀ c o, c ≠ q → c ≠ to → c ≠ m1 → c ≠ m2 → s.heap.get? c = some o → g.get? c = some o) → Q none { s with heap := g }) : wpAny (model prog w) A (pyNext (.ref q)) Q E s := by
  have ty : s.TypeIs (.ref q) "zip" := ⟨_, zz, rfl⟩
  unfold pyNext
  refine wpAny_bind (wpAny_attempt (wpAny_callSpecial?_slot (name := Str.ofString "__next__") ty F.slot_zip_next (wpAny_call_entry F.slot_zip_next ty F.entry_zip_next
    (zh_end hh D zz pi po w1 w2 s1 s2 he fun g e hk ⟨o, ho, hc⟩ => ?_) (F.args_zip_next_1 _))))
  exact wpAny_bind (wpAny_isInstance (T := "StopIteration") (b := true) ⟨o, ho, hc⟩ isSubtype_stop (wpAny_pure (hq _ hk)))
end
/-- the iterator of either -/
def itO : Bool → Addr → Obj
  | true, l => { cls := .type "tuple_iterator", data := .fields #[.ref l, .int 0 0] }
  | false, l => { cls := .type "list_iterator", data := .fields #[.ref l, .int 0 0] }
theorem itO_free (u : Bool) (l : Addr) : (itO u l).isFreed = false := by cases u <;> rfl
theorem itO_is {u : Bool} {h : Heap} {i l : Addr} (e : h.get? i = some (itO u l)) : hIt u h i l 0 := by
  cases u with
  | true => exact ⟨_, e, rfl, rfl⟩
  | false => exact ⟨_, e, rfl, rfl⟩
theorem half_iter {prog : Program} {w : World} {A : Around} {E : Value → Shared → Prop} {s : Shared} {u : Bool} {l : Addr} {xs : Array Value} {Q : Value → Shared → Prop} (h : hSq u s.heap l xs) (q : Q (.ref s.heap.objs.size) { s with heap := s.heap.push (itO u l) }) :
    wpAny (model prog w) A (pyIter (.ref l)) Q E s := by
  cases u with
  | true => exact wpAny_pyIter_tuple h q
  | false => exact wpAny_pyIter_list h q
theorem hSq.push {u : Bool} {h : Heap} {l : Addr} {xs : Array Value} (x : hSq u h l xs) (o : Obj) : hSq u (h.push o) l xs := by
  cases u with
  | true => exact Heap.IsTuple.push x o
  | false => exact Heap.IsList.push x o
abbrev zg1 (h : Heap) (u1 : Bool) (d1 : Addr) : Heap := h.push (itO u1 d1)
abbrev zg2 (h : Heap) (u1 u2 : Bool) (d1 d2 : Addr) : Heap := (zg1 h u1 d1).push (itO u2 d2)
abbrev zg3 (h : Heap) (u1 u2 : Bool) (d1 d2 : Addr) : Heap := (zg2 h u1 u2 d1 d2).push { cls := .type "tuple", data := .seq #[.ref h.objs.size, .ref (zg1 h u1 d1).objs.size] }
abbrev zg4 (h : Heap) (u1 u2 : Bool) (d1 d2 : Addr) : Heap := (zg3 h u1 u2 d1 d2).push { cls := .type "tuple", data := .seq #[.none, .none] }
abbrev zg5 (h : Heap) (u1 u2 : Bool) (d1 d2 : Addr) : Heap := (zg4 h u1 u2 d1 d2).push { cls := .type "zip", data := .fields #[.none, .bool false, .bool false, .ref (zg2 h u1 u2 d1 d2).objs.size, .ref (zg3 h u1 u2 d1 d2).objs.size] }
theorem zh_made (u1 u2 : Bool) (d1 d2 : Addr) (vs1 vs2 : Array Value) :
    Meets (Builtin.«zip.__new__» ⟨[.type "zip", .ref d1, .ref d2], []⟩) (fun _ R s => hSq u1 s.heap d1 vs1 ∧ hSq u2 s.heap d2 vs2 ∧ R (.ok (.ret (.ref (zg4 s.heap u1 u2 d1 d2).objs.size))) { s with heap := zg5 s.heap u1 u2 d1 d2 }) :=
  .of_wp fun prog w A R s h => by
    obtain ⟨hp, g, d, tk, os⟩ := s
    obtain ⟨k1, k2, h⟩ := h
    have sub := sub_zip
    have K1 : hSq u1 (Shared.heap ⟨hp, g, d, tk, os⟩) d1 vs1 := k1
    have K2 : hSq u2 (Shared.heap ⟨hp.push (itO u1 d1), g, d, tk, os⟩) d2 vs2 := k2.push _
    wp_walk using half_iter K1, half_iter K2
    exact ⟨_, rfl, h⟩
theorem zh_call {prog : Program} {w : World} {A : Around} {E : Value → Shared → Prop} {s : Shared} {u1 u2 : Bool} {d1 d2 : Addr} {vs1 vs2 : Array Value} {Q : Value → Shared → Prop} (s1 : hSq u1 s.heap d1 vs1) (s2 : hSq u2 s.heap d2 vs2)
    (h : ∀ g, IsZip g (s.heap.objs.size + 4) (s.heap.objs.size + 2) (s.heap.objs.size + 3) .none → IsPair g (s.heap.objs.size + 2) (.ref s.heap.objs.size) (.ref (s.heap.objs.size + 1)) → IsPair g (s.heap.objs.size + 3) .none .none → hIt u1 g s.heap.objs.size d1 0 → hIt u2 g (s.heap.objs.size + 1) d2 0 →
      (∀ c o, s.heap.get? c = some o → g.get? c = some o) → Q (.ref (s.heap.objs.size + 4)) { s with heap := g }) :
    wpAny (model prog w) A (call (.type "zip") [.ref d1, .ref d2]) Q E s := by
  refine callType_new F.called_zip (by decide) (F.typeCall_zip_2 _ _) (F.newCall_zip_2 _ _) (fun ob => F.args_object_init_3 ob _ _) F.entry_zip_new (zh_made u1 u2 d1 d2 vs1 vs2) ⟨s1, s2, ?_⟩
  have e1 : (zg1 s.heap u1 d1).objs.size = s.heap.objs.size + 1 := Heap.size_push ..
  have e2 : (zg2 s.heap u1 u2 d1 d2).objs.size = s.heap.objs.size + 2 := by rw [Heap.size_push, e1]
  have e3 : (zg3 s.heap u1 u2 d1 d2).objs.size = s.heap.objs.size + 3 := by rw [Heap.size_push, e2]
  have e4 : (zg4 s.heap u1 u2 d1 d2).objs.size = s.heap.objs.size + 4 := by rw [Heap.size_push, e3]
  have f5 : (zg5 s.heap u1 u2 d1 d2).get? (zg4 s.heap u1 u2 d1 d2).objs.size = some _ := Heap.get?_push_size _ rfl
  have f4 : (zg5 s.heap u1 u2 d1 d2).get? (zg3 s.heap u1 u2 d1 d2).objs.size = some _ := Heap.get?_push_of_some _ (Heap.get?_push_size _ rfl)
  have f3 : (zg5 s.heap u1 u2 d1 d2).get? (zg2 s.heap u1 u2 d1 d2).objs.size = some _ := Heap.get?_push_of_some _ (Heap.get?_push_of_some _ (Heap.get?_push_size _ rfl))
  have f2 : (zg5 s.heap u1 u2 d1 d2).get? (zg1 s.heap u1 d1).objs.size = some _ := Heap.get?_push_of_some _ (Heap.get?_push_of_some _ (Heap.get?_push_of_some _ (Heap.get?_push_size _ (itO_free u2 d2))))
  have f1 : (zg5 s.heap u1 u2 d1 d2).get? s.heap.objs.size = some _ := Heap.get?_push_of_some _ (Heap.get?_push_of_some _ (Heap.get?_push_of_some _ (Heap.get?_push_of_some _ (Heap.get?_push_size _ (itO_free u1 d1)))))
  show _ ∧ _
  rw [e2, e3, e4] at f5
  rw [e1, e2] at f3
  rw [e3] at f4
  rw [e1] at f2
  rw [e4]
  exact ⟨⟨_, f5, rfl⟩, h _ f5 f3 f4 (itO_is f1) (itO_is f2) fun c o x => Heap.get?_push_of_some _ (Heap.get?_push_of_some _ (Heap.get?_push_of_some _ (Heap.get?_push_of_some _ (Heap.get?_push_of_some _ x))))⟩
/-- a list or a tuple as it stands -/
def SqH (u : Bool) (K : PySem.W.Frag) (H : Hp) (a : Addr) (xs : List V) : Prop := match u with
  | true => SqT K H a xs
  | false => SqL K H a xs
def Itzh (u1 u2 : Bool) (K : PySem.W.Frag) (a b : Addr) : It :=
  ⟨fun i H => ∃ (xs ys : List V) (x y : V), SqH u1 K H a xs ∧ SqH u2 K H b ys ∧ xs[i]? = some x ∧ ys[i]? = some y,
    fun i H v H' => ∃ T x y, v = .ref T ∧ H T = none ∧ H' = upd H T (.tup [x, y]) ∧ (∀ xs, SqH u1 K H a xs → xs[i]? = some x) ∧ ∀ ys, SqH u2 K H b ys → ys[i]? = some y,
    fun i H => ∃ xs ys : List V, SqH u1 K H a xs ∧ SqH u2 K H b ys ∧ (xs.length ≤ i ∨ ys.length ≤ i)⟩
theorem inv_half {X : Cx} {pins : List (Addr × Obj)} {σ : L2.St} {H : Hp} {s : Shared} {u : Bool} {a : Addr} {xs : List V} (I : L2.Inv X pins σ H s) (h : SqH u X.K H a xs) : ∃ its, Vals xs its ∧ hSq u s.heap a its.toArray ∧ a < s.heap.objs.size := by
  cases u with
  | true =>
    obtain ⟨its, rv, p, _⟩ := I.tuple h
    refine ⟨its, rv, p, ?_⟩
    obtain ⟨o, ho, _⟩ := id p
    exact Heap.lt_size ho
  | false =>
    obtain ⟨its, rv, p, _⟩ := I.list h
    exact ⟨its, rv, p.isList, p.lt⟩
theorem inv_half_inj {X : Cx} {pins : List (Addr × Obj)} {σ : L2.St} {H : Hp} {s : Shared} {u : Bool} {a : Addr} {xs ys : List V} (I : L2.Inv X pins σ H s) (h : SqH u X.K H a xs) (g : SqH u X.K H a ys) : xs = ys := by
  cases u with
  | true => exact I.tuple_inj h g
  | false => exact I.list_inj h g
theorem turn_zh {P : Program} {w : World} {K : PySem.W.Frag} {elts : List Expr} {kk : Nat} {tpos : Pos} {u1 u2 : Bool} {a b q ti to m1 m2 : Addr} (D : ZipApart q ti to m1 m2 a b) :
    Turn P w K (.Tuple elts kk tpos) (Itzh u1 u2 K a b) [q, ti, to, m1, m2] q (fun i h => IsZip h q ti to .none ∧ IsPair h ti (.ref m1) (.ref m2) ∧ (∃ x y, IsPair h to x y) ∧ hIt u1 h m1 a i ∧ hIt u2 h m2 b i) where
  mem := by simp
  obj := fun i h st c hc => by
    obtain ⟨zz, pi, ⟨x, y, po⟩, w1, w2⟩ := st
    have e : c = q ∨ c = ti ∨ c = to ∨ c = m1 ∨ c = m2 := by simpa using hc
    rcases e with z | z | z | z | z
    · rw [z]; exact ⟨_, zz, fun v e => nomatch e⟩
    · rw [z]; exact ⟨_, pi, fun v e => nomatch e⟩
    · rw [z]; exact ⟨_, po, fun v e => nomatch e⟩
    · rw [z]; exact w1.obj
    · rw [z]; exact w2.obj
  keep := fun i h h' st k => by
    obtain ⟨zz, pi, ⟨x, y, po⟩, w1, w2⟩ := st
    exact ⟨k q (by simp) _ zz, k ti (by simp) _ pi, ⟨x, y, k to (by simp) _ po⟩, w1.to fun o e => k m1 (by simp) o e, w2.to fun o e => k m2 (by simp) o e⟩
  item := by
    intro X hP hw hK hc i pins s σ H E I hf st hg
    subst hP hw hK
    obtain ⟨zz, pi, ⟨x0, y0, po⟩, w1, w2⟩ := st
    obtain ⟨xs, ys, x, y, hqx, hqy, hx, hy⟩ := hg
    obtain ⟨its, rv, p, _⟩ := inv_half I hqx
    obtain ⟨its2, rv2, p2, _⟩ := inv_half I hqy
    obtain ⟨v, hv, ru⟩ := rv.get hx
    obtain ⟨v2, hv2, ru2⟩ := rv2.get hy
    have ql : q < s.heap.objs.size := Heap.lt_size zz
    refine zh_next_item D zz pi po w1 w2 p p2 (x := v) (y := v2) (by simpa using hv) (by simpa using hv2) fun g z1 po1 w11 w21 hT hsz hk => ?_
    refine ⟨_, rfl, wpAny_letOwnedTupleGo_zip (s := { s with heap := g }) z1 fun g2 z2 sb => ?_⟩
    have hT2 : g2.get? s.heap.objs.size = some { cls := .type "tuple", data := .seq #[v, v2] } := (sb.2 _ (Nat.ne_of_gt ql)).trans hT
    have new : ObjOk X.prog X.w (upd H s.heap.objs.size (.tup [x, y])) g2 s.heap.objs.size (.tup [x, y]) := ⟨by show 2 ≤ sizeLine; decide, [v, v2], .cons ru (.cons ru2 .nil), ⟨_, hT2, rfl, _, rfl⟩⟩
    have I1 : Inv X pins σ (upd H s.heap.objs.size (.tup [x, y])) { s with heap := g2 } := I.turnedNew (t' := s.toks) (ch := [q, ti, to, m1, m2])
      (fun c o hb e => (sb.2 c (fun z => hb (by simp [z]))).trans (hk c o (fun z => hb (by simp [z])) (fun z => hb (by simp [z])) (fun z => hb (by simp [z])) (fun z => hb (by simp [z])) e)) hf (Nat.le_refl _) new
    refine ⟨.ref s.heap.objs.size, _, I1, rfl, ⟨_, x, y, rfl, I.hok.fresh (Nat.le_refl _), rfl, fun l hl => by rw [inv_half_inj I hl hqx]; exact hx, fun l hl => by rw [inv_half_inj I hl hqy]; exact hy⟩, ⟨z2, ?_, ⟨v, v2, ?_⟩, ?_, ?_⟩, fun c hcm => ?_⟩
    · exact (sb.2 _ D.TIz).trans (hk _ _ D.TIz D.TITO D.TIi1 D.TIi2 pi)
    · exact (sb.2 _ D.TOz).trans po1
    · exact w11.to fun o e => (sb.2 _ D.i1z).trans e
    · exact w21.to fun o e => (sb.2 _ D.i2z).trans e
    · have lt : c < s.heap.objs.size := by
        have e : c = q ∨ c = ti ∨ c = to ∨ c = m1 ∨ c = m2 := by simpa using hcm
        rcases e with z | z | z | z | z
        · rw [z]; exact ql
        · rw [z]; exact Heap.lt_size pi
        · rw [z]; exact Heap.lt_size po
        · rw [z]; exact w1.small
        · rw [z]; exact w2.small
      rw [upd_ne (Nat.ne_of_lt lt)]
      exact (hf c hcm).1
  done := by
    intro X hP hw hK hc i pins s σ H E I hf st hg
    subst hP hw hK
    obtain ⟨zz, pi, ⟨x0, y0, po⟩, w1, w2⟩ := st
    obtain ⟨xs, ys, hqx, hqy, hend⟩ := hg
    obtain ⟨its, rv, p, _⟩ := inv_half I hqx
    obtain ⟨its2, rv2, p2, _⟩ := inv_half I hqy
    have l1 := rv.length
    have l2 := rv2.length
    have he : its.toArray[i]? = none ∨ its2.toArray[i]? = none := hend.imp (fun z => by simp; omega) fun z => by simp; omega
    exact zh_next_end (I.ok.hd hc) D zz pi po w1 w2 p p2 he fun g hk => ⟨rfl, I.turnedL (t' := s.toks) (ch := [q, ti, to, m1, m2]) (fun c o hb e =>
      hk c o (fun z => hb (by simp [z])) (fun z => hb (by simp [z])) (fun z => hb (by simp [z])) (fun z => hb (by simp [z])) e) hf⟩
  self := fun A i s Q E st h => wpAny_pyIter_zip st.1 h
section
variable {X : Cx} {K : PySem.W.Frag}
def iZh (u1 u2 : Bool) (K : PySem.W.Frag) (ta : TA) : TI := fun σ H R => ta σ H fun vs H1 => ∃ a b xs ys, vs = [.ref a, .ref b] ∧ SqH u1 K H1 a xs ∧ SqH u2 K H1 b ys ∧ R (Itzh u1 u2 K a b) H1
theorem pi_zh (u1 u2 : Bool) {e e2 : Expr} {ta : TA} {p pos tpos : Pos} {elts : List Expr} {kk : Nat} (hg : Gl X "zip") (hm : X.mg "zip" = none) (ha : PA X [e, e2] ta)
    (hs : starEach [e, e2] X.env = (false, eval e X.env) :: starEach [e2] X.env := by rfl) (hpl : (backTo pos (starEach [e2] X.env)).any (·.1) = false := by rfl) (hK : X.K = K := by rfl) :
    PI X (.Tuple elts kk tpos) (.Call (.Name "zip" p) [e, e2] [] pos) (iZh u1 u2 K ta) := by
  subst hK
  refine ⟨fun pins s σ H R I h => ?_⟩
  refine Call_ (ld_blt I hg hm PyProof.Rows.boot_zip (PyProof.Rows.callWith_type1 (thn (ha.run pos pins s σ H _ I h) fun us s1 ⟨vs, H1, I1, r1, q1⟩ => ?_) hs hpl))
  obtain ⟨a, b, xs, ys, rfl, hqx, hqy, q⟩ := q1
  cases r1 with
  | cons r rr =>
    cases rr with
    | cons r' rr =>
      cases rr
      cases r
      cases r'
      have new5 : ∀ c, c ∈ [s1.heap.objs.size + 4, s1.heap.objs.size + 2, s1.heap.objs.size + 3, s1.heap.objs.size, s1.heap.objs.size + 1] → FpOk X pins H1 c := fun c hcm => by
        have le : s1.heap.objs.size ≤ c := by
          simp only [List.mem_cons, List.not_mem_nil, or_false] at hcm
          rcases hcm with z | z | z | z | z <;> rw [z] <;> first | exact Nat.le_refl _ | exact Nat.le_add_right _ _
        exact I1.fpOk le (I1.hok.fresh le)
      obtain ⟨its, rv, p1, lt1⟩ := inv_half I1 hqx
      obtain ⟨its2, rv2, p2, lt2⟩ := inv_half I1 hqy
      refine zh_call p1 p2 fun g zz pi po w1 w2 hk => wpAny_pyIter_zip zz ?_
      have I2 : Inv X pins σ H1 { s1 with heap := g } := I1.kept (t' := s1.toks) hk
      exact ⟨s1.heap.objs.size + 4, [s1.heap.objs.size + 4, s1.heap.objs.size + 2, s1.heap.objs.size + 3, s1.heap.objs.size, s1.heap.objs.size + 1], _, _, H1, rfl, I2, turn_zh (PySem.W.ktu_apart s1.heap.objs.size a b lt1 lt2), ⟨zz, pi, ⟨_, _, po⟩, w1, w2⟩, new5, q⟩
theorem walk_zh {u1 u2 : Bool} {a b : Addr} {xs ys : List V} {n : Nat} (hn : n = min xs.length ys.length) : Walk (Itzh u1 u2 K a b) n (fun H => SqH u1 K H a xs ∧ SqH u2 K H b ys) (YPair (fun i => xs[i]?) (fun i => ys[i]?)) := by
  subst hn
  refine ⟨fun i H hi q => ⟨xs, ys, xs[i]'(by omega), ys[i]'(by omega), q.1, q.2, List.getElem?_eq_getElem _, List.getElem?_eq_getElem _⟩, fun H q => ⟨xs, ys, q.1, q.2, by omega⟩, fun i H v H' hi q y => ?_⟩
  obtain ⟨T, x, z, h1, h2, h3, h4, h5⟩ := y
  exact ⟨T, x, z, h1, h2, h3, h4 xs q.1, h5 ys q.2⟩
/-- t[::-1], t a tuple -/
def tRevT (K : PySem.W.Frag) (te : TE) : TE := fun σ H Q => te σ H fun x H1 => ∃ a xs, x = .ref a ∧ SqT K H1 a xs ∧ ∀ p, H1 p = none → Q (.ref p) (upd H1 p (.tup xs.reverse))
end
end RL
/-! set(l) of a list of ints; xs[::-1]. -/
namespace RL
open PySem PySem.Spec PyProof.Rows L2
abbrev nSet (w : World) : Obj := { cls := .type "set", dict := none, data := .set #[] 0 (.fresh 0 0 (!w.params.followText "set-order")) }
set_option maxHeartbeats 3200000 in
theorem set_of_list {P : Program} {w : World} {A : Around} {E : Value → Shared → Prop} {s : Shared} {l : Addr} {items : Array Value} (ms : List Int) {Q : Value → Shared → Prop} (hh : A.handled = none) (hl : s.heap.IsList l items) (im : IntsAre items.toList ms) (hb : ms.length + 1 < scanBound)
    (h : ∀ (g : Heap) (tk c : Nat), SetR w g s.heap.objs.size (fun j => decide (j ∈ ms)) c → c ≤ ms.length → (∀ b o, s.heap.get? b = some o → g.get? b = some o) → Q (.ref s.heap.objs.size) { s with heap := g, toks := tk }) :
    wpAny (model P w) A (call (.type "set") [.ref l]) Q E s := by
  have isz : items.size = ms.length := by
    have z := IntsAre.length im
    rwa [Array.length_toList] at z
  obtain ⟨cc, tl, mro⟩ := F.called_set.mro
  have made := F.called_set.made
  have sub := F.called_set.sub
  refine wpAny_call (codeAny_of_tree ?_)
  show wpAny _ _ (callAny (.type "set") _) _ _ _
  refine wpAny_pure ⟨Code.quiet_builtin _ (by decide +kernel), codeAny_builtin F.entry_type_call ?_⟩
  rw [Around.under_plain (weight_type_call_type "set" [.ref l] []) rfl]
  have q1 := F.called_set.notType
  have q2 := F.called_set.canCreate
  have q3 := F.typeCall_set_1 (.ref l)
  repeat (any_goals (first | assumption | wp_step))
  refine codeAny_mono (code_set_led1 (.ref l) (E := E) (Q₁ := fun ob s1 => ob = .ref s.heap.objs.size ∧ s1 = { s with heap := s.heap.push (nSet w) }) ⟨rfl, rfl⟩) fun r s1 hr => ?_
  cases r with
  | error e => exact hr
  | ok fl =>
    cases fl with
    | ret ob =>
      obtain ⟨rfl, rfl⟩ := hr
      have nS : (s.heap.push (nSet w)).get? s.heap.objs.size = some (nSet w) := Heap.get?_push_size _ rfl
      have ty : Shared.TypeIs { s with heap := s.heap.push (nSet w) } (.ref s.heap.objs.size) "set" := ⟨_, nS, rfl⟩
      have li := F.called_set.init.lookup
      have bi := F.called_set.init.bind (.ref s.heap.objs.size)
      repeat (any_goals (first | assumption | wp_step))
      refine codeAny_mono (codeAny_call_builtin (R := wants (fun r s2 => r = .none ∧ ∃ g tk c, s2 = { s with heap := g, toks := tk } ∧ SetR w g s.heap.objs.size (fun j => decide (j ∈ ms)) c ∧ c ≤ ms.length ∧ (∀ b o, s.heap.get? b = some o → g.get? b = some o)) E) F.called_set.init.plain F.entry_set_init (check_set_init_1 ty ?_)) fun r2 s2 hr2 => ?_
      · have l1 : (s.heap.push (nSet w)).IsList l items := hl.push _
        have lty : Shared.TypeIs { s with heap := s.heap.push (nSet w) } (.ref l) "list" := l1.typeIs
        obtain ⟨ol, hol, hcl, el, hdl⟩ := id hl
        obtain ⟨oc, od, odt, os⟩ := ol
        simp only at hcl hdl
        subst hcl; subst hdl
        have hol' : (s.heap.push (nSet w)).get? l = some { cls := .type "list", dict := od, data := .seq items el, slots := os } := Heap.get?_push_of_some _ hol
        have b1 := F.sub_list_set
        have b2 := F.sub_list_frozenset
        have nd : (Value.type "list" == Value.type "dict") = false := by decide
        unfold Builtin.«set.__init__» noKeywords Builtin.Frozenset.updateFrom
        generalize hPI : pyIter = PI
        wp_walk
        subst hPI
        refine wpAny_pyIter_list l1 (wpAny_bind (wpAny_runValue ?_))
        have lS : l < s.heap.objs.size := Heap.lt_size hol
        have hh3 : A.in1.in1.in1.handled = none := by simp [hh]
        have neI : l ≠ (s.heap.push (nSet w)).objs.size := by rw [Heap.size_push]; exact Nat.ne_of_lt (Nat.lt_succ_of_lt lS)
        have nf : s.heap.objs.size ∉ [(s.heap.push (nSet w)).objs.size, l] := by
          rw [Heap.size_push]
          simp only [List.mem_cons, List.mem_singleton, List.not_mem_nil, or_false, not_or]
          exact ⟨Nat.ne_of_lt (Nat.lt_succ_self _), Nat.ne_of_gt lS⟩
        have val : ∀ (i : Nat) (v : Value), items[i]? = some v → ∃ k t, ms[i]? = some k ∧ v = .int k t := fun i v hv => by
          have hi : i < ms.length := by rw [← isz]; exact (Array.getElem?_eq_some_iff.mp hv).1
          obtain ⟨t, e⟩ := PyProof.Rows.IntsAre.int_at im i v (by rw [Array.getElem?_toList]; exact hv)
          refine ⟨ms[i], t, List.getElem?_eq_getElem hi, ?_⟩
          rw [e, List.getD_eq_getElem?_getD, List.getElem?_eq_getElem hi] <;> rfl
        refine set_update_ints ((Walks.list hh3 _ l neI items).toS) s.heap.objs.size nf ms isz hb val (items.size - 0) 0 _ (by omega) (Nat.zero_le _) ⟨⟨_, Heap.get?_push_size _ rfl, rfl, rfl⟩, (l1.push _)⟩ ?hS0 ?hR
        case hS0 => exact ⟨0, Nat.le_refl 0, setR_new_at (Heap.get?_push_of_some _ nS)⟩
        case hR =>
          rintro ⟨g, g2, d2, tk2, os2⟩ c2 hm hc2 hS2
          have eg : g2 = s.gens := hm.gens
          have ed : d2 = s.drawn := hm.drawn
          have eo : os2 = s.os := hm.os
          subst eg; subst ed; subst eo
          show wpAny _ _ _ _ _ _
          refine wpAny_pure ?_
          show wpAny _ _ (ret Value.none) _ _ _
          rw [isz] at hc2
          refine wpAny_pure ⟨rfl, g, tk2, c2, rfl, hS2, hc2, fun b o e => ?_⟩
          have h0 : b < s.heap.objs.size := Heap.lt_size e
          refine hm.heap b o ?_ (Heap.get?_push_of_some _ (Heap.get?_push_of_some _ e))
          rw [Heap.size_push]
          simp only [List.mem_cons, List.mem_singleton, List.not_mem_nil, or_false, not_or]
          exact ⟨Nat.ne_of_lt h0, Nat.ne_of_lt (Nat.lt_succ_of_lt h0)⟩
      · cases r2 with
        | error e => exact hr2
        | ok f2 =>
          cases f2 with
          | ret r =>
            obtain ⟨rfl, g, tk, c2, rfl, hS2, hc2, hk2⟩ := hr2
            repeat (any_goals (first | assumption | wp_step))
            exact h _ _ _ hS2 hc2 hk2
          | _ => exact hr2.elim
    | _ => exact hr.elim
section
variable {X : Cx} {K : PySem.W.Frag}
def rSetL (w : World) (K : PySem.W.Frag) : List V → Hp → VK → Prop := fun vs H Q => ∃ (a : Addr) (ns : List Int), vs = [.ref a] ∧ SqL K H a (ns.map V.int) ∧ ns.length ≤ 4000 ∧
  ∀ (p : Addr) (c : Nat), H p = none → c ≤ ns.length → (∀ m : List Int, (∀ k ∈ ns, k ∈ m) → c ≤ m.length) → Q (.ref p) (upd H p (SetO w p (fun j => decide (j ∈ ns)) c))
theorem setLK {w : World} (hc : X.calm = true := by rfl) (hw : X.w = w := by rfl) (hK : X.K = K := by rfl) : CallR X (.type "set") (rSetL w K) := by
  subst hw hK
  intro pins s σ H vs us Q I r h
  obtain ⟨a, ns, rfl, hs, hz, q⟩ := h
  obtain ⟨its, rv, ht, _⟩ := I.list hs
  rw [Vals.ref1 r]
  have hi : IntsAre its.toArray.toList ns := by simpa using rv.ints
  refine set_of_list ns (I.ok.hd hc) ht.isList hi (Nat.lt_of_le_of_lt (Nat.succ_le_succ hz) (by decide)) fun h' tk c R hcl hk => ?_
  refine ⟨.ref _, _, I.laid hk (Nat.le_refl _) (setO_new R), rfl, q _ c (I.hok.fresh (Nat.le_refl _)) hcl fun m hm => ?_⟩
  obtain ⟨o, es, ep, t, _, _, _, _, nd, mem, _, _, sz, _⟩ := R
  have le : (es.toList.map keyOf).length ≤ m.length := nd.length_le_of_subset fun k hk => hm k (of_decide_eq_true ((mem k).2 hk))
  rw [List.length_map, Array.length_toList, sz] at le
  exact le
theorem pe_revLK {e : Expr} {te : TE} {k : Nat} {p1 p2 p3 pos : Pos} (he : PE X e te) (hK : X.K = K := by rfl) : PE X (.Subscript e (.Slice none none (some (.UnaryOp .USub (.Constant (.int 1) k p1) p2)) p3) pos) (tRevL K te) := hK ▸ pe_revL he
end
end RL
/-! t[::-1], t a tuple. -/
namespace RL
open PySem PySem.Spec PyProof.Rows L2
theorem turned_pick (xs : Array Value) : ((List.range xs.size).filterMap fun (m : Nat) => xs[(((xs.size : Nat) : Int) - 1 + (m : Int) * (-1)).toNat]?).toArray = xs.toList.reverse.toArray := by
  congr 1
  have e : ∀ m ∈ List.range xs.size, xs[(((xs.size : Nat) : Int) - 1 + (m : Int) * (-1)).toNat]? = ((fun k => xs[k]?) ∘ fun k => xs.size - 1 - k) m := fun m hm => by
    have hm := List.mem_range.mp hm
    rw [show (((xs.size : Nat) : Int) - 1 + (m : Int) * (-1)).toNat = xs.size - 1 - m by omega]
    rfl
  have fc : ∀ (l : List Nat) (f g : Nat → Option Value), (∀ m ∈ l, f m = g m) → l.filterMap f = l.filterMap g := fun l f g h => by
    induction l with
    | nil => rfl
    | cons x l ih => rw [List.filterMap_cons, List.filterMap_cons, h x (by simp), ih fun m hm => h m (List.mem_cons_of_mem _ hm)]
  rw [fc _ _ _ e, ← List.filterMap_map, PySem.W.krv_range, List.filterMap_reverse, PySem.W.krv_all]
theorem turned_adjust (n : Nat) : Builtin.Slice.sliceAdjust none none (-1) (n : Int) = ((n : Int) - 1, -1) := by
  unfold Builtin.Slice.sliceAdjust
  simp
theorem turned_places (n : Nat) : Builtin.Slice.slicePlaces ((n : Int) - 1) (-1) (-1) = n := by
  unfold Builtin.Slice.slicePlaces
  have h1 : ¬ ((-1 : Int) > 0) := by decide
  simp only [h1, if_false, Int.neg_neg, Int.ediv_one]
  split <;> omega
section
variable {prog : Program} {w : World} {A : Around} {E : Value → Shared → Prop} {s : Shared}
theorem turned_applied {sl : Addr} {vl vu vs : Value} {n : Nat} {Q : Int × Int × Nat → Shared → Prop} (hs : s.heap.IsSliceOf sl vl vu vs) (pl : IsPart vl none) (pu : IsPart vu none) (ps : IsPart vs (some (-1)))
    (h : Q ((n : Int) - 1, -1, n) s) : wpAny (model prog w) A (Builtin.Slice.sliceApplied (.ref sl) (pure (n : Int))) Q E s := by
  obtain ⟨os, ho, hc, hd⟩ := id hs
  unfold Builtin.Slice.sliceApplied Builtin.Slice.sliceFields
  refine wpAny_bind (wpAny_bind (wpAny_field ho hd (x := vl) rfl (wpAny_bind (wpAny_field ho hd (x := vu) rfl (wpAny_bind (wpAny_field ho hd (x := vs) rfl (wpAny_pure ?_)))))))
  refine wpAny_bind (HT.slicePart_ ps ?_)
  show wpAny _ _ (if ((-1 : Int) == 0) = true then _ else _) _ _ s
  rw [if_neg (by decide)]
  refine wpAny_bind (HT.slicePart_ pl (wpAny_bind (HT.slicePart_ pu (wpAny_bind (wpAny_pure ?_)))))
  show wpAny _ _ (match Builtin.Slice.sliceAdjust none none (-1) (n : Int) with | (lo, hi) => pure (lo, (-1 : Int), Builtin.Slice.slicePlaces lo hi (-1))) _ _ s
  rw [turned_adjust]
  show wpAny _ _ (pure ((n : Int) - 1, (-1 : Int), Builtin.Slice.slicePlaces ((n : Int) - 1) (-1) (-1))) _ _ s
  rw [turned_places]
  exact wpAny_pure h
theorem turned_item {t sl : Addr} {items : Array Value} {vl vu vs : Value} {Q : Value → Shared → Prop} (ht : IsTup s.heap t items) (hs : s.heap.IsSliceOf sl vl vu vs) (pl : IsPart vl none) (pu : IsPart vu none) (ps : IsPart vs (some (-1)))
    (h : Q (.ref s.heap.objs.size) { s with heap := s.heap.push { cls := .type "tuple", data := .seq items.toList.reverse.toArray } }) (hz : items.size ≤ sizeLine) : wpAny (model prog w) A (getItem (.ref t) (.ref sl)) Q E s := by
  have fits : sizeOk (.seq items.toList.reverse.toArray) := by
    show items.toList.reverse.toArray.size ≤ sizeLine
    rw [List.size_toArray, List.length_reverse, Array.length_toList]
    exact hz
  obtain ⟨os, ho, hc, hd⟩ := id hs
  have ty : s.TypeIs (.ref sl) "slice" := ⟨os, ho, hc⟩
  unfold getItem
  try with_reducible refine wpAny_holding ?_
  first | refine wpAny_bind (wpAny_pure ?_) | skip
  refine wpAny_bind (wpAny_sequenceKey ht.typeIs (by decide) (wpAny_bind (wpAny_callSpecial?_slot (name := Str.ofString "__getitem__") ht.typeIs PyProof.Rows.slot_tuple_getitem (wpAny_call_entry PyProof.Rows.slot_tuple_getitem ht.typeIs PyProof.Rows.entry_tuple_getitem ?_ (PyProof.Rows.args_tuple_getitem _ _)))))
  show wpAny _ _ (Builtin.Tuple.tupleItemsOf (.ref t) >>= _) _ _ s
  refine wpAny_bind (tupleItemsOf_ ht (wpAny_bind (wpAny_typeOf ty ?_)))
  rw [if_pos (by decide)]
  refine wpAny_bind (turned_applied hs pl pu ps ?_)
  have no : ¬ ((((items.size : Nat) : Int) - 1 == 0 && (-1 : Int) == 1 && items.size == items.size) = true) := by simp
  show wpAny _ _ (if (((items.size : Nat) : Int) - 1 == 0 && (-1 : Int) == 1 && items.size == items.size) = true then _ else _) _ _ s
  rw [if_neg no, turned_pick]
  first
    | exact wpAny_bind (m := Builtin.Tuple.tupleExact _) (wpAny_newObj_type (wpAny_pure ⟨_, rfl, wpAny_pure h⟩) fits)
    | exact wpAny_bind (m := Builtin.Tuple.tupleExact _) (wpAny_newObj_type (wpAny_bind (wpAny_pure (wpAny_pure ⟨_, rfl, wpAny_pure h⟩))) fits)
    | exact wpAny_bind (wpAny_bind (m := Builtin.Tuple.tupleExact _) (wpAny_newObj_type (wpAny_pure (wpAny_pure ⟨_, rfl, wpAny_pure h⟩)) fits))
    | exact wpAny_bind (wpAny_bind (m := Builtin.Tuple.tupleExact _) (wpAny_newObj_type (wpAny_pure ⟨_, rfl, wpAny_pure h⟩) fits))
end
section
variable {X : Cx} {K : PySem.W.Frag}
theorem pe_revT {e : Expr} {te : TE} {k : Nat} {p1 p2 p3 pos : Pos} (he : PE X e te) (hK : X.K = K := by rfl) : PE X (.Subscript e (.Slice none none (some (.UnaryOp .USub (.Constant (.int 1) k p1) p2)) p3) pos) (tRevT K te) := by
  subst hK
  refine ⟨fun pins s σ H Q I h => Subscript_ (thn (he.run pins s σ H _ I h) fun v s1 ⟨x, H1, I1, r1, q1⟩ => ?_)⟩
  obtain ⟨a, xs, rfl, hx, q⟩ := q1
  cases r1
  have stp : PO X (some (.UnaryOp .USub (.Constant (.int 1) k p1) p2)) (tPart (tUn (rU fun i => .int (-i)) (tC (.int 1)))) := po_some (pe_un un_neg pe_int)
  refine wpAny_Slice (thn (po_none.run pins s1 σ H1 (fun o H2 => o = none ∧ H2 = H1) I1 ⟨rfl, rfl⟩) fun vl s2 ⟨l, H2, I2, pl, el, e2⟩ => ?_)
  subst el e2
  refine thn (po_none.run pins s2 σ H2 (fun o H3 => o = none ∧ H3 = H2) I2 ⟨rfl, rfl⟩) fun vu s3 ⟨u, H3, I3, pu, eu, e3⟩ => ?_
  subst eu e3
  refine thn (stp.run pins s3 σ H3 (fun o H4 => o = some (-1) ∧ H4 = H3) I3 ⟨1, rfl, -1, rfl, rfl, rfl⟩) fun vs s4 ⟨o, H4, I4, ps, eo, e4⟩ => ?_
  subst eo e4
  have I5 : Inv X pins σ H4 { s4 with heap := s4.heap.push { cls := .type "slice", data := .fields #[vl, vu, vs] } } := I4.kept (t' := s4.toks) fun b ob q => Heap.get?_push_of_some _ q
  obtain ⟨its, r, ht, hz⟩ := I5.tuple hx
  have len := r.length
  show wpAny (model X.prog X.w) X.A (subscriptTail e (.Slice none none (some (.UnaryOp .USub (.Constant (.int 1) k p1) p2)) p3) (.ref a) (.ref s4.heap.objs.size)) (EP X pins σ Q) X.xe { s4 with heap := s4.heap.push { cls := .type "slice", data := .fields #[vl, vu, vs] } }
  refine tail_any (ops := [.ref a, .ref s4.heap.objs.size]) ht.typeIs (PyProof.Rows.slot_tuple_getitem.lookup) ?_ (by with_unfolding_all rfl)
  refine turned_item ht (Heap.IsSliceOf.new _ vl vu vs) pl pu ps ?_ (by rw [List.size_toArray]; omega)
  refine ⟨.ref _, _, I5.laid (t' := s4.toks) (o := .tup xs.reverse) (fun b ob q => Heap.get?_push_of_some _ q) (Nat.le_refl _) ?_, rfl, q _ (I5.hok.fresh (Nat.le_refl _))⟩
  exact ⟨by rw [List.length_reverse]; exact hz, _, r.reverse, IsTup.new _ _⟩
theorem sumK (hc : X.calm = true := by rfl) (h : X.K = K := by rfl) : CallR X (.builtin "sum") (rSum K) := h ▸ cr_sum hc
theorem catA (h : X.K = K := by rfl) : OpR X (binaryOp .Add) (rCatA K) := h ▸ op_catA
theorem slTA (h : X.K = K := by rfl) : SlR X (rSlA K) := h ▸ sl_tupA
theorem same_new {H : Hp} {p : Addr} {o : HO} (h : H p = none) : Same H (upd H p o) := fun b u e => by
  rw [upd_ne (ne_of_none e h)]
  exact e
/-- t[lo:hi] of a tuple, whichever it is -/
def rSlS : V → Option Int → Option Int → Hp → VK → Prop := fun x lo hi H Q => ∃ a xs, x = .ref a ∧ H a = some (.tup xs) ∧ ∀ q H', H' q = some (.tup (cutV xs lo hi)) → Same H H' → Q (.ref q) H'
theorem slTS : SlR X rSlS := by
  intro pins s σ H x v vl vu lo hi sl Q I rx hs pl pu h
  obtain ⟨a, xs, rfl, ha, q⟩ := h
  refine sl_tupA pins s σ H (.ref a) v vl vu lo hi sl Q I rx hs pl pu ⟨a, xs, rfl, .inl (.inl ha), fun hw => q a H ?_ fun _ _ e => e, fun _ p hp => q p _ upd_same (same_new hp)⟩
  unfold cutV
  rw [hw.1, hw.2, List.drop_zero, Nat.sub_zero, List.take_length]
  exact ha
/-- t + u of two tuples, whichever it is -/
def rCatS : R2 := fun x y H Q => ∃ a b xs ys, x = .ref a ∧ y = .ref b ∧ H a = some (.tup xs) ∧ H b = some (.tup ys) ∧ xs.length + ys.length ≤ sizeLine ∧ ∀ q H', H' q = some (.tup (xs ++ ys)) → Same H H' → Q (.ref q) H'
theorem catS : OpR X (binaryOp .Add) rCatS := by
  intro pins s σ H x y v u Q I rx ry h
  obtain ⟨a, b, xs, ys, rfl, rfl, ha, hb, hz, q⟩ := h
  refine op_catA pins s σ H (.ref a) (.ref b) v u Q I rx ry ⟨a, b, xs, ys, rfl, rfl, .inl (.inl ha), .inl (.inl hb), hz, fun e => q b H ?_ fun _ _ e => e, fun _ e => q a H ?_ fun _ _ e => e, fun _ _ p hp => q p _ upd_same (same_new hp)⟩
  · rw [e]
    exact hb
  · rw [e, List.append_nil]
    exact ha
end
end RL
/-! zip of three things, each a list or a tuple. -/
namespace RL
open PySem PySem.Spec PyProof.Rows L2
abbrev IsTrip (h : Heap) (T : Addr) (a b c : Value) : Prop := h.get? T = some { cls := .type "tuple", data := .seq #[a, b, c] }
/-- what must not be the same -/
structure ZA3 (q ti to m1 m2 m3 d1 d2 d3 : Addr) : Prop where
  tiq : ti ≠ q
  toq : to ≠ q
  m1q : m1 ≠ q
  m2q : m2 ≠ q
  m3q : m3 ≠ q
  tito : ti ≠ to
  tim1 : ti ≠ m1
  tim2 : ti ≠ m2
  tim3 : ti ≠ m3
  tom1 : to ≠ m1
  tom2 : to ≠ m2
  tom3 : to ≠ m3
  m12 : m1 ≠ m2
  m13 : m1 ≠ m3
  m23 : m2 ≠ m3
  d1q : d1 ≠ q
  d2q : d2 ≠ q
  d3q : d3 ≠ q
  d2m1 : d2 ≠ m1
  d2to : d2 ≠ to
  d3m1 : d3 ≠ m1
  d3m2 : d3 ≠ m2
  d3to : d3 ≠ to
theorem za3_new {n d1 d2 d3 : Nat} (h1 : d1 < n) (h2 : d2 < n) (h3 : d3 < n) : ZA3 (n + 5) (n + 3) (n + 4) n (n + 1) (n + 2) d1 d2 d3 := by
  constructor <;> exact (show @Ne Nat _ _ from by omega)
section
variable {prog : Program} {w : World} {A : Around} {E : Value → Shared → Prop} {s : Shared}
theorem upd_trip {T : Addr} {a b c x : Value} {k : Nat} {Q : Unit → Shared → Prop} (hT : IsTrip s.heap T a b c)
    (h : ∀ g, g.get? T = some { cls := .type "tuple", data := .seq ((#[a, b, c] : Array Value).setIfInBounds k x) } → Heap.SameBut T s.heap g → Q () { s with heap := g }) : wpAny (model prog w) A (updateSeq T (·.setIfInBounds k x)) Q E s := by
  refine wpAny_updateSeq hT rfl (h _ ?_ (Heap.SameBut.update ..))
  rw [Heap.get?_update_self _ hT rfl]
  simp [Obj.mapSeq]
theorem z3_item {q ti to m1 m2 m3 d1 d2 d3 : Addr} {u1 u2 u3 : Bool} {n1 n2 n3 : Nat} {vs1 vs2 vs3 : Array Value} {x y z a b c : Value} {Q : Value → Shared → Prop} (D : ZA3 q ti to m1 m2 m3 d1 d2 d3)
    (zz : IsZip s.heap q ti to .none) (pi : IsTrip s.heap ti (.ref m1) (.ref m2) (.ref m3)) (po : IsTrip s.heap to a b c)
    (w1 : hIt u1 s.heap m1 d1 n1) (w2 : hIt u2 s.heap m2 d2 n2) (w3 : hIt u3 s.heap m3 d3 n3) (s1 : hSq u1 s.heap d1 vs1) (s2 : hSq u2 s.heap d2 vs2) (s3 : hSq u3 s.heap d3 vs3) (hx : vs1[n1]? = some x) (hy : vs2[n2]? = some y) (hz : vs3[n3]? = some z)
    (hq : ∀ g, IsZip g q ti to (rawInt s.heap.objs.size) → IsTrip g to x y z → hIt u1 g m1 d1 (n1 + 1) → hIt u2 g m2 d2 (n2 + 1) → hIt u3 g m3 d3 (n3 + 1) → IsTrip g s.heap.objs.size x y z → g.objs.size = s.heap.objs.size + 1 →
      (∀ e o, e ≠ q → e ≠ to → e ≠ m1 → e ≠ m2 → e ≠ m3 → s.heap.get? e = some o → g.get? e = some o) → Q (.ref s.heap.objs.size) { s with heap := g }) :
    wpAny (model prog w) A (Builtin.«zip.__next__» ⟨[.ref q], []⟩) (fun f s' => ∃ v, f = .done (.ret v) ∧ Q v s') E s := by
  show wpAny _ _ (field (.ref q) 2 >>= _) _ _ _
  refine wpAny_bind (wpAny_field zz rfl (x := .bool false) rfl ?_)
  show wpAny _ _ (field (.ref q) 3 >>= _) _ _ _
  refine wpAny_bind (wpAny_field zz rfl (x := .ref ti) rfl (wpAny_bind (wpAny_seqItems pi rfl ?_)))
  show wpAny _ _ (Builtin.SmallTypes.ownedTupleIsFree (.ref q) >>= _) _ _ _
  refine wpAny_bind ?_; unfold Builtin.SmallTypes.ownedTupleIsFree
  refine wpAny_bind (wpAny_field zz rfl (x := .none) rfl (wpAny_pure ?_))
  simp only [if_true]
  refine wpAny_bind (wpAny_rule (wpAny_bind (wpAny_field zz rfl (x := .ref to) rfl (wpAny_bind (wpAny_setField_rec zz (by simp) fun g1 zz1 b1 => ?_)))))
  replace zz1 : IsZip g1 q ti to .ellipsis := zz1
  refine wpAny_bind ?_
  simp only [List.zipIdx_nil, List.zipIdx_cons, List.forIn_nil, List.forIn_cons]
  refine wpAny_bind (wpAny_bind (wpAny_onRaise ?_))
  show wpAny _ _ (Builtin.SmallTypes.nextOf (.ref m1) >>= _) _ _ _
  refine wpAny_bind (half_item (w1.but b1.extBut D.m1q) (s1.but b1.extBut D.d1q) hx fun g2 v1 b2 => wpAny_pure ?_)
  have po2 : IsTrip g2 to a b c := b2.extBut _ _ D.tom1 (b1.extBut _ _ D.toq po)
  refine wpAny_bind (wpAny_seqItems po2 rfl (wpAny_bind (upd_trip po2 fun g3 po3 b3 => ?_)))
  replace po3 : IsTrip g3 to x b c := po3
  refine wpAny_bind (wpAny_letGo (wpAny_pure (wpAny_bind (wpAny_bind (wpAny_onRaise ?_)))))
  show wpAny _ _ (Builtin.SmallTypes.nextOf (.ref m2) >>= _) _ _ _
  refine wpAny_bind (half_item (((w2.but b1.extBut D.m2q).but b2.extBut D.m12.symm).but b3.extBut D.tom2.symm) (((s2.but b1.extBut D.d2q).but b2.extBut D.d2m1).but b3.extBut D.d2to) hy fun g4 v2 b4 => wpAny_pure ?_)
  have po4 : IsTrip g4 to x b c := b4.extBut _ _ D.tom2 po3
  refine wpAny_bind (wpAny_seqItems po4 rfl (wpAny_bind (upd_trip po4 fun g5 po5 b5 => ?_)))
  replace po5 : IsTrip g5 to x y c := po5
  refine wpAny_bind (wpAny_letGo (wpAny_pure (wpAny_bind (wpAny_bind (wpAny_onRaise ?_)))))
  show wpAny _ _ (Builtin.SmallTypes.nextOf (.ref m3) >>= _) _ _ _
  refine wpAny_bind (half_item (((((w3.but b1.extBut D.m3q).but b2.extBut D.m13.symm).but b3.extBut D.tom3.symm).but b4.extBut D.m23.symm).but b5.extBut D.tom3.symm) (((((s3.but b1.extBut D.d3q).but b2.extBut D.d3m1).but b3.extBut D.d3to).but b4.extBut D.d3m2).but b5.extBut D.d3to) hz fun g6 v3 b6 => wpAny_pure ?_)
  have po6 : IsTrip g6 to x y c := b6.extBut _ _ D.tom3 po5
  refine wpAny_bind (wpAny_seqItems po6 rfl (wpAny_bind (upd_trip po6 fun g7 po7 b7 => ?_)))
  replace po7 : IsTrip g7 to x y z := po7
  refine wpAny_bind (wpAny_letGo (wpAny_pure (wpAny_pure (wpAny_bind (wpAny_seqItems po7 rfl (wpAny_bind (wpAny_newTuple ?_)))))))
  have sz : g7.objs.size = s.heap.objs.size := by rw [b7.1, b6.1, b5.1, b4.1, b3.1, b2.1, b1.1]
  have zz7 : IsZip g7 q ti to .ellipsis := b7.extBut _ _ D.toq.symm (b6.extBut _ _ D.m3q.symm (b5.extBut _ _ D.toq.symm (b4.extBut _ _ D.m2q.symm (b3.extBut _ _ D.toq.symm (b2.extBut _ _ D.m1q.symm zz1)))))
  have old7 : ∀ e o, e ≠ q → e ≠ to → e ≠ m1 → e ≠ m2 → e ≠ m3 → s.heap.get? e = some o → g7.get? e = some o := fun e o c1 c2 c3 c4 c5 f => b7.extBut _ _ c2 (b6.extBut _ _ c5 (b5.extBut _ _ c2 (b4.extBut _ _ c4 (b3.extBut _ _ c2 (b2.extBut _ _ c3 (b1.extBut _ _ c1 f))))))
  have v17 : hIt u1 g7 m1 d1 (n1 + 1) := ((((v1.but b3.extBut D.tom1.symm).but b4.extBut D.m12).but b5.extBut D.tom1.symm).but b6.extBut D.m13).but b7.extBut D.tom1.symm
  have v27 : hIt u2 g7 m2 d2 (n2 + 1) := ((v2.but b5.extBut D.tom2.symm).but b6.extBut D.m23).but b7.extBut D.tom2.symm
  have v37 : hIt u3 g7 m3 d3 (n3 + 1) := v3.but b7.extBut D.tom3.symm
  have ql : q < g7.objs.size := Heap.lt_size zz7
  show wpAny _ _ (Builtin.SmallTypes.ownedTupleHandOut (.ref q) (.ref g7.objs.size) >>= _) _ _ _
  refine wpAny_bind ?_; unfold Builtin.SmallTypes.ownedTupleHandOut
  have zz8 : IsZip (g7.push { cls := .type "tuple", data := .seq #[x, y, z] }) q ti to .ellipsis := Heap.get?_push_of_some _ zz7
  refine wpAny_bind (wpAny_setField_rec zz8 (by simp) fun g9 zz9 b9 => ?_)
  replace zz9 : IsZip g9 q ti to (rawInt g7.objs.size) := zz9
  refine wpAny_setField_rec zz9 (by simp) fun g10 zz10 b10 => ?_
  replace zz10 : IsZip g10 q ti to (rawInt g7.objs.size) := zz10
  have up : ∀ e o, e ≠ q → g7.get? e = some o → g10.get? e = some o := fun e o c1 f => b10.extBut _ _ c1 (b9.extBut _ _ c1 (Heap.get?_push_of_some _ f))
  have t10 : IsTrip g10 g7.objs.size x y z := b10.extBut _ _ (Nat.ne_of_gt ql) (b9.extBut _ _ (Nat.ne_of_gt ql) (Heap.get?_push_size _ rfl))
  have sz10 : g10.objs.size = g7.objs.size + 1 := by rw [b10.1, b9.1, Heap.size_push]
  rw [sz] at zz10 t10 sz10
  refine wpAny_pure ⟨_, rfl, ?_⟩
  show Q (.ref g7.objs.size) _
  rw [sz]
  exact hq g10 zz10 (up _ _ D.toq po7) (v17.to fun o e => up _ o D.m1q e) (v27.to fun o e => up _ o D.m2q e) (v37.to fun o e => up _ o D.m3q e) t10 sz10 fun e o c1 c2 c3 c4 c5 f => up e o c1 (old7 e o c1 c2 c3 c4 c5 f)
theorem z3_end {q ti to m1 m2 m3 d1 d2 d3 : Addr} {u1 u2 u3 : Bool} {n1 n2 n3 : Nat} {vs1 vs2 vs3 : Array Value} {a b c : Value} {Q : Fin → Shared → Prop} (hh : A.handled = none) (D : ZA3 q ti to m1 m2 m3 d1 d2 d3)
    (zz : IsZip s.heap q ti to .none) (pi : IsTrip s.heap ti (.ref m1) (.ref m2) (.ref m3)) (po : IsTrip s.heap to a b c)
    (w1 : hIt u1 s.heap m1 d1 n1) (w2 : hIt u2 s.heap m2 d2 n2) (w3 : hIt u3 s.heap m3 d3 n3) (s1 : hSq u1 s.heap d1 vs1) (s2 : hSq u2 s.heap d2 vs2) (s3 : hSq u3 s.heap d3 vs3) (he : vs1[n1]? = none ∨ vs2[n2]? = none ∨ vs3[n3]? = none)
    (hE : ∀ g e, (∀ f o, f ≠ q → f ≠ to → f ≠ m1 → f ≠ m2 → f ≠ m3 → s.heap.get? f = some o → g.get? f = some o) → (∃ o, g.get? e = some o ∧ o.cls = .type "StopIteration") → E (.ref e) { s with heap := g }) :
    wpAny (model prog w) A (Builtin.«zip.__next__» ⟨[.ref q], []⟩) Q E s := by
  show wpAny _ _ (field (.ref q) 2 >>= _) _ _ _
  refine wpAny_bind (wpAny_field zz rfl (x := .bool false) rfl ?_)
  show wpAny _ _ (field (.ref q) 3 >>= _) _ _ _
  refine wpAny_bind (wpAny_field zz rfl (x := .ref ti) rfl (wpAny_bind (wpAny_seqItems pi rfl ?_)))
  show wpAny _ _ (Builtin.SmallTypes.ownedTupleIsFree (.ref q) >>= _) _ _ _
  refine wpAny_bind ?_; unfold Builtin.SmallTypes.ownedTupleIsFree
  refine wpAny_bind (wpAny_field zz rfl (x := .none) rfl (wpAny_pure ?_))
  simp only [if_true]
  refine wpAny_bind (wpAny_rule (wpAny_bind (wpAny_field zz rfl (x := .ref to) rfl (wpAny_bind (wpAny_setField_rec zz (by simp) fun g1 zz1 b1 => ?_)))))
  replace zz1 : IsZip g1 q ti to .ellipsis := zz1
  refine wpAny_bind ?_
  simp only [List.zipIdx_nil, List.zipIdx_cons, List.forIn_nil, List.forIn_cons]
  refine wpAny_bind (wpAny_bind (wpAny_onRaise ?_))
  show wpAny _ _ (Builtin.SmallTypes.nextOf (.ref m1) >>= _) _ _ _
  cases hx : vs1[n1]? with
  | none =>
    refine wpAny_bind (half_end hh (w1.but b1.extBut D.m1q) (s1.but b1.extBut D.d1q) hx fun g2 e b2 ⟨oe, hoe, hce⟩ => ?_)
    have zz2 : IsZip g2 q ti to .ellipsis := b2 _ _ D.m1q.symm zz1
    have ne : e ≠ q := fun x => by
      subst x
      rw [zz2] at hoe
      cases hoe
      simp at hce
    exact wpAny_setField_rec zz2 (by simp) fun g3 _ b3 => hE g3 e (fun f o c1 _ c3 _ _ x => b3.extBut _ _ c1 (b2 _ _ c3 (b1.extBut _ _ c1 x))) ⟨oe, b3.extBut _ _ ne hoe, hce⟩
  | some x =>
    refine wpAny_bind (half_item (w1.but b1.extBut D.m1q) (s1.but b1.extBut D.d1q) hx fun g2 v1 b2 => wpAny_pure ?_)
    have po2 : IsTrip g2 to a b c := b2.extBut _ _ D.tom1 (b1.extBut _ _ D.toq po)
    refine wpAny_bind (wpAny_seqItems po2 rfl (wpAny_bind (upd_trip po2 fun g3 po3 b3 => ?_)))
    replace po3 : IsTrip g3 to x b c := po3
    refine wpAny_bind (wpAny_letGo (wpAny_pure (wpAny_bind (wpAny_bind (wpAny_onRaise ?_)))))
    show wpAny _ _ (Builtin.SmallTypes.nextOf (.ref m2) >>= _) _ _ _
    cases hy : vs2[n2]? with
    | none =>
      refine wpAny_bind (half_end hh (((w2.but b1.extBut D.m2q).but b2.extBut D.m12.symm).but b3.extBut D.tom2.symm) (((s2.but b1.extBut D.d2q).but b2.extBut D.d2m1).but b3.extBut D.d2to) hy fun g4 e b4 ⟨oe, hoe, hce⟩ => ?_)
      have zz4 : IsZip g4 q ti to .ellipsis := b4 _ _ D.m2q.symm (b3.extBut _ _ D.toq.symm (b2.extBut _ _ D.m1q.symm zz1))
      have ne : e ≠ q := fun x => by
        subst x
        rw [zz4] at hoe
        cases hoe
        simp at hce
      exact wpAny_setField_rec zz4 (by simp) fun g5 _ b5 => hE g5 e (fun f o c1 c2 c3 c4 _ x => b5.extBut _ _ c1 (b4 _ _ c4 (b3.extBut _ _ c2 (b2.extBut _ _ c3 (b1.extBut _ _ c1 x))))) ⟨oe, b5.extBut _ _ ne hoe, hce⟩
    | some y =>
      have hz : vs3[n3]? = none := by
        rcases he with h | h | h
        · rw [hx] at h; cases h
        · rw [hy] at h; cases h
        · exact h
      refine wpAny_bind (half_item (((w2.but b1.extBut D.m2q).but b2.extBut D.m12.symm).but b3.extBut D.tom2.symm) (((s2.but b1.extBut D.d2q).but b2.extBut D.d2m1).but b3.extBut D.d2to) hy fun g4 v2 b4 => wpAny_pure ?_)
      have po4 : IsTrip g4 to x b c := b4.extBut _ _ D.tom2 po3
      refine wpAny_bind (wpAny_seqItems po4 rfl (wpAny_bind (upd_trip po4 fun g5 po5 b5 => ?_)))
      refine wpAny_bind (wpAny_letGo (wpAny_pure (wpAny_bind (wpAny_bind (wpAny_onRaise ?_)))))
      show wpAny _ _ (Builtin.SmallTypes.nextOf (.ref m3) >>= _) _ _ _
      refine wpAny_bind (half_end hh (((((w3.but b1.extBut D.m3q).but b2.extBut D.m13.symm).but b3.extBut D.tom3.symm).but b4.extBut D.m23.symm).but b5.extBut D.tom3.symm) (((((s3.but b1.extBut D.d3q).but b2.extBut D.d3m1).but b3.extBut D.d3to).but b4.extBut D.d3m2).but b5.extBut D.d3to) hz fun g6 e b6 ⟨oe, hoe, hce⟩ => ?_)
      have zz6 : IsZip g6 q ti to .ellipsis := b6 _ _ D.m3q.symm (b5.extBut _ _ D.toq.symm (b4.extBut _ _ D.m2q.symm (b3.extBut _ _ D.toq.symm (b2.extBut _ _ D.m1q.symm zz1))))
      have ne : e ≠ q := fun x => by
        subst x
        rw [zz6] at hoe
        cases hoe
        simp at hce
      exact wpAny_setField_rec zz6 (by simp) fun g7 _ b7 => hE g7 e (fun f o c1 c2 c3 c4 c5 x => b7.extBut _ _ c1 (b6 _ _ c5 (b5.extBut _ _ c2 (b4.extBut _ _ c4 (b3.extBut _ _ c2 (b2.extBut _ _ c3 (b1.extBut _ _ c1 x))))))) ⟨oe, b7.extBut _ _ ne hoe, hce⟩
theorem z3_next_item {q ti to m1 m2 m3 d1 d2 d3 : Addr} {u1 u2 u3 : Bool} {n1 n2 n3 : Nat} {vs1 vs2 vs3 : Array Value} {x y z a b c : Value} {Q : Option Value → Shared → Prop} (D : ZA3 q ti to m1 m2 m3 d1 d2 d3)
    (zz : IsZip s.heap q ti to .none) (pi : IsTrip s.heap ti (.ref m1) (.ref m2) (.ref m3)) (po : IsTrip s.heap to a b c)
    (w1 : hIt u1 s.heap m1 d1 n1) (w2 : hIt u2 s.heap m2 d2 n2) (w3 : hIt u3 s.heap m3 d3 n3) (s1 : hSq u1 s.heap d1 vs1) (s2 : hSq u2 s.heap d2 vs2) (s3 : hSq u3 s.heap d3 vs3) (hx : vs1[n1]? = some x) (hy : vs2[n2]? = some y) (hz : vs3[n3]? = some z)
    (hq : ∀ g, IsZip g q ti to (rawInt s.heap.objs.size) → IsTrip g to x y z → hIt u1 g m1 d1 (n1 + 1) → hIt u2 g m2 d2 (n2 + 1) → hIt u3 g m3 d3 (n3 + 1) → IsTrip g s.heap.objs.size x y z → g.objs.size = s.heap.objs.size + 1 →
      (∀ e o, e ≠ q → e ≠ to → e ≠ m1 → e ≠ m2 → e ≠ m3 → s.heap.get? e = some o → g.get? e = some o) → Q (some (.ref s.heap.objs.size)) { s with heap := g }) :
    wpAny (model prog w) A (pyNext (.ref q)) Q E s := by
  have ty : s.TypeIs (.ref q) "zip" := ⟨_, zz, rfl⟩
  unfold pyNext
  exact wpAny_bind (wpAny_attempt (wpAny_callSpecial?_slot (name := Str.ofString "__next__") ty F.slot_zip_next (wpAny_call_entry F.slot_zip_next ty F.entry_zip_next
    (z3_item D zz pi po w1 w2 w3 s1 s2 s3 hx hy hz fun g a1 a2 a3 a4 a5 a6 a7 a8 => wpAny_pure (hq g a1 a2 a3 a4 a5 a6 a7 a8)) (F.args_zip_next_1 _))))
theorem z3_next_end {q ti to m1 m2 m3 d1 d2 d3 : Addr} {u1 u2 u3 : Bool} {n1 n2 n3 : Nat} {vs1 vs2 vs3 : Array Value} {a b c : Value} {Q : Option Value → Shared → Prop} (hh : A.handled = none) (D : ZA3 q ti to m1 m2 m3 d1 d2 d3)
    (zz : IsZip s.heap q ti to .none) (pi : IsTrip s.heap ti (.ref m1) (.ref m2) (.ref m3)) (po : IsTrip s.heap to a b c)
    (w1 : hIt u1 s.heap m1 d1 n1) (w2 : hIt u2 s.heap m2 d2 n2) (w3 : hIt u3 s.heap m3 d3 n3) (s1 : hSq u1 s.heap d1 vs1) (s2 : hSq u2 s.heap d2 vs2) (s3 : hSq u3 s.heap d3 vs3) (he : vs1[n1]? = none ∨ vs2[n2]? = none ∨ vs3[n3]? = none)
    (hq : ∀ g, (∀ f o, f ≠ q → f ≠ to → f ≠ m1 → f ≠ m2 → f ≠ m3 → s.heap.get? f = some o → g.get? f = some o) → Q none { s with heap := g }) : wpAny (model prog w) A (pyNext (.ref q)) Q E s := by
  have ty : s.TypeIs (.ref q) "zip" := ⟨_, zz, rfl⟩
  unfold pyNext
  refine wpAny_bind (wpAny_attempt (wpAny_callSpecial?_slot (name := Str.ofString "__next__") ty F.slot_zip_next (wpAny_call_entry F.slot_zip_next ty F.entry_zip_next
    (z3_end hh D zz pi po w1 w2 w3 s1 s2 s3 he fun g e hk ⟨o, ho, hc⟩ => ?_) (F.args_zip_next_1 _))))
  exact wpAny_bind (wpAny_isInstance (T := "StopIteration") (b := true) ⟨o, ho, hc⟩ isSubtype_stop (wpAny_pure (hq _ hk)))
end
theorem z3_type (a b c : Value) : checkTypeCall "zip" ⟨[a, b, c], []⟩ = pure () := by kernel_rfl
theorem z3_newc (a b c : Value) : checkBuiltinCall "zip.__new__" ⟨[.type "zip", a, b, c], []⟩ = pure () := by kernel_rfl
theorem z3_init (a b c d : Value) : argsOk "object.__init__" ⟨[a, b, c, d], []⟩ := by
  unfold argsOk; rw [signature?_of (id := "object.__init__") (n := ['_', '_', 't', 'i', 'n', 'i', '_', '_']) (o := ['t', 'c', 'e', 'j', 'b', 'o']) (by kernel_rfl) F.owner_object]; kernel_rfl
abbrev z31 (h : Heap) (u1 : Bool) (d1 : Addr) : Heap := h.push (itO u1 d1)
abbrev z32 (h : Heap) (u1 u2 : Bool) (d1 d2 : Addr) : Heap := (z31 h u1 d1).push (itO u2 d2)
abbrev z33 (h : Heap) (u1 u2 u3 : Bool) (d1 d2 d3 : Addr) : Heap := (z32 h u1 u2 d1 d2).push (itO u3 d3)
abbrev z34 (h : Heap) (u1 u2 u3 : Bool) (d1 d2 d3 : Addr) : Heap := (z33 h u1 u2 u3 d1 d2 d3).push { cls := .type "tuple", data := .seq #[.ref h.objs.size, .ref (z31 h u1 d1).objs.size, .ref (z32 h u1 u2 d1 d2).objs.size] }
abbrev z35 (h : Heap) (u1 u2 u3 : Bool) (d1 d2 d3 : Addr) : Heap := (z34 h u1 u2 u3 d1 d2 d3).push { cls := .type "tuple", data := .seq #[.none, .none, .none] }
abbrev z36 (h : Heap) (u1 u2 u3 : Bool) (d1 d2 d3 : Addr) : Heap := (z35 h u1 u2 u3 d1 d2 d3).push { cls := .type "zip", data := .fields #[.none, .bool false, .bool false, .ref (z33 h u1 u2 u3 d1 d2 d3).objs.size, .ref (z34 h u1 u2 u3 d1 d2 d3).objs.size] }
theorem z3_made (u1 u2 u3 : Bool) (d1 d2 d3 : Addr) (vs1 vs2 vs3 : Array Value) :
    Meets (Builtin.«zip.__new__» ⟨[.type "zip", .ref d1, .ref d2, .ref d3], []⟩) (fun _ R s => hSq u1 s.heap d1 vs1 ∧ hSq u2 s.heap d2 vs2 ∧ hSq u3 s.heap d3 vs3 ∧ R (.ok (.ret (.ref (z35 s.heap u1 u2 u3 d1 d2 d3).objs.size))) { s with heap := z36 s.heap u1 u2 u3 d1 d2 d3 }) :=
  .of_wp fun prog w A R s h => by
    obtain ⟨hp, g, d, tk, os⟩ := s
    obtain ⟨k1, k2, k3, h⟩ := h
    have sub := sub_zip
    have K1 : hSq u1 (Shared.heap ⟨hp, g, d, tk, os⟩) d1 vs1 := k1
    have K2 : hSq u2 (Shared.heap ⟨hp.push (itO u1 d1), g, d, tk, os⟩) d2 vs2 := k2.push _
    have K3 : hSq u3 (Shared.heap ⟨(hp.push (itO u1 d1)).push (itO u2 d2), g, d, tk, os⟩) d3 vs3 := (k3.push _).push _
    wp_walk using half_iter K1, half_iter K2, half_iter K3
    exact ⟨_, rfl, h⟩
theorem z3_call {prog : Program} {w : World} {A : Around} {E : Value → Shared → Prop} {s : Shared} {u1 u2 u3 : Bool} {d1 d2 d3 : Addr} {vs1 vs2 vs3 : Array Value} {Q : Value → Shared → Prop} (s1 : hSq u1 s.heap d1 vs1) (s2 : hSq u2 s.heap d2 vs2) (s3 : hSq u3 s.heap d3 vs3)
    (h : ∀ g, IsZip g (s.heap.objs.size + 5) (s.heap.objs.size + 3) (s.heap.objs.size + 4) .none → IsTrip g (s.heap.objs.size + 3) (.ref s.heap.objs.size) (.ref (s.heap.objs.size + 1)) (.ref (s.heap.objs.size + 2)) → IsTrip g (s.heap.objs.size + 4) .none .none .none → hIt u1 g s.heap.objs.size d1 0 → hIt u2 g (s.heap.objs.size + 1) d2 0 → hIt u3 g (s.heap.objs.size + 2) d3 0 →
      (∀ c o, s.heap.get? c = some o → g.get? c = some o) → Q (.ref (s.heap.objs.size + 5)) { s with heap := g }) :
    wpAny (model prog w) A (call (.type "zip") [.ref d1, .ref d2, .ref d3]) Q E s := by
  refine callType_new F.called_zip (by decide) (z3_type _ _ _) (z3_newc _ _ _) (fun ob => z3_init ob _ _ _) F.entry_zip_new (z3_made u1 u2 u3 d1 d2 d3 vs1 vs2 vs3) ⟨s1, s2, s3, ?_⟩
  have e1 : (z31 s.heap u1 d1).objs.size = s.heap.objs.size + 1 := Heap.size_push ..
  have e2 : (z32 s.heap u1 u2 d1 d2).objs.size = s.heap.objs.size + 2 := by rw [Heap.size_push, e1]
  have e3 : (z33 s.heap u1 u2 u3 d1 d2 d3).objs.size = s.heap.objs.size + 3 := by rw [Heap.size_push, e2]
  have e4 : (z34 s.heap u1 u2 u3 d1 d2 d3).objs.size = s.heap.objs.size + 4 := by rw [Heap.size_push, e3]
  have e5 : (z35 s.heap u1 u2 u3 d1 d2 d3).objs.size = s.heap.objs.size + 5 := by rw [Heap.size_push, e4]
  have f6 : (z36 s.heap u1 u2 u3 d1 d2 d3).get? (z35 s.heap u1 u2 u3 d1 d2 d3).objs.size = some _ := Heap.get?_push_size _ rfl
  have f5 : (z36 s.heap u1 u2 u3 d1 d2 d3).get? (z34 s.heap u1 u2 u3 d1 d2 d3).objs.size = some _ := Heap.get?_push_of_some _ (Heap.get?_push_size _ rfl)
  have f4 : (z36 s.heap u1 u2 u3 d1 d2 d3).get? (z33 s.heap u1 u2 u3 d1 d2 d3).objs.size = some _ := Heap.get?_push_of_some _ (Heap.get?_push_of_some _ (Heap.get?_push_size _ rfl))
  have f3 : (z36 s.heap u1 u2 u3 d1 d2 d3).get? (z32 s.heap u1 u2 d1 d2).objs.size = some _ := Heap.get?_push_of_some _ (Heap.get?_push_of_some _ (Heap.get?_push_of_some _ (Heap.get?_push_size _ (itO_free u3 d3))))
  have f2 : (z36 s.heap u1 u2 u3 d1 d2 d3).get? (z31 s.heap u1 d1).objs.size = some _ := Heap.get?_push_of_some _ (Heap.get?_push_of_some _ (Heap.get?_push_of_some _ (Heap.get?_push_of_some _ (Heap.get?_push_size _ (itO_free u2 d2)))))
  have f1 : (z36 s.heap u1 u2 u3 d1 d2 d3).get? s.heap.objs.size = some _ := Heap.get?_push_of_some _ (Heap.get?_push_of_some _ (Heap.get?_push_of_some _ (Heap.get?_push_of_some _ (Heap.get?_push_of_some _ (Heap.get?_push_size _ (itO_free u1 d1))))))
  show _ ∧ _
  rw [e3, e4, e5] at f6
  rw [e1, e2, e3] at f4
  rw [e4] at f5
  rw [e2] at f3
  rw [e1] at f2
  rw [e5]
  exact ⟨⟨_, f6, rfl⟩, h _ f6 f4 f5 (itO_is f1) (itO_is f2) (itO_is f3) fun c o x => Heap.get?_push_of_some _ (Heap.get?_push_of_some _ (Heap.get?_push_of_some _ (Heap.get?_push_of_some _ (Heap.get?_push_of_some _ (Heap.get?_push_of_some _ x)))))⟩
def Itz3 (u1 u2 u3 : Bool) (K : PySem.W.Frag) (a b c : Addr) : It :=
  ⟨fun i H => ∃ (xs ys zs : List V) (x y z : V), SqH u1 K H a xs ∧ SqH u2 K H b ys ∧ SqH u3 K H c zs ∧ xs[i]? = some x ∧ ys[i]? = some y ∧ zs[i]? = some z,
    fun i H v H' => ∃ T x y z, v = .ref T ∧ H T = none ∧ H' = upd H T (.tup [x, y, z]) ∧ (∀ xs, SqH u1 K H a xs → xs[i]? = some x) ∧ (∀ ys, SqH u2 K H b ys → ys[i]? = some y) ∧ ∀ zs, SqH u3 K H c zs → zs[i]? = some z,
    fun i H => ∃ xs ys zs : List V, SqH u1 K H a xs ∧ SqH u2 K H b ys ∧ SqH u3 K H c zs ∧ (xs.length ≤ i ∨ ys.length ≤ i ∨ zs.length ≤ i)⟩
theorem turn_z3 {P : Program} {w : World} {K : PySem.W.Frag} {elts : List Expr} {kk : Nat} {tpos : Pos} {u1 u2 u3 : Bool} {a b c q ti to m1 m2 m3 : Addr} (D : ZA3 q ti to m1 m2 m3 a b c) :
    Turn P w K (.Tuple elts kk tpos) (Itz3 u1 u2 u3 K a b c) [q, ti, to, m1, m2, m3] q (fun i h => IsZip h q ti to .none ∧ IsTrip h ti (.ref m1) (.ref m2) (.ref m3) ∧ (∃ x y z, IsTrip h to x y z) ∧ hIt u1 h m1 a i ∧ hIt u2 h m2 b i ∧ hIt u3 h m3 c i) where
  mem := by simp
  obj := fun i h st e he => by
    obtain ⟨zz, pi, ⟨x, y, z, po⟩, w1, w2, w3⟩ := st
    have e' : e = q ∨ e = ti ∨ e = to ∨ e = m1 ∨ e = m2 ∨ e = m3 := by simpa using he
    rcases e' with r | r | r | r | r | r
    · rw [r]; exact ⟨_, zz, fun v e => nomatch e⟩
    · rw [r]; exact ⟨_, pi, fun v e => nomatch e⟩
    · rw [r]; exact ⟨_, po, fun v e => nomatch e⟩
    · rw [r]; exact w1.obj
    · rw [r]; exact w2.obj
    · rw [r]; exact w3.obj
  keep := fun i h h' st k => by
    obtain ⟨zz, pi, ⟨x, y, z, po⟩, w1, w2, w3⟩ := st
    exact ⟨k q (by simp) _ zz, k ti (by simp) _ pi, ⟨x, y, z, k to (by simp) _ po⟩, w1.to fun o e => k m1 (by simp) o e, w2.to fun o e => k m2 (by simp) o e, w3.to fun o e => k m3 (by simp) o e⟩
  item := by
    intro X hP hw hK hc i pins s σ H E I hf st hg
    subst hP hw hK
    obtain ⟨zz, pi, ⟨x0, y0, z0, po⟩, w1, w2, w3⟩ := st
    obtain ⟨xs, ys, zs, x, y, z, hqx, hqy, hqz, hx, hy, hz⟩ := hg
    obtain ⟨its, rv, p, _⟩ := inv_half I hqx
    obtain ⟨its2, rv2, p2, _⟩ := inv_half I hqy
    obtain ⟨its3, rv3, p3, _⟩ := inv_half I hqz
    obtain ⟨v, hv, ru⟩ := rv.get hx
    obtain ⟨v2, hv2, ru2⟩ := rv2.get hy
    obtain ⟨v3, hv3, ru3⟩ := rv3.get hz
    have ql : q < s.heap.objs.size := Heap.lt_size zz
    refine z3_next_item D zz pi po w1 w2 w3 p p2 p3 (x := v) (y := v2) (z := v3) (by simpa using hv) (by simpa using hv2) (by simpa using hv3) fun g z1 po1 w11 w21 w31 hT hsz hk => ?_
    refine ⟨_, rfl, wpAny_letOwnedTupleGo_zip (s := { s with heap := g }) z1 fun g2 z2 sb => ?_⟩
    have hT2 : g2.get? s.heap.objs.size = some { cls := .type "tuple", data := .seq #[v, v2, v3] } := (sb.2 _ (Nat.ne_of_gt ql)).trans hT
    have new : ObjOk X.prog X.w (upd H s.heap.objs.size (.tup [x, y, z])) g2 s.heap.objs.size (.tup [x, y, z]) := ⟨by show 3 ≤ sizeLine; decide, [v, v2, v3], .cons ru (.cons ru2 (.cons ru3 .nil)), ⟨_, hT2, rfl, _, rfl⟩⟩
    have I1 : Inv X pins σ (upd H s.heap.objs.size (.tup [x, y, z])) { s with heap := g2 } := I.turnedNew (t' := s.toks) (ch := [q, ti, to, m1, m2, m3])
      (fun e o hb f => (sb.2 e (fun r => hb (by simp [r]))).trans (hk e o (fun r => hb (by simp [r])) (fun r => hb (by simp [r])) (fun r => hb (by simp [r])) (fun r => hb (by simp [r])) (fun r => hb (by simp [r])) f)) hf (Nat.le_refl _) new
    refine ⟨.ref s.heap.objs.size, _, I1, rfl, ⟨_, x, y, z, rfl, I.hok.fresh (Nat.le_refl _), rfl, fun l hl => by rw [inv_half_inj I hl hqx]; exact hx, fun l hl => by rw [inv_half_inj I hl hqy]; exact hy, fun l hl => by rw [inv_half_inj I hl hqz]; exact hz⟩, ⟨z2, ?_, ⟨v, v2, v3, ?_⟩, ?_, ?_, ?_⟩, fun e hem => ?_⟩
    · exact (sb.2 _ D.tiq).trans (hk _ _ D.tiq D.tito D.tim1 D.tim2 D.tim3 pi)
    · exact (sb.2 _ D.toq).trans po1
    · exact w11.to fun o e => (sb.2 _ D.m1q).trans e
    · exact w21.to fun o e => (sb.2 _ D.m2q).trans e
    · exact w31.to fun o e => (sb.2 _ D.m3q).trans e
    · have lt : e < s.heap.objs.size := by
        have e' : e = q ∨ e = ti ∨ e = to ∨ e = m1 ∨ e = m2 ∨ e = m3 := by simpa using hem
        rcases e' with r | r | r | r | r | r
        · rw [r]; exact ql
        · rw [r]; exact Heap.lt_size pi
        · rw [r]; exact Heap.lt_size po
        · rw [r]; exact w1.small
        · rw [r]; exact w2.small
        · rw [r]; exact w3.small
      rw [upd_ne (Nat.ne_of_lt lt)]
      exact (hf e hem).1
  done := by
    intro X hP hw hK hc i pins s σ H E I hf st hg
    subst hP hw hK
    obtain ⟨zz, pi, ⟨x0, y0, z0, po⟩, w1, w2, w3⟩ := st
    obtain ⟨xs, ys, zs, hqx, hqy, hqz, hend⟩ := hg
    obtain ⟨its, rv, p, _⟩ := inv_half I hqx
    obtain ⟨its2, rv2, p2, _⟩ := inv_half I hqy
    obtain ⟨its3, rv3, p3, _⟩ := inv_half I hqz
    have l1 := rv.length
    have l2 := rv2.length
    have l3 := rv3.length
    have he : its.toArray[i]? = none ∨ its2.toArray[i]? = none ∨ its3.toArray[i]? = none := hend.imp (fun z => by simp; omega) fun h => h.imp (fun z => by simp; omega) fun z => by simp; omega
    exact z3_next_end (I.ok.hd hc) D zz pi po w1 w2 w3 p p2 p3 he fun g hk => ⟨rfl, I.turnedL (t' := s.toks) (ch := [q, ti, to, m1, m2, m3]) (fun e o hb f =>
      hk e o (fun r => hb (by simp [r])) (fun r => hb (by simp [r])) (fun r => hb (by simp [r])) (fun r => hb (by simp [r])) (fun r => hb (by simp [r])) f) hf⟩
  self := fun A i s Q E st h => wpAny_pyIter_zip st.1 h
/-- a new triple of the i-th of each -/
def YTrip (xs ys zs : Nat → Option V) : Nat → Hp → V → Hp → Prop := fun i H v H' => ∃ T x y z, v = .ref T ∧ H T = none ∧ H' = upd H T (.tup [x, y, z]) ∧ xs i = some x ∧ ys i = some y ∧ zs i = some z
section
variable {X : Cx} {K : PySem.W.Frag}
def iZ3 (u1 u2 u3 : Bool) (K : PySem.W.Frag) (ta : TA) : TI := fun σ H R => ta σ H fun vs H1 => ∃ a b c xs ys zs, vs = [.ref a, .ref b, .ref c] ∧ SqH u1 K H1 a xs ∧ SqH u2 K H1 b ys ∧ SqH u3 K H1 c zs ∧ R (Itz3 u1 u2 u3 K a b c) H1
theorem pi_z3 (u1 u2 u3 : Bool) {e e2 e3 : Expr} {ta : TA} {p pos tpos : Pos} {elts : List Expr} {kk : Nat} (hg : Gl X "zip") (hm : X.mg "zip" = none) (ha : PA X [e, e2, e3] ta)
    (hs : starEach [e, e2, e3] X.env = (false, eval e X.env) :: starEach [e2, e3] X.env := by rfl) (hpl : (backTo pos (starEach [e2, e3] X.env)).any (·.1) = false := by rfl) (hK : X.K = K := by rfl) :
    PI X (.Tuple elts kk tpos) (.Call (.Name "zip" p) [e, e2, e3] [] pos) (iZ3 u1 u2 u3 K ta) := by
  subst hK
  refine ⟨fun pins s σ H R I h => ?_⟩
  refine Call_ (ld_blt I hg hm PyProof.Rows.boot_zip (PyProof.Rows.callWith_type1 (thn (ha.run pos pins s σ H _ I h) fun us s1 ⟨vs, H1, I1, r1, q1⟩ => ?_) hs hpl))
  obtain ⟨a, b, c, xs, ys, zs, rfl, hqx, hqy, hqz, q⟩ := q1
  cases r1 with
  | cons r rr =>
    cases rr with
    | cons r' rr =>
      cases rr with
      | cons r'' rr =>
        cases rr
        cases r
        cases r'
        cases r''
        have new6 : ∀ d, d ∈ [s1.heap.objs.size + 5, s1.heap.objs.size + 3, s1.heap.objs.size + 4, s1.heap.objs.size, s1.heap.objs.size + 1, s1.heap.objs.size + 2] → FpOk X pins H1 d := fun d hd => by
          have le : s1.heap.objs.size ≤ d := by
            simp only [List.mem_cons, List.not_mem_nil, or_false] at hd
            rcases hd with z | z | z | z | z | z <;> rw [z] <;> first | exact Nat.le_refl _ | exact Nat.le_add_right _ _
          exact I1.fpOk le (I1.hok.fresh le)
        obtain ⟨its, rv, p1, lt1⟩ := inv_half I1 hqx
        obtain ⟨its2, rv2, p2, lt2⟩ := inv_half I1 hqy
        obtain ⟨its3, rv3, p3, lt3⟩ := inv_half I1 hqz
        refine z3_call p1 p2 p3 fun g zz pi po w1 w2 w3 hk => wpAny_pyIter_zip zz ?_
        have I2 : Inv X pins σ H1 { s1 with heap := g } := I1.kept (t' := s1.toks) hk
        exact ⟨s1.heap.objs.size + 5, [s1.heap.objs.size + 5, s1.heap.objs.size + 3, s1.heap.objs.size + 4, s1.heap.objs.size, s1.heap.objs.size + 1, s1.heap.objs.size + 2], _, _, H1, rfl, I2, turn_z3 (za3_new lt1 lt2 lt3), ⟨zz, pi, ⟨_, _, _, po⟩, w1, w2, w3⟩, new6, q⟩
theorem walk_z3 {u1 u2 u3 : Bool} {a b c : Addr} {xs ys zs : List V} {n : Nat} (hn : n = min xs.length (min ys.length zs.length)) : Walk (Itz3 u1 u2 u3 K a b c) n (fun H => SqH u1 K H a xs ∧ SqH u2 K H b ys ∧ SqH u3 K H c zs) (YTrip (fun i => xs[i]?) (fun i => ys[i]?) (fun i => zs[i]?)) := by
  subst hn
  refine ⟨fun i H hi q => ⟨xs, ys, zs, xs[i]'(by omega), ys[i]'(by omega), zs[i]'(by omega), q.1, q.2.1, q.2.2, List.getElem?_eq_getElem _, List.getElem?_eq_getElem _, List.getElem?_eq_getElem _⟩, fun H q => ⟨xs, ys, zs, q.1, q.2.1, q.2.2, by omega⟩, fun i H v H' hi q y => ?_⟩
  obtain ⟨T, x, y, z, h1, h2, h3, h4, h5, h6⟩ := y
  exact ⟨T, x, y, z, h1, h2, h3, h4 xs q.1, h5 ys q.2.1, h6 zs q.2.2⟩
end
end RL
/-! enumerate(zip(a, b)), each of both a list or a tuple. -/
namespace RL
open PySem PySem.Spec PyProof.Rows L2
/-- a zip, whatever became of the tuple that it told last -/
abbrev zObj (own : Value) (fl : Bool) (ti to : Addr) : Obj := { cls := .type "zip", dict := none, data := .fields #[own, .bool fl, .bool false, .ref ti, .ref to], slots := #[] }
def ZAny (h : Heap) (q ti to : Addr) : Prop := h.get? q = some (zObj .none false ti to) ∨ ∃ (T : Addr) (fl : Bool), h.get? q = some (zObj (rawInt T) fl ti to)
theorem ZAny.ex {h : Heap} {q ti to : Addr} (z : ZAny h q ti to) : ∃ own fl, h.get? q = some (zObj own fl ti to) := by
  rcases z with z | ⟨T, fl, z⟩
  · exact ⟨_, _, z⟩
  · exact ⟨_, _, z⟩
theorem ZAny.to {h g : Heap} {q ti to : Addr} (z : ZAny h q ti to) (e : ∀ o, h.get? q = some o → g.get? q = some o) : ZAny g q ti to := by
  rcases z with z | ⟨T, fl, z⟩
  · exact .inl (e _ z)
  · exact .inr ⟨T, fl, e _ z⟩
section
variable {prog : Program} {w : World} {A : Around} {E : Value → Shared → Prop} {s : Shared}
theorem alive_any {a : Addr} {Q : Option Obj → Shared → Prop} (h : Q (s.heap.get? a) s) : wpAny (model prog w) A (loadIfAlive a) Q E s := fun _ _ _ => h
theorem own_ask {q ti to : Addr} {Q : Bool → Shared → Prop} (z : ZAny s.heap q ti to) (free : Q true s) (held : ∀ g (T : Addr), g.get? q = some (zObj (rawInt T) true ti to) → Heap.SameBut q s.heap g → Q false { s with heap := g }) :
    wpAny (model prog w) A (Builtin.SmallTypes.ownedTupleIsFree (.ref q)) Q E s := by
  unfold Builtin.SmallTypes.ownedTupleIsFree
  rcases z with z | ⟨T, fl, z⟩
  · exact wpAny_bind (wpAny_field z rfl (x := .none) rfl (wpAny_pure free))
  · refine wpAny_bind (wpAny_field z rfl (x := rawInt T) rfl ?_)
    show wpAny _ _ (loadIfAlive ((T : Int).toNat) >>= _) _ _ s
    rw [Int.toNat_natCast]
    refine wpAny_bind (alive_any ?_)
    cases e : s.heap.get? T with
    | none => exact wpAny_pure free
    | some oT =>
      show wpAny _ _ (field (.ref q) 1 >>= _) _ _ s
      refine wpAny_bind (wpAny_field z rfl (x := .bool fl) rfl ?_)
      cases fl with
      | true => exact wpAny_pure (held s.heap T z (Heap.SameBut.refl _ _))
      | false => exact wpAny_bind (wpAny_setField_rec z (by simp) fun g z1 b1 => wpAny_pure (held g T z1 b1))
theorem zx_item {q ti to m1 m2 d1 d2 : Addr} {u1 u2 : Bool} {n1 n2 : Nat} {vs1 vs2 : Array Value} {x y a b : Value} {Q : Value → Shared → Prop} (D : ZipApart q ti to m1 m2 d1 d2)
    (zz : ZAny s.heap q ti to) (pi : IsPair s.heap ti (.ref m1) (.ref m2)) (po : IsPair s.heap to a b)
    (w1 : hIt u1 s.heap m1 d1 n1) (w2 : hIt u2 s.heap m2 d2 n2) (s1 : hSq u1 s.heap d1 vs1) (s2 : hSq u2 s.heap d2 vs2) (hx : vs1[n1]? = some x) (hy : vs2[n2]? = some y)
    (hq : ∀ g, ZAny g q ti to → (∃ a b, IsPair g to a b) → hIt u1 g m1 d1 (n1 + 1) → hIt u2 g m2 d2 (n2 + 1) → IsPair g s.heap.objs.size x y → g.objs.size = s.heap.objs.size + 1 →
      (∀ c o, c ≠ q → c ≠ to → c ≠ m1 → c ≠ m2 → s.heap.get? c = some o → g.get? c = some o) → Q (.ref s.heap.objs.size) { s with heap := g }) :
    wpAny (model prog w) A (Builtin.«zip.__next__» ⟨[.ref q], []⟩) (fun f s' => ∃ v, f = .done (.ret v) ∧ Q v s') E s := by
  obtain ⟨own, fl, z0⟩ := zz.ex
  show wpAny _ _ (field (.ref q) 2 >>= _) _ _ _
  refine wpAny_bind (wpAny_field z0 rfl (x := .bool false) rfl ?_)
  show wpAny _ _ (field (.ref q) 3 >>= _) _ _ _
  refine wpAny_bind (wpAny_field z0 rfl (x := .ref ti) rfl (wpAny_bind (wpAny_seqItems pi rfl ?_)))
  show wpAny _ _ (Builtin.SmallTypes.ownedTupleIsFree (.ref q) >>= _) _ _ _
  refine wpAny_bind (own_ask zz ?free fun g1 T z1 b1 => ?held)
  case free =>
    simp only [if_true]
    refine wpAny_bind (wpAny_rule (wpAny_bind (wpAny_field z0 rfl (x := .ref to) rfl (wpAny_bind (wpAny_setField_rec z0 (by simp) fun g1 zz1 b1 => ?_)))))
    replace zz1 : g1.get? q = some (zObj .ellipsis fl ti to) := zz1
    refine wpAny_bind ?_
    simp only [List.zipIdx_nil, List.zipIdx_cons, List.forIn_nil, List.forIn_cons]
    refine wpAny_bind (wpAny_bind (wpAny_onRaise ?_))
    show wpAny _ _ (Builtin.SmallTypes.nextOf (.ref m1) >>= _) _ _ _
    refine wpAny_bind (half_item (w1.but b1.extBut D.i1z) (s1.but b1.extBut D.l1z) hx fun g2 v1 b2 => wpAny_pure ?_)
    have po2 : IsPair g2 to a b := b2.extBut _ _ D.TOi1 (b1.extBut _ _ D.TOz po)
    refine wpAny_bind (wpAny_seqItems po2 rfl (wpAny_bind (wpAny_updateSeq_pair po2 fun g3 po3 b3 => ?_)))
    replace po3 : IsPair g3 to x b := po3
    refine wpAny_bind (wpAny_letGo (wpAny_pure (wpAny_bind (wpAny_bind (wpAny_onRaise ?_)))))
    show wpAny _ _ (Builtin.SmallTypes.nextOf (.ref m2) >>= _) _ _ _
    refine wpAny_bind (half_item (((w2.but b1.extBut D.i2z).but b2.extBut D.i12.symm).but b3.extBut D.TOi2.symm) (((s2.but b1.extBut D.l2z).but b2.extBut D.l2i1).but b3.extBut D.l2TO) hy fun g4 v2 b4 => wpAny_pure ?_)
    have po4 : IsPair g4 to x b := b4.extBut _ _ D.TOi2 po3
    refine wpAny_bind (wpAny_seqItems po4 rfl (wpAny_bind (wpAny_updateSeq_pair po4 fun g5 po5 b5 => ?_)))
    replace po5 : IsPair g5 to x y := po5
    refine wpAny_bind (wpAny_letGo (wpAny_pure (wpAny_pure (wpAny_bind (wpAny_seqItems po5 rfl (wpAny_bind (wpAny_newTuple ?_)))))))
    have sz : g5.objs.size = s.heap.objs.size := by rw [b5.1, b4.1, b3.1, b2.1, b1.1]
    have zz5 : g5.get? q = some (zObj .ellipsis fl ti to) := b5.extBut _ _ D.TOz.symm (b4.extBut _ _ D.i2z.symm (b3.extBut _ _ D.TOz.symm (b2.extBut _ _ D.i1z.symm zz1)))
    have old5 : ∀ c o, c ≠ q → c ≠ to → c ≠ m1 → c ≠ m2 → s.heap.get? c = some o → g5.get? c = some o := fun c o c1 c2 c3 c4 e => b5.extBut _ _ c2 (b4.extBut _ _ c4 (b3.extBut _ _ c2 (b2.extBut _ _ c3 (b1.extBut _ _ c1 e))))
    have v15 : hIt u1 g5 m1 d1 (n1 + 1) := ((v1.but b3.extBut D.TOi1.symm).but b4.extBut D.i12).but b5.extBut D.TOi1.symm
    have v25 : hIt u2 g5 m2 d2 (n2 + 1) := v2.but b5.extBut D.TOi2.symm
    have ql : q < g5.objs.size := Heap.lt_size zz5
    show wpAny _ _ (Builtin.SmallTypes.ownedTupleHandOut (.ref q) (.ref g5.objs.size) >>= _) _ _ _
    refine wpAny_bind ?_; unfold Builtin.SmallTypes.ownedTupleHandOut
    have zz6 : (g5.push { cls := .type "tuple", data := .seq #[x, y] }).get? q = some (zObj .ellipsis fl ti to) := Heap.get?_push_of_some _ zz5
    refine wpAny_bind (wpAny_setField_rec zz6 (by simp) fun g7 zz7 b7 => ?_)
    replace zz7 : g7.get? q = some (zObj (rawInt g5.objs.size) fl ti to) := zz7
    refine wpAny_setField_rec zz7 (by simp) fun g8 zz8 b8 => ?_
    replace zz8 : g8.get? q = some (zObj (rawInt g5.objs.size) false ti to) := zz8
    have up : ∀ c o, c ≠ q → g5.get? c = some o → g8.get? c = some o := fun c o c1 e => b8.extBut _ _ c1 (b7.extBut _ _ c1 (Heap.get?_push_of_some _ e))
    have t8 : IsPair g8 g5.objs.size x y := b8.extBut _ _ (Nat.ne_of_gt ql) (b7.extBut _ _ (Nat.ne_of_gt ql) (Heap.get?_push_size _ rfl))
    have sz8 : g8.objs.size = g5.objs.size + 1 := by rw [b8.1, b7.1, Heap.size_push]
    rw [sz] at zz8 t8 sz8
    refine wpAny_pure ⟨_, rfl, ?_⟩
    show Q (.ref g5.objs.size) _
    rw [sz]
    exact hq g8 (.inr ⟨_, _, zz8⟩) ⟨_, _, up _ _ D.TOz po5⟩ (v15.to fun o e => up _ o D.i1z e) (v25.to fun o e => up _ o D.i2z e) t8 sz8 fun c o c1 c2 c3 c4 e => up c o c1 (old5 c o c1 c2 c3 c4 e)
  case held =>
    simp only [Bool.false_eq_true, if_false]
    refine wpAny_bind ?_
    rw [← Array.forIn_toList]
    simp only [List.forIn_cons, List.forIn_nil]
    refine wpAny_bind (wpAny_bind (wpAny_holding ?_))
    show wpAny _ _ (Builtin.SmallTypes.nextOf (.ref m1) >>= _) _ _ _
    refine wpAny_bind (half_item (s := { s with heap := g1 }) (w1.but b1.extBut D.i1z) (s1.but b1.extBut D.l1z) hx fun g2 v1 b2 => wpAny_pure (wpAny_pure ?_))
    refine wpAny_bind (wpAny_bind (wpAny_holding ?_))
    show wpAny _ _ (Builtin.SmallTypes.nextOf (.ref m2) >>= _) _ _ _
    refine wpAny_bind (half_item (s := { s with heap := g2 }) ((w2.but b1.extBut D.i2z).but b2.extBut D.i12.symm) ((s2.but b1.extBut D.l2z).but b2.extBut D.l2i1) hy fun g3 v2 b3 => wpAny_pure (wpAny_pure (wpAny_pure ?_)))
    show wpAny _ _ (newTuple [x, y] >>= _) _ _ _
    refine wpAny_bind (wpAny_newTuple (wpAny_pure ⟨_, rfl, ?_⟩))
    have sz : g3.objs.size = s.heap.objs.size := by rw [b3.1, b2.1, b1.1]
    have z3 : g3.get? q = some (zObj (rawInt T) true ti to) := b3.extBut _ _ D.i2z.symm (b2.extBut _ _ D.i1z.symm z1)
    have old3 : ∀ c o, c ≠ q → c ≠ m1 → c ≠ m2 → s.heap.get? c = some o → g3.get? c = some o := fun c o c1 c3 c4 e => b3.extBut _ _ c4 (b2.extBut _ _ c3 (b1.extBut _ _ c1 e))
    have tp : IsPair (g3.push { cls := .type "tuple", data := .seq #[x, y] }) g3.objs.size x y := Heap.get?_push_size _ rfl
    have sz4 : (g3.push { cls := .type "tuple", data := .seq #[x, y] }).objs.size = g3.objs.size + 1 := Heap.size_push ..
    show Q (.ref g3.objs.size) _
    rw [sz] at tp sz4 ⊢
    refine hq _ (.inr ⟨T, true, Heap.get?_push_of_some _ z3⟩) ⟨a, b, Heap.get?_push_of_some _ (old3 _ _ D.TOz D.TOi1 D.TOi2 po)⟩ ((v1.but b3.extBut D.i12).to fun o e => Heap.get?_push_of_some _ e) (v2.to fun o e => Heap.get?_push_of_some _ e) tp sz4 fun c o c1 c2 c3 c4 e => Heap.get?_push_of_some _ (old3 c o c1 c3 c4 e)
theorem zx_end {q ti to m1 m2 d1 d2 : Addr} {u1 u2 : Bool} {n1 n2 : Nat} {vs1 vs2 : Array Value} {a b : Value} {Q : Fin → Shared → Prop} (hh : A.handled = none) (D : ZipApart q ti to m1 m2 d1 d2)
    (zz : ZAny s.heap q ti to) (pi : IsPair s.heap ti (.ref m1) (.ref m2)) (po : IsPair s.heap to a b)
    (w1 : hIt u1 s.heap m1 d1 n1) (w2 : hIt u2 s.heap m2 d2 n2) (s1 : hSq u1 s.heap d1 vs1) (s2 : hSq u2 s.heap d2 vs2) (he : vs1[n1]? = none ∨ vs2[n2]? = none)
    (hE : ∀ g e, (∀ c o, c ≠ q → c ≠ to → c ≠ m1 → c ≠ m2 → s.heap.get? c = some o → g.get? c = some o) → (∃ o, g.get? e = some o ∧ o.cls = .type "StopIteration") → E (.ref e) { s with heap := g }) :
    wpAny (model prog w) A (Builtin.«zip.__next__» ⟨[.ref q], []⟩) Q E s := by
  obtain ⟨own, fl, z0⟩ := zz.ex
  show wpAny _ _ (field (.ref q) 2 >>= _) _ _ _
  refine wpAny_bind (wpAny_field z0 rfl (x := .bool false) rfl ?_)
  show wpAny _ _ (field (.ref q) 3 >>= _) _ _ _
  refine wpAny_bind (wpAny_field z0 rfl (x := .ref ti) rfl (wpAny_bind (wpAny_seqItems pi rfl ?_)))
  show wpAny _ _ (Builtin.SmallTypes.ownedTupleIsFree (.ref q) >>= _) _ _ _
  refine wpAny_bind (own_ask zz ?free fun g1 T z1 b1 => ?held)
  case free =>
    simp only [if_true]
    refine wpAny_bind (wpAny_rule (wpAny_bind (wpAny_field z0 rfl (x := .ref to) rfl (wpAny_bind (wpAny_setField_rec z0 (by simp) fun g1 zz1 b1 => ?_)))))
    replace zz1 : g1.get? q = some (zObj .ellipsis fl ti to) := zz1
    refine wpAny_bind ?_
    simp only [List.zipIdx_nil, List.zipIdx_cons, List.forIn_nil, List.forIn_cons]
    refine wpAny_bind (wpAny_bind (wpAny_onRaise ?_))
    show wpAny _ _ (Builtin.SmallTypes.nextOf (.ref m1) >>= _) _ _ _
    cases hx : vs1[n1]? with
    | none =>
      refine wpAny_bind (half_end hh (w1.but b1.extBut D.i1z) (s1.but b1.extBut D.l1z) hx fun g2 e b2 ⟨oe, hoe, hce⟩ => ?_)
      have zz2 : g2.get? q = some (zObj .ellipsis fl ti to) := b2 _ _ D.i1z.symm zz1
      have ne : e ≠ q := fun x => by
        subst x
        rw [zz2] at hoe
        cases hoe
        simp at hce
      exact wpAny_setField_rec zz2 (by simp) fun g3 _ b3 => hE g3 e (fun c o c1 _ c3 _ x => b3.extBut _ _ c1 (b2 _ _ c3 (b1.extBut _ _ c1 x))) ⟨oe, b3.extBut _ _ ne hoe, hce⟩
    | some x =>
      have hy : vs2[n2]? = none := he.elim (fun z => by rw [hx] at z; cases z) id
      refine wpAny_bind (half_item (w1.but b1.extBut D.i1z) (s1.but b1.extBut D.l1z) hx fun g2 v1 b2 => wpAny_pure ?_)
      have po2 : IsPair g2 to a b := b2.extBut _ _ D.TOi1 (b1.extBut _ _ D.TOz po)
      refine wpAny_bind (wpAny_seqItems po2 rfl (wpAny_bind (wpAny_updateSeq_pair po2 fun g3 po3 b3 => ?_)))
      refine wpAny_bind (wpAny_letGo (wpAny_pure (wpAny_bind (wpAny_bind (wpAny_onRaise ?_)))))
      show wpAny _ _ (Builtin.SmallTypes.nextOf (.ref m2) >>= _) _ _ _
      refine wpAny_bind (half_end hh (((w2.but b1.extBut D.i2z).but b2.extBut D.i12.symm).but b3.extBut D.TOi2.symm) (((s2.but b1.extBut D.l2z).but b2.extBut D.l2i1).but b3.extBut D.l2TO) hy fun g4 e b4 ⟨oe, hoe, hce⟩ => ?_)
      have zz4 : g4.get? q = some (zObj .ellipsis fl ti to) := b4 _ _ D.i2z.symm (b3.extBut _ _ D.TOz.symm (b2.extBut _ _ D.i1z.symm zz1))
      have ne : e ≠ q := fun x => by
        subst x
        rw [zz4] at hoe
        cases hoe
        simp at hce
      exact wpAny_setField_rec zz4 (by simp) fun g5 _ b5 => hE g5 e (fun c o c1 c2 c3 c4 x => b5.extBut _ _ c1 (b4 _ _ c4 (b3.extBut _ _ c2 (b2.extBut _ _ c3 (b1.extBut _ _ c1 x))))) ⟨oe, b5.extBut _ _ ne hoe, hce⟩
  case held =>
    simp only [Bool.false_eq_true, if_false]
    refine wpAny_bind ?_
    rw [← Array.forIn_toList]
    simp only [List.forIn_cons, List.forIn_nil]
    refine wpAny_bind (wpAny_bind (wpAny_holding ?_))
    show wpAny _ _ (Builtin.SmallTypes.nextOf (.ref m1) >>= _) _ _ _
    cases hx : vs1[n1]? with
    | none => exact wpAny_bind (half_end (s := { s with heap := g1 }) hh (w1.but b1.extBut D.i1z) (s1.but b1.extBut D.l1z) hx fun g2 e b2 z => hE g2 e (fun c o c1 _ c3 _ x => b2 _ _ c3 (b1.extBut _ _ c1 x)) z)
    | some x =>
      have hy : vs2[n2]? = none := he.elim (fun z => by rw [hx] at z; cases z) id
      refine wpAny_bind (half_item (s := { s with heap := g1 }) (w1.but b1.extBut D.i1z) (s1.but b1.extBut D.l1z) hx fun g2 v1 b2 => wpAny_pure (wpAny_pure ?_))
      refine wpAny_bind (wpAny_bind (wpAny_holding ?_))
      show wpAny _ _ (Builtin.SmallTypes.nextOf (.ref m2) >>= _) _ _ _
      exact wpAny_bind (half_end (s := { s with heap := g2 }) hh ((w2.but b1.extBut D.i2z).but b2.extBut D.i12.symm) ((s2.but b1.extBut D.l2z).but b2.extBut D.l2i1) hy fun g3 e b3 z => hE g3 e (fun c o c1 _ c3 c4 x => b3 _ _ c4 (b2.extBut _ _ c3 (b1.extBut _ _ c1 x))) z)
/-- the next of an enumerate over such a zip -/
theorem ez_item {e q ti to m1 m2 d1 d2 : Addr} {u1 u2 : Bool} {i n1 n2 : Nat} {vs1 vs2 : Array Value} {x y a b old : Value} {Q : Value → Shared → Prop} (D : ZipApart q ti to m1 m2 d1 d2) (eq : e ≠ q) (eto : e ≠ to) (e1 : e ≠ m1) (e2 : e ≠ m2)
    (he : IsEnum s.heap e q ((i : Nat) : Int) old) (zz : ZAny s.heap q ti to) (pi : IsPair s.heap ti (.ref m1) (.ref m2)) (po : IsPair s.heap to a b)
    (w1 : hIt u1 s.heap m1 d1 n1) (w2 : hIt u2 s.heap m2 d2 n2) (s1 : hSq u1 s.heap d1 vs1) (s2 : hSq u2 s.heap d2 vs2) (hx : vs1[n1]? = some x) (hy : vs2[n2]? = some y)
    (hq : ∀ g, IsEnumOut g e q (((i : Nat) : Int) + 1) (.ref s.heap.objs.size) (s.heap.objs.size + 1) → ZAny g q ti to → (∃ a b, IsPair g to a b) → hIt u1 g m1 d1 (n1 + 1) → hIt u2 g m2 d2 (n2 + 1) → IsPair g s.heap.objs.size x y →
      IsPair g (s.heap.objs.size + 1) (.int i s.toks) (.ref s.heap.objs.size) →
      (∀ c o, c ≠ e → c ≠ q → c ≠ to → c ≠ m1 → c ≠ m2 → s.heap.get? c = some o → g.get? c = some o) → Q (.ref (s.heap.objs.size + 1)) { s with heap := g, toks := s.toks + 1 }) :
    wpAny (model prog w) A (Builtin.«enumerate.__next__» ⟨[.ref e], []⟩) (fun f s' => ∃ v, f = .done (.ret v) ∧ Q v s') E s := by
  obtain ⟨hp, gg, d, tk, os⟩ := s
  have ty : (⟨hp, gg, d, tk, os⟩ : Shared).TypeIs (.ref q) "zip" := by
    obtain ⟨own, fl, z0⟩ := zz.ex
    exact ⟨_, z0, rfl⟩
  have el : e < hp.objs.size := Heap.lt_size he
  show wpAny _ _ (field (.ref e) 2 >>= _) _ _ _
  refine wpAny_bind (wpAny_field he rfl (x := .ref q) rfl ?_)
  refine wpAny_bind ?_
  unfold Builtin.SmallTypes.nextOf
  refine wpAny_bind (wpAny_callSpecial?_slot (name := Str.ofString "__next__") ty F.slot_zip_next (wpAny_call_entry F.slot_zip_next ty F.entry_zip_next (zx_item D zz pi po w1 w2 s1 s2 hx hy fun g1 z1 po1 v1 v2 t1 sz1 k1 => wpAny_pure ?_) (F.args_zip_next_1 _)))
  have E1 : IsEnum g1 e q ((i : Nat) : Int) old := k1 _ _ eq eto e1 e2 he
  show wpAny _ _ (field (.ref e) 3 >>= _) _ _ ⟨g1, gg, d, tk, os⟩
  refine wpAny_bind (wpAny_field E1 rfl (x := rawInt ((i : Nat) : Int)) rfl ?_)
  show wpAny _ _ (field (.ref e) 4 >>= _) _ _ ⟨g1, gg, d, tk, os⟩
  refine wpAny_bind (wpAny_field E1 rfl (x := .none) rfl ?_)
  show wpAny _ _ (mkInt ((i : Nat) : Int) >>= _) _ _ ⟨g1, gg, d, tk, os⟩
  refine wpAny_bind (wpAny_mkInt ?_)
  show wpAny _ _ (setField (.ref e) 3 (rawInt (((i : Nat) : Int) + 1)) >>= _) _ _ ⟨g1, gg, d, tk + 1, os⟩
  refine wpAny_bind (wpAny_setField_rec E1 (by simp) fun g2 E2 b2 => ?_)
  replace E2 : IsEnum g2 e q (((i : Nat) : Int) + 1) old := E2
  replace b2 : Heap.SameBut e g1 g2 := b2
  show wpAny _ _ (setField (.ref e) 4 .none >>= _) _ _ ⟨g2, gg, d, tk + 1, os⟩
  refine wpAny_bind (wpAny_setField_rec E2 (by simp) fun g3 E3 b3 => ?_)
  replace E3 : IsEnum g3 e q (((i : Nat) : Int) + 1) old := E3
  replace b3 : Heap.SameBut e g2 g3 := b3
  show wpAny _ _ (newTuple [.int i tk, .ref hp.objs.size] >>= _) _ _ ⟨g3, gg, d, tk + 1, os⟩
  refine wpAny_bind (wpAny_newTuple ?_)
  have sz3 : g3.objs.size = hp.objs.size + 1 := by rw [b3.1, b2.1, sz1]
  have E4 : IsEnum (g3.push { cls := .type "tuple", data := .seq #[.int i tk, .ref hp.objs.size] }) e q (((i : Nat) : Int) + 1) old := Heap.get?_push_of_some _ E3
  have t4 : IsPair (g3.push { cls := .type "tuple", data := .seq #[.int i tk, .ref hp.objs.size] }) (hp.objs.size + 1) (.int i tk) (.ref hp.objs.size) := by
    rw [← sz3]
    exact Heap.get?_push_size _ rfl
  have up4 : ∀ c o, c ≠ e → g1.get? c = some o → (g3.push { cls := .type "tuple", data := .seq #[.int i tk, .ref hp.objs.size] }).get? c = some o := fun c o c1 x => Heap.get?_push_of_some _ (b3.extBut _ _ c1 (b2.extBut _ _ c1 x))
  generalize g3.push { cls := .type "tuple", data := .seq #[.int i tk, .ref hp.objs.size] } = g4 at E4 t4 up4
  show wpAny _ _ (Builtin.SmallTypes.ownedTupleIsFree (.ref e) >>= _) _ _ ⟨g4, gg, d, tk + 1, os⟩
  rw [sz3]
  refine wpAny_bind ?_
  unfold Builtin.SmallTypes.ownedTupleIsFree
  refine wpAny_bind (wpAny_field E4 rfl (x := .none) rfl (wpAny_pure ?_))
  simp only [if_true]
  refine wpAny_bind (wpAny_rule (wpAny_bind (wpAny_field E4 rfl (x := old) rfl (wpAny_bind (wpAny_setField_rec E4 (by simp) fun g5 E5 b5 => ?_)))))
  replace E5 : IsEnum g5 e q (((i : Nat) : Int) + 1) (.ref hp.objs.size) := E5
  replace b5 : Heap.SameBut e g4 g5 := b5
  show wpAny _ _ (Builtin.SmallTypes.ownedTupleHandOut (.ref e) (.ref (hp.objs.size + 1)) >>= _) _ _ ⟨g5, gg, d, tk + 1, os⟩
  refine wpAny_bind ?_
  unfold Builtin.SmallTypes.ownedTupleHandOut
  refine wpAny_bind (wpAny_setField_rec E5 (by simp) fun g6 E6 b6 => ?_)
  replace E6 : IsEnumOut g6 e q (((i : Nat) : Int) + 1) (.ref hp.objs.size) (hp.objs.size + 1) := E6
  replace b6 : Heap.SameBut e g5 g6 := b6
  refine wpAny_setField_rec E6 (by simp) fun g7 E7 b7 => ?_
  replace E7 : IsEnumOut g7 e q (((i : Nat) : Int) + 1) (.ref hp.objs.size) (hp.objs.size + 1) := E7
  replace b7 : Heap.SameBut e g6 g7 := b7
  have up7 : ∀ c o, c ≠ e → g4.get? c = some o → g7.get? c = some o := fun c o c1 x => b7.extBut _ _ c1 (b6.extBut _ _ c1 (b5.extBut _ _ c1 x))
  have up : ∀ c o, c ≠ e → g1.get? c = some o → g7.get? c = some o := fun c o c1 x => up7 c o c1 (up4 c o c1 x)
  refine wpAny_bind (wpAny_letGo (wpAny_pure ⟨_, rfl, hq g7 E7 (z1.to fun o x => up _ o eq.symm x) ?_ (v1.to fun o x => up _ o e1.symm x) (v2.to fun o x => up _ o e2.symm x) (up _ _ (Nat.ne_of_gt el) t1) (up7 _ _ (Nat.ne_of_gt (Nat.lt_succ_of_lt el)) t4) fun c o c0 c1 c2 c3 c4 x => up c o c0 (k1 c o c1 c2 c3 c4 x)⟩))
  obtain ⟨a', b', po1⟩ := po1
  exact ⟨a', b', up _ _ eto.symm po1⟩
theorem ez_end {e q ti to m1 m2 d1 d2 : Addr} {u1 u2 : Bool} {n1 n2 : Nat} {i : Int} {vs1 vs2 : Array Value} {a b old : Value} {Q : Option Value → Shared → Prop} (hh : A.handled = none) (D : ZipApart q ti to m1 m2 d1 d2)
    (he : IsEnum s.heap e q i old) (zz : ZAny s.heap q ti to) (pi : IsPair s.heap ti (.ref m1) (.ref m2)) (po : IsPair s.heap to a b)
    (w1 : hIt u1 s.heap m1 d1 n1) (w2 : hIt u2 s.heap m2 d2 n2) (s1 : hSq u1 s.heap d1 vs1) (s2 : hSq u2 s.heap d2 vs2) (hz : vs1[n1]? = none ∨ vs2[n2]? = none)
    (hq : ∀ g, (∀ c o, c ≠ q → c ≠ to → c ≠ m1 → c ≠ m2 → s.heap.get? c = some o → g.get? c = some o) → Q none { s with heap := g }) : wpAny (model prog w) A (pyNext (.ref e)) Q E s := by
  have te : s.TypeIs (.ref e) "enumerate" := ⟨_, he, rfl⟩
  have ty : s.TypeIs (.ref q) "zip" := by
    obtain ⟨own, fl, z0⟩ := zz.ex
    exact ⟨_, z0, rfl⟩
  unfold pyNext
  refine wpAny_bind (wpAny_attempt (wpAny_callSpecial?_slot (name := Str.ofString "__next__") te F.slot_enumerate_next (wpAny_call_entry F.slot_enumerate_next te F.entry_enumerate_next ?_ (F.args_enumerate_next_1 _))))
  show wpAny _ _ (field (.ref e) 2 >>= _) _ _ _
  refine wpAny_bind (wpAny_field he rfl (x := .ref q) rfl ?_)
  refine wpAny_bind ?_
  unfold Builtin.SmallTypes.nextOf
  refine wpAny_bind (wpAny_callSpecial?_slot (name := Str.ofString "__next__") ty F.slot_zip_next (wpAny_call_entry F.slot_zip_next ty F.entry_zip_next (zx_end hh D zz pi po w1 w2 s1 s2 hz fun g x hk ⟨o, ho, hc⟩ => ?_) (F.args_zip_next_1 _)))
  exact wpAny_bind (wpAny_isInstance (T := "StopIteration") (b := true) ⟨o, ho, hc⟩ isSubtype_stop (wpAny_pure (hq _ hk)))
set_option maxHeartbeats 1000000 in
theorem meets_enum_zip (q ti to : Addr) :
    Meets (Builtin.«enumerate.__new__» ⟨[.type "enumerate", .ref q], []⟩) (fun _ R s => IsZip s.heap q ti to .none ∧
      R (.ok (.ret (.ref s.heap.objs.size))) { s with heap := s.heap.push { cls := .type "enumerate", data := .fields #[.none, .bool false, .ref q, rawInt 0, .none, .none] } }) :=
  .of_wp fun P0 w0 A R s hh => by
    obtain ⟨hp, g, d, tk, os⟩ := s
    have hsub := sub_enumerate
    have draw : ∀ {A1 : Around} {E1 : Value → Shared → Prop} {Q1 : Value → Shared → Prop}, Q1 (.ref q) ⟨hp, g, d, tk, os⟩ → wpAny (model P0 w0) A1 (pyIter (.ref q)) Q1 E1 ⟨hp, g, d, tk, os⟩ :=
      fun z => wpAny_pyIter_zip hh.1 z
    have fin := hh.2
    wp_walk using draw
    refine wpAny_stack_any fun st => wpAny_pure ?_
    split
    · rename_i c _ _ _ _ _
      cases (c == Value.type "enumerate")
      all_goals
        wp_walk using draw
        exact ⟨_, rfl, fin⟩
    · wp_walk using draw
      exact ⟨_, rfl, fin⟩
theorem call_enum_zip {q ti to : Addr} {Q : Value → Shared → Prop} (hz : IsZip s.heap q ti to .none)
    (h : ∀ g, IsEnum g s.heap.objs.size q 0 .none → (∀ b o, s.heap.get? b = some o → g.get? b = some o) → Q (.ref s.heap.objs.size) { s with heap := g }) :
    wpAny (model prog w) A (call (.type "enumerate") [.ref q]) Q E s := by
  refine callType_new F.called_enumerate (by decide) (F.typeCall_enumerate_1 _) (F.newCall_enumerate_1 _) (fun ob => F.args_object_init_2 ob _) F.entry_enumerate_new (meets_enum_zip q ti to) ⟨hz, ?_⟩
  have g2 : (s.heap.push { cls := .type "enumerate", data := .fields #[.none, .bool false, .ref q, rawInt 0, .none, .none] }).get? s.heap.objs.size = some { cls := .type "enumerate", data := .fields #[.none, .bool false, .ref q, rawInt 0, .none, .none] } := Heap.get?_push_size _ rfl
  show _ ∧ _
  exact ⟨⟨_, g2, rfl⟩, h _ g2 fun b o e => Heap.get?_push_of_some _ e⟩
end
/-- pairs of both, in new pairs with their numbers -/
def Itez (u1 u2 : Bool) (K : PySem.W.Frag) (a b : Addr) : It :=
  ⟨fun i H => ∃ (xs ys : List V) (x y : V), SqH u1 K H a xs ∧ SqH u2 K H b ys ∧ xs[i]? = some x ∧ ys[i]? = some y,
    fun i H v H' => ∃ T U x y, v = .ref U ∧ H T = none ∧ H U = none ∧ T ≠ U ∧ H' = upd (upd H T (.tup [x, y])) U (.tup [.int (i : Nat), .ref T]) ∧ (∀ xs, SqH u1 K H a xs → xs[i]? = some x) ∧ ∀ ys, SqH u2 K H b ys → ys[i]? = some y,
    fun i H => ∃ xs ys : List V, SqH u1 K H a xs ∧ SqH u2 K H b ys ∧ (xs.length ≤ i ∨ ys.length ≤ i)⟩
theorem turn_ez {P : Program} {w : World} {K : PySem.W.Frag} {elts : List Expr} {kk : Nat} {tpos : Pos} {u1 u2 : Bool} {a b e q ti to m1 m2 : Addr} (D : ZipApart q ti to m1 m2 a b) (eq : e ≠ q) (eti : e ≠ ti) (eto : e ≠ to) (e1 : e ≠ m1) (e2 : e ≠ m2) :
    Turn P w K (.Tuple elts kk tpos) (Itez u1 u2 K a b) [e, q, ti, to, m1, m2] e (fun i h => (∃ old, IsEnum h e q ((i : Nat) : Int) old) ∧ ZAny h q ti to ∧ IsPair h ti (.ref m1) (.ref m2) ∧ (∃ x y, IsPair h to x y) ∧ hIt u1 h m1 a i ∧ hIt u2 h m2 b i) where
  mem := by simp
  obj := fun i h st c hc => by
    obtain ⟨⟨old, he⟩, zz, pi, ⟨x, y, po⟩, w1, w2⟩ := st
    obtain ⟨own, fl, z0⟩ := zz.ex
    have z : c = e ∨ c = q ∨ c = ti ∨ c = to ∨ c = m1 ∨ c = m2 := by simpa using hc
    rcases z with z | z | z | z | z | z
    · rw [z]; exact ⟨_, he, fun v e => nomatch e⟩
    · rw [z]; exact ⟨_, z0, fun v e => nomatch e⟩
    · rw [z]; exact ⟨_, pi, fun v e => nomatch e⟩
    · rw [z]; exact ⟨_, po, fun v e => nomatch e⟩
    · rw [z]; exact w1.obj
    · rw [z]; exact w2.obj
  keep := fun i h h' st k => by
    obtain ⟨⟨old, he⟩, zz, pi, ⟨x, y, po⟩, w1, w2⟩ := st
    exact ⟨⟨old, k e (by simp) _ he⟩, zz.to fun o z => k q (by simp) o z, k ti (by simp) _ pi, ⟨x, y, k to (by simp) _ po⟩, w1.to fun o e => k m1 (by simp) o e, w2.to fun o e => k m2 (by simp) o e⟩
  item := by
    intro X hP hw hK hc i pins s σ H E I hf st hg
    subst hP hw hK
    obtain ⟨⟨old, he⟩, zz, pi, ⟨x0, y0, po⟩, w1, w2⟩ := st
    obtain ⟨xs, ys, x, y, hqx, hqy, hx, hy⟩ := hg
    obtain ⟨its, rv, p, _⟩ := inv_half I hqx
    obtain ⟨its2, rv2, p2, _⟩ := inv_half I hqy
    obtain ⟨v, hv, ru⟩ := rv.get hx
    obtain ⟨v2, hv2, ru2⟩ := rv2.get hy
    have el : e < s.heap.objs.size := Heap.lt_size he
    have ql : q < s.heap.objs.size := by
      obtain ⟨own, fl, z0⟩ := zz.ex
      exact Heap.lt_size z0
    have te : s.TypeIs (.ref e) "enumerate" := ⟨_, he, rfl⟩
    have lt : ∀ c, c ∈ [e, q, ti, to, m1, m2] → c < s.heap.objs.size := fun c hcm => by
      have z : c = e ∨ c = q ∨ c = ti ∨ c = to ∨ c = m1 ∨ c = m2 := by simpa using hcm
      rcases z with z | z | z | z | z | z
      · rw [z]; exact el
      · rw [z]; exact ql
      · rw [z]; exact Heap.lt_size pi
      · rw [z]; exact Heap.lt_size po
      · rw [z]; exact w1.small
      · rw [z]; exact w2.small
    unfold pyNext
    refine wpAny_bind (wpAny_attempt (wpAny_callSpecial?_slot (name := Str.ofString "__next__") te F.slot_enumerate_next (wpAny_call_entry F.slot_enumerate_next te F.entry_enumerate_next
      (ez_item D eq eto e1 e2 he zz pi po w1 w2 p p2 (x := v) (y := v2) (by simpa using hv) (by simpa using hv2) fun g E1 z1 po1 v11 v21 t1 t2 hk => wpAny_pure ?_) (F.args_enumerate_next_1 _))))
    refine ⟨_, rfl, wpAny_letOwnedTupleGo_enum (s := { s with heap := g, toks := s.toks + 1 }) E1 fun g2 he2 sb => ?_⟩
    have nn : ∀ c, s.heap.objs.size ≤ c → c ∉ [e, q, ti, to, m1, m2] := fun c hc2 hm => absurd (lt c hm) (Nat.not_lt.mpr hc2)
    have ne1 : s.heap.objs.size ≠ e := Nat.ne_of_gt el
    have ne2 : s.heap.objs.size + 1 ≠ e := Nat.ne_of_gt (Nat.lt_succ_of_lt el)
    have T1 : g2.get? s.heap.objs.size = some { cls := .type "tuple", data := .seq #[v, v2] } := (sb.2 _ ne1).trans t1
    have T2 : g2.get? (s.heap.objs.size + 1) = some { cls := .type "tuple", data := .seq #[.int i s.toks, .ref s.heap.objs.size] } := (sb.2 _ ne2).trans t2
    have h1at : (s.heap.push { cls := .type "tuple", data := .seq #[v, v2] }).get? s.heap.objs.size = some { cls := .type "tuple", data := .seq #[v, v2] } := Heap.get?_push_size _ rfl
    have I1 : Inv X pins σ (upd H s.heap.objs.size (.tup [x, y])) { s with heap := s.heap.push { cls := .type "tuple", data := .seq #[v, v2] }, toks := s.toks } :=
      I.laid (t' := s.toks) (fun c o z => Heap.get?_push_of_some _ z) (Nat.le_refl _) ⟨by show 2 ≤ sizeLine; decide, [v, v2], .cons ru (.cons ru2 .nil), ⟨_, h1at, rfl, _, rfl⟩⟩
    have sz1 : (s.heap.push { cls := .type "tuple", data := .seq #[v, v2] }).objs.size = s.heap.objs.size + 1 := Heap.size_push ..
    have hf1 : ∀ c ∈ [e, q, ti, to, m1, m2], FpOk X pins (upd H s.heap.objs.size (.tup [x, y])) c := fun c hcm => by
      refine ⟨?_, (hf c hcm).2⟩
      rw [upd_ne (Nat.ne_of_lt (lt c hcm))]
      exact (hf c hcm).1
    have I2 : Inv X pins σ (upd (upd H s.heap.objs.size (.tup [x, y])) (s.heap.objs.size + 1) (.tup [.int (i : Nat), .ref s.heap.objs.size])) { s with heap := g2, toks := s.toks + 1 } := by
      refine I1.turnedNew (t' := s.toks + 1) (ch := [e, q, ti, to, m1, m2]) (fun c o hb z => ?_) hf1 (by show (s.heap.push _).objs.size ≤ _; rw [sz1]; exact Nat.le_refl _) ⟨by show 2 ≤ sizeLine; decide, [.int i s.toks, .ref s.heap.objs.size], .cons ⟨_, rfl⟩ (.cons rfl .nil), ⟨_, T2, rfl, _, rfl⟩⟩
      rcases Heap.get?_push_cases z with ⟨z1, z2⟩ | z
      · rw [z1, z2]
        exact T1
      · exact (sb.2 c (fun y => hb (by simp [y]))).trans (hk c o (fun y => hb (by simp [y])) (fun y => hb (by simp [y])) (fun y => hb (by simp [y])) (fun y => hb (by simp [y])) (fun y => hb (by simp [y])) z)
    refine ⟨.ref (s.heap.objs.size + 1), _, I2, rfl, ⟨_, _, x, y, rfl, I.hok.fresh (Nat.le_refl _), I.hok.fresh (Nat.le_succ _), Nat.ne_of_lt (Nat.lt_succ_self _), rfl, fun l hl => by rw [inv_half_inj I hl hqx]; exact hx, fun l hl => by rw [inv_half_inj I hl hqy]; exact hy⟩, ⟨⟨_, by simpa using he2⟩, z1.to fun o z => (sb.2 _ eq.symm).trans z, ?_, ?_, v11.to fun o z => (sb.2 _ e1.symm).trans z, v21.to fun o z => (sb.2 _ e2.symm).trans z⟩, fun c hcm => ?_⟩
    · exact (sb.2 _ eti.symm).trans (hk _ _ eti.symm D.TIz D.TITO D.TIi1 D.TIi2 pi)
    · obtain ⟨a', b', z⟩ := po1
      exact ⟨a', b', (sb.2 _ eto.symm).trans z⟩
    · rw [upd_ne (Nat.ne_of_lt (Nat.lt_succ_of_lt (lt c hcm))), upd_ne (Nat.ne_of_lt (lt c hcm))]
      exact (hf c hcm).1
  done := by
    intro X hP hw hK hc i pins s σ H E I hf st hg
    subst hP hw hK
    obtain ⟨⟨old, he⟩, zz, pi, ⟨x0, y0, po⟩, w1, w2⟩ := st
    obtain ⟨xs, ys, hqx, hqy, hend⟩ := hg
    obtain ⟨its, rv, p, _⟩ := inv_half I hqx
    obtain ⟨its2, rv2, p2, _⟩ := inv_half I hqy
    have l1 := rv.length
    have l2 := rv2.length
    have hz : its.toArray[i]? = none ∨ its2.toArray[i]? = none := hend.imp (fun z => by simp; omega) fun z => by simp; omega
    exact ez_end (I.ok.hd hc) D he zz pi po w1 w2 p p2 hz fun g hk => ⟨rfl, I.turnedL (t' := s.toks) (ch := [e, q, ti, to, m1, m2]) (fun c o hb z =>
      hk c o (fun y => hb (by simp [y])) (fun y => hb (by simp [y])) (fun y => hb (by simp [y])) (fun y => hb (by simp [y])) z) hf⟩
  self := fun A i s Q E st h => wpAny_pyIter_enum st.1.choose_spec h
section
variable {X : Cx} {K : PySem.W.Frag}
def iEz (u1 u2 : Bool) (K : PySem.W.Frag) (ta : TA) : TI := fun σ H R => ta σ H fun vs H1 => ∃ a b xs ys, vs = [.ref a, .ref b] ∧ SqH u1 K H1 a xs ∧ SqH u2 K H1 b ys ∧ R (Itez u1 u2 K a b) H1
theorem pi_ez (u1 u2 : Bool) {e e2 : Expr} {ta : TA} {p pos p2 pos2 tpos : Pos} {elts : List Expr} {kk : Nat} (hg : Gl X "enumerate") (hm : X.mg "enumerate" = none) (hgz : Gl X "zip") (hmz : X.mg "zip" = none) (ha : PA X [e, e2] ta)
    (hs : starEach [e, e2] X.env = (false, eval e X.env) :: starEach [e2] X.env := by rfl) (hpl : (backTo pos2 (starEach [e2] X.env)).any (·.1) = false := by rfl)
    (hso : starEach [.Call (.Name "zip" p2) [e, e2] [] pos2] X.env = [(false, eval (.Call (.Name "zip" p2) [e, e2] [] pos2) X.env)] := by rfl) (hK : X.K = K := by rfl) :
    PI X (.Tuple elts kk tpos) (.Call (.Name "enumerate" p) [.Call (.Name "zip" p2) [e, e2] [] pos2] [] pos) (iEz u1 u2 K ta) := by
  subst hK
  refine ⟨fun pins s σ H R I h => ?_⟩
  refine Call_ (ld_blt I hg hm boot_enumerate (PyProof.Rows.callWith_type1 ?_ hso rfl))
  rw [hso]
  show wpAny _ _ (spliced [(false, eval (.Call (.Name "zip" p2) [e, e2] [] pos2) X.env)]) _ _ s
  refine Calls.spliced_cons (Call_ (ld_blt I hgz hmz PyProof.Rows.boot_zip (PyProof.Rows.callWith_type1 (thn (ha.run pos2 pins s σ H _ I h) fun us s1 ⟨vs, H1, I1, r1, q1⟩ => ?_) hs hpl)))
  obtain ⟨a, b, xs, ys, rfl, hqx, hqy, q⟩ := q1
  cases r1 with
  | cons r rr =>
    cases rr with
    | cons r' rr =>
      cases rr
      cases r
      cases r'
      obtain ⟨its, rv, p1, lt1⟩ := inv_half I1 hqx
      obtain ⟨its2, rv2, p2', lt2⟩ := inv_half I1 hqy
      refine zh_call p1 p2' fun g zz pi po w1 w2 hk => Calls.spliced_nil ?_
      have I2 : Inv X pins σ H1 { s1 with heap := g } := I1.kept (t' := s1.toks) hk
      refine call_enum_zip (s := { s1 with heap := g }) zz fun g3 he hk3 => wpAny_pyIter_enum he ?_
      have I3 : Inv X pins σ H1 { s1 with heap := g3 } := I2.kept (t' := s1.toks) hk3
      have ge : s1.heap.objs.size + 4 < g.objs.size := Heap.lt_size zz
      have new6 : ∀ c, c ∈ [g.objs.size, s1.heap.objs.size + 4, s1.heap.objs.size + 2, s1.heap.objs.size + 3, s1.heap.objs.size, s1.heap.objs.size + 1] → FpOk X pins H1 c := fun c hcm => by
        have le : s1.heap.objs.size ≤ c := by
          simp only [List.mem_cons, List.not_mem_nil, or_false] at hcm
          rcases hcm with z | z | z | z | z | z <;> rw [z] <;> first | exact Nat.le_refl _ | exact Nat.le_add_right _ _ | exact Nat.le_of_lt (Nat.lt_of_le_of_lt (Nat.le_add_right _ _) ge)
        exact I1.fpOk le (I1.hok.fresh le)
      refine ⟨g.objs.size, [g.objs.size, s1.heap.objs.size + 4, s1.heap.objs.size + 2, s1.heap.objs.size + 3, s1.heap.objs.size, s1.heap.objs.size + 1], _, _, H1, rfl, I3, turn_ez (PySem.W.ktu_apart s1.heap.objs.size a b lt1 lt2) ?_ ?_ ?_ ?_ ?_, ⟨⟨_, he⟩, .inl (hk3 _ _ zz), hk3 _ _ pi, ⟨_, _, hk3 _ _ po⟩, w1.to fun o z => hk3 _ _ z, w2.to fun o z => hk3 _ _ z⟩, new6, q⟩
      all_goals refine Nat.ne_of_gt (Nat.lt_of_le_of_lt ?_ ge)
      · exact Nat.le_refl _
      · exact Nat.add_le_add_left (by decide) _
      · exact Nat.add_le_add_left (by decide) _
      · exact Nat.le_add_right _ _
      · exact Nat.add_le_add_left (by decide) _
def YEz (xs ys : Nat → Option V) : Nat → Hp → V → Hp → Prop := fun i H v H' => ∃ T U x y, v = .ref U ∧ H T = none ∧ H U = none ∧ T ≠ U ∧ H' = upd (upd H T (.tup [x, y])) U (.tup [.int (i : Nat), .ref T]) ∧ xs i = some x ∧ ys i = some y
theorem walk_ez {u1 u2 : Bool} {a b : Addr} {xs ys : List V} {n : Nat} (hn : n = min xs.length ys.length) : Walk (Itez u1 u2 K a b) n (fun H => SqH u1 K H a xs ∧ SqH u2 K H b ys) (YEz (fun i => xs[i]?) (fun i => ys[i]?)) := by
  subst hn
  refine ⟨fun i H hi q => ⟨xs, ys, xs[i]'(by omega), ys[i]'(by omega), q.1, q.2, List.getElem?_eq_getElem _, List.getElem?_eq_getElem _⟩, fun H q => ⟨xs, ys, q.1, q.2, by omega⟩, fun i H v H' hi q y => ?_⟩
  obtain ⟨T, U, x, z, h1, h2, h3, h4, h5, h6, h7⟩ := y
  exact ⟨T, U, x, z, h1, h2, h3, h4, h5, h6 xs q.1, h7 ys q.2⟩
end
end RL
/-! list(enumerate(t)); the least of a list of numbers; xs[i] += e. -/
namespace RL
open PySem PySem.Spec PyProof.Rows L2
theorem enu_no_len : typeLookup (.type "enumerate") "__len__" = pure none := am_miss_of_fast (by decide +kernel)
theorem enu_no_hint : typeLookup (.type "enumerate") "__length_hint__" = pure none := am_miss_of_fast (by decide +kernel)
/-- an enumerate: it gave no pair out yet, or the one that it gave out is still there -/
def EAny (h : Heap) (e m : Addr) (i : Int) : Prop := (∃ x, IsEnum h e m i x) ∨ ∃ (x : Value) (T : Addr) (f : Bool) (o : Obj), IsEnumHeld h e m i x T f ∧ h.get? T = some o ∧ T ≠ e ∧ T ≠ m
theorem EAny.ex {h : Heap} {e m : Addr} {i : Int} (z : EAny h e m i) : ∃ own fl x, h.get? e = some { cls := .type "enumerate", dict := none, data := .fields #[own, .bool fl, .ref m, rawInt i, .none, x], slots := #[] } := by
  rcases z with ⟨x, z⟩ | ⟨x, T, f, o, z, _⟩
  · exact ⟨_, _, _, z⟩
  · exact ⟨_, _, _, z⟩
section
variable {prog : Program} {w : World} {A : Around} {E : Value → Shared → Prop} {s : Shared}
theorem en_item {e m d : Addr} {u : Bool} {i : Nat} {vs : Array Value} {x : Value} {Q : Value → Shared → Prop} (em : e ≠ m) (z : EAny s.heap e m ((i : Nat) : Int)) (w1 : hIt u s.heap m d i) (s1 : hSq u s.heap d vs) (hx : vs[i]? = some x)
    (hq : ∀ g, EAny g e m (((i + 1 : Nat)) : Int) → hIt u g m d (i + 1) → IsPair g s.heap.objs.size (.int i s.toks) x → (∀ c o, c ≠ e → c ≠ m → s.heap.get? c = some o → g.get? c = some o) → Q (.ref s.heap.objs.size) { s with heap := g, toks := s.toks + 1 }) :
    wpAny (model prog w) A (Builtin.«enumerate.__next__» ⟨[.ref e], []⟩) (fun f s' => ∃ v, f = .done (.ret v) ∧ Q v s') E s := by
  obtain ⟨hp, gg, dr, tk, os⟩ := s
  have cast1 : (((i + 1 : Nat)) : Int) = ((i : Nat) : Int) + 1 := rfl
  have ml : m < hp.objs.size := w1.small
  have el : e < hp.objs.size := by
    obtain ⟨own, fl, y, q⟩ := z.ex
    exact Heap.lt_size q
  have nm : hp.objs.size ≠ m := Nat.ne_of_gt ml
  have nE : hp.objs.size ≠ e := Nat.ne_of_gt el
  rcases z with ⟨old, he⟩ | ⟨old, T, fl, oT, he, hT, Te, Tm⟩
  · show wpAny _ _ (field (.ref e) 2 >>= _) _ _ _
    refine wpAny_bind (wpAny_field he rfl (x := .ref m) rfl ?_)
    refine wpAny_bind (half_item w1 s1 hx fun g1 v1 b1 => ?_)
    replace b1 : Heap.SameBut m hp g1 := b1
    have E1 : IsEnum g1 e m ((i : Nat) : Int) old := (b1.2 e em).trans he
    show wpAny _ _ (field (.ref e) 3 >>= _) _ _ ⟨g1, gg, dr, tk, os⟩
    refine wpAny_bind (wpAny_field E1 rfl (x := rawInt ((i : Nat) : Int)) rfl ?_)
    show wpAny _ _ (field (.ref e) 4 >>= _) _ _ ⟨g1, gg, dr, tk, os⟩
    refine wpAny_bind (wpAny_field E1 rfl (x := .none) rfl ?_)
    show wpAny _ _ (mkInt ((i : Nat) : Int) >>= _) _ _ ⟨g1, gg, dr, tk, os⟩
    refine wpAny_bind (wpAny_mkInt ?_)
    show wpAny _ _ (setField (.ref e) 3 (rawInt (((i : Nat) : Int) + 1)) >>= _) _ _ ⟨g1, gg, dr, tk + 1, os⟩
    refine wpAny_bind (wpAny_setField_rec E1 (by simp) fun g2 E2 b2 => ?_)
    replace E2 : IsEnum g2 e m (((i : Nat) : Int) + 1) old := E2
    replace b2 : Heap.SameBut e g1 g2 := b2
    show wpAny _ _ (setField (.ref e) 4 .none >>= _) _ _ ⟨g2, gg, dr, tk + 1, os⟩
    refine wpAny_bind (wpAny_setField_rec E2 (by simp) fun g3 E3 b3 => ?_)
    replace E3 : IsEnum g3 e m (((i : Nat) : Int) + 1) old := E3
    replace b3 : Heap.SameBut e g2 g3 := b3
    show wpAny _ _ (newTuple [.int i tk, x] >>= _) _ _ ⟨g3, gg, dr, tk + 1, os⟩
    refine wpAny_bind (wpAny_newTuple ?_)
    have sz3 : g3.objs.size = hp.objs.size := by rw [b3.1, b2.1, b1.1]
    have E4 : IsEnum (g3.push { cls := .type "tuple", data := .seq #[.int i tk, x] }) e m (((i : Nat) : Int) + 1) old := Heap.get?_push_of_some _ E3
    have t4 : IsPair (g3.push { cls := .type "tuple", data := .seq #[.int i tk, x] }) hp.objs.size (.int i tk) x := by
      rw [← sz3]
      exact Heap.get?_push_size _ rfl
    have up4 : ∀ c o, c ≠ e → g1.get? c = some o → (g3.push { cls := .type "tuple", data := .seq #[.int i tk, x] }).get? c = some o := fun c o c1 y => Heap.get?_push_of_some _ (b3.extBut _ _ c1 (b2.extBut _ _ c1 y))
    generalize g3.push { cls := .type "tuple", data := .seq #[.int i tk, x] } = g4 at E4 t4 up4
    show wpAny _ _ (Builtin.SmallTypes.ownedTupleIsFree (.ref e) >>= _) _ _ ⟨g4, gg, dr, tk + 1, os⟩
    rw [sz3]
    refine wpAny_bind ?_
    unfold Builtin.SmallTypes.ownedTupleIsFree
    refine wpAny_bind (wpAny_field E4 rfl (x := .none) rfl (wpAny_pure ?_))
    simp only [if_true]
    refine wpAny_bind (wpAny_rule (wpAny_bind (wpAny_field E4 rfl (x := old) rfl (wpAny_bind (wpAny_setField_rec E4 (by simp) fun g5 E5 b5 => ?_)))))
    replace E5 : IsEnum g5 e m (((i : Nat) : Int) + 1) x := E5
    replace b5 : Heap.SameBut e g4 g5 := b5
    show wpAny _ _ (Builtin.SmallTypes.ownedTupleHandOut (.ref e) (.ref hp.objs.size) >>= _) _ _ ⟨g5, gg, dr, tk + 1, os⟩
    refine wpAny_bind ?_
    unfold Builtin.SmallTypes.ownedTupleHandOut
    refine wpAny_bind (wpAny_setField_rec E5 (by simp) fun g6 E6 b6 => ?_)
    replace E6 : IsEnumOut g6 e m (((i : Nat) : Int) + 1) x hp.objs.size := E6
    replace b6 : Heap.SameBut e g5 g6 := b6
    refine wpAny_setField_rec E6 (by simp) fun g7 E7 b7 => ?_
    replace E7 : IsEnumOut g7 e m (((i : Nat) : Int) + 1) x hp.objs.size := E7
    replace b7 : Heap.SameBut e g6 g7 := b7
    have up7 : ∀ c o, c ≠ e → g4.get? c = some o → g7.get? c = some o := fun c o c1 y => b7.extBut _ _ c1 (b6.extBut _ _ c1 (b5.extBut _ _ c1 y))
    have up : ∀ c o, c ≠ e → g1.get? c = some o → g7.get? c = some o := fun c o c1 y => up7 c o c1 (up4 c o c1 y)
    have t7 := up7 _ _ nE t4
    refine wpAny_bind (wpAny_letGo (wpAny_pure ⟨_, rfl, hq g7 (.inr ⟨x, hp.objs.size, false, _, E7, t7, nE, nm⟩) (v1.to fun o y => up _ o em.symm y) t7 fun c o c0 c1 y => up c o c0 (b1.extBut _ _ c1 y)⟩))
  · show wpAny _ _ (field (.ref e) 2 >>= _) _ _ _
    refine wpAny_bind (wpAny_field he rfl (x := .ref m) rfl ?_)
    refine wpAny_bind (half_item w1 s1 hx fun g1 v1 b1 => ?_)
    replace b1 : Heap.SameBut m hp g1 := b1
    have E1 : IsEnumHeld g1 e m ((i : Nat) : Int) old T fl := (b1.2 e em).trans he
    show wpAny _ _ (field (.ref e) 3 >>= _) _ _ ⟨g1, gg, dr, tk, os⟩
    refine wpAny_bind (wpAny_field E1 rfl (x := rawInt ((i : Nat) : Int)) rfl ?_)
    show wpAny _ _ (field (.ref e) 4 >>= _) _ _ ⟨g1, gg, dr, tk, os⟩
    refine wpAny_bind (wpAny_field E1 rfl (x := .none) rfl ?_)
    show wpAny _ _ (mkInt ((i : Nat) : Int) >>= _) _ _ ⟨g1, gg, dr, tk, os⟩
    refine wpAny_bind (wpAny_mkInt ?_)
    show wpAny _ _ (setField (.ref e) 3 (rawInt (((i : Nat) : Int) + 1)) >>= _) _ _ ⟨g1, gg, dr, tk + 1, os⟩
    refine wpAny_bind (wpAny_setField_rec E1 (by simp) fun g2 E2 b2 => ?_)
    replace E2 : IsEnumHeld g2 e m (((i : Nat) : Int) + 1) old T fl := E2
    replace b2 : Heap.SameBut e g1 g2 := b2
    show wpAny _ _ (setField (.ref e) 4 .none >>= _) _ _ ⟨g2, gg, dr, tk + 1, os⟩
    refine wpAny_bind (wpAny_setField_rec E2 (by simp) fun g3 E3 b3 => ?_)
    replace E3 : IsEnumHeld g3 e m (((i : Nat) : Int) + 1) old T fl := E3
    replace b3 : Heap.SameBut e g2 g3 := b3
    show wpAny _ _ (newTuple [.int i tk, x] >>= _) _ _ ⟨g3, gg, dr, tk + 1, os⟩
    refine wpAny_bind (wpAny_newTuple ?_)
    have sz3 : g3.objs.size = hp.objs.size := by rw [b3.1, b2.1, b1.1]
    have E4 : IsEnumHeld (g3.push { cls := .type "tuple", data := .seq #[.int i tk, x] }) e m (((i : Nat) : Int) + 1) old T fl := Heap.get?_push_of_some _ E3
    have t4 : IsPair (g3.push { cls := .type "tuple", data := .seq #[.int i tk, x] }) hp.objs.size (.int i tk) x := by
      rw [← sz3]
      exact Heap.get?_push_size _ rfl
    have up4 : ∀ c o, c ≠ e → g1.get? c = some o → (g3.push { cls := .type "tuple", data := .seq #[.int i tk, x] }).get? c = some o := fun c o c1 y => Heap.get?_push_of_some _ (b3.extBut _ _ c1 (b2.extBut _ _ c1 y))
    generalize g3.push { cls := .type "tuple", data := .seq #[.int i tk, x] } = g4 at E4 t4 up4
    show wpAny _ _ (Builtin.SmallTypes.ownedTupleIsFree (.ref e) >>= _) _ _ ⟨g4, gg, dr, tk + 1, os⟩
    rw [sz3]
    have T4 := up4 T oT Te (b1.extBut _ _ Tm hT)
    refine wpAny_bind (wpAny_tupleHeld_enum (s := ⟨g4, gg, dr, tk + 1, os⟩) E4 T4 fun g5 E5 b5 => ?_)
    replace b5 : Heap.SameBut e g4 g5 := b5
    replace E5 : IsEnumHeld g5 e m (((i : Nat) : Int) + 1) old T true := E5
    simp only [Bool.false_eq_true, if_false]
    have up : ∀ c o, c ≠ e → g1.get? c = some o → g5.get? c = some o := fun c o c1 y => b5.extBut _ _ c1 (up4 c o c1 y)
    exact wpAny_pure ⟨_, rfl, hq g5 (.inr ⟨old, T, true, oT, E5, b5.extBut _ _ Te T4, Te, Tm⟩) (v1.to fun o y => up _ o em.symm y) (b5.extBut _ _ nE t4) fun c o c0 c1 y => up c o c0 (b1.extBut _ _ c1 y)⟩
theorem en_next {e m d : Addr} {u : Bool} {i : Nat} {vs : Array Value} {x : Value} {Q : Option Value → Shared → Prop} (em : e ≠ m) (z : EAny s.heap e m ((i : Nat) : Int)) (w1 : hIt u s.heap m d i) (s1 : hSq u s.heap d vs) (hx : vs[i]? = some x)
    (hq : ∀ g, EAny g e m (((i + 1 : Nat)) : Int) → hIt u g m d (i + 1) → IsPair g s.heap.objs.size (.int i s.toks) x → (∀ c o, c ≠ e → c ≠ m → s.heap.get? c = some o → g.get? c = some o) → Q (some (.ref s.heap.objs.size)) { s with heap := g, toks := s.toks + 1 }) :
    wpAny (model prog w) A (pyNext (.ref e)) Q E s := by
  obtain ⟨own, fl, y, q⟩ := z.ex
  have te : s.TypeIs (.ref e) "enumerate" := ⟨_, q, rfl⟩
  unfold pyNext
  exact wpAny_bind (wpAny_attempt (wpAny_callSpecial?_slot (name := Str.ofString "__next__") te F.slot_enumerate_next (wpAny_call_entry F.slot_enumerate_next te F.entry_enumerate_next
    (en_item em z w1 s1 hx fun g a1 a2 a3 a4 => wpAny_pure (hq g a1 a2 a3 a4)) (F.args_enumerate_next_1 _))))
theorem en_stop {e m d : Addr} {u : Bool} {i : Nat} {vs : Array Value} {Q : Option Value → Shared → Prop} (hh : A.handled = none) (z : EAny s.heap e m ((i : Nat) : Int)) (w1 : hIt u s.heap m d i) (s1 : hSq u s.heap d vs) (hx : vs[i]? = none)
    (hq : ∀ g, (∀ c o, c ≠ m → s.heap.get? c = some o → g.get? c = some o) → Q none { s with heap := g }) : wpAny (model prog w) A (pyNext (.ref e)) Q E s := by
  obtain ⟨own, fl, y, q⟩ := z.ex
  have te : s.TypeIs (.ref e) "enumerate" := ⟨_, q, rfl⟩
  unfold pyNext
  refine wpAny_bind (wpAny_attempt (wpAny_callSpecial?_slot (name := Str.ofString "__next__") te F.slot_enumerate_next (wpAny_call_entry F.slot_enumerate_next te F.entry_enumerate_next ?_ (F.args_enumerate_next_1 _))))
  show wpAny _ _ (field (.ref e) 2 >>= _) _ _ _
  refine wpAny_bind (wpAny_field q rfl (x := .ref m) rfl ?_)
  refine wpAny_bind (half_end hh w1 s1 hx fun g x b ⟨o, ho, hc⟩ => ?_)
  exact wpAny_bind (wpAny_isInstance (T := "StopIteration") (b := true) ⟨o, ho, hc⟩ isSubtype_stop (wpAny_pure (hq _ b)))
/-- what the list holds so far -/
def EItems (h h0 : Heap) (S e m : Addr) (vs acc : Array Value) : Prop := ∀ (j : Nat) (v : Value), acc[j]? = some v → ∃ (T : Addr) (t : Tok) (x : Value), v = .ref T ∧ IsPair h T (.int (j : Nat) t) x ∧ vs[j]? = some x ∧ h0.objs.size ≤ T ∧ T ≠ S ∧ T ≠ e ∧ T ≠ m
theorem EItems.to {h g h0 : Heap} {S e m : Addr} {vs acc : Array Value} (x : EItems h h0 S e m vs acc) (k : ∀ c o, c ≠ S → c ≠ e → c ≠ m → h.get? c = some o → g.get? c = some o) : EItems g h0 S e m vs acc := fun j v hv => by
  obtain ⟨T, t, y, e1, e2, e3, e4, e5, e6, e7⟩ := x j v hv
  exact ⟨T, t, y, e1, k _ _ e5 e6 e7 e2, e3, e4, e5, e6, e7⟩
/-- all pairs that were given out are apart -/
def EApart (acc : Array Value) : Prop := ∀ (i j : Nat) (T : Addr), acc[i]? = some (.ref T) → acc[j]? = some (.ref T) → i = j
theorem en_loop {R : Result → Shared → Prop} {e m d S : Addr} {u : Bool} {vs : Array Value} {h0 : Heap} (hh : A.handled = none) (em : e ≠ m) (dm : d ≠ m) (de : d ≠ e) (Se : S ≠ e) (Sm : S ≠ m) (Sd : d ≠ S) (hn : vs.size ≤ 1000) (res : Value) :
    ∀ (k i : Nat) (s : Shared) (acc : Array Value) (c : Nat), i + k = vs.size → EAny s.heap e m ((i : Nat) : Int) → hIt u s.heap m d i → hSq u s.heap d vs → s.heap.get? S = some { cls := .type "list", dict := none, data := .seq acc c, slots := #[] } → acc.size = i → EItems s.heap h0 S e m vs acc → EApart acc → h0.objs.size ≤ s.heap.objs.size →
    (∀ b o, b ≠ S → b ≠ e → b ≠ m → h0.get? b = some o → s.heap.get? b = some o) →
    (∀ (g : Heap) (tk : Nat) (acc' : Array Value) (c' : Nat), (∀ b o, b ≠ S → b ≠ e → b ≠ m → h0.get? b = some o → g.get? b = some o) → g.get? S = some { cls := .type "list", dict := none, data := .seq acc' c', slots := #[] } → acc'.size = vs.size → EItems g h0 S e m vs acc' → EApart acc' → R (.ok (.ret res)) { s with heap := g, toks := tk }) →
    codeAny (model prog w) A (.builtin "list.extend.loop" ⟨[.ref S, .ref e, res], []⟩) R s
  | 0, i, s, acc, c, hk, z, w1, s1, hS, la, it, ap, hsz, old, hR => by
    refine codeAny_builtin F.entry_extend_loop ?_
    rw [Around.under_plainId F.plain_extend_loop _]
    show wpAny _ A.in1 (pyNext (.ref e) >>= _) _ _ s
    refine wpAny_bind (en_stop (A := A.in1) hh z w1 s1 (by simp; omega) fun g kg => ?_)
    exact wpAny_pure (hR g s.toks acc c (fun b o b1 b2 b3 q => kg b o b3 (old b o b1 b2 b3 q)) (kg _ _ Sm hS) (by omega) (it.to fun c o _ _ c3 q => kg c o c3 q) ap)
  | k + 1, i, s, acc, c, hk, z, w1, s1, hS, la, it, ap, hsz, old, hR => by
    have hi : i < vs.size := by omega
    have hx : vs[i]? = some vs[i] := Array.getElem?_eq_getElem hi
    generalize vs[i] = x at hx
    refine codeAny_builtin F.entry_extend_loop ?_
    rw [Around.under_plainId F.plain_extend_loop _]
    show wpAny _ A.in1 (pyNext (.ref e) >>= _) _ _ s
    refine wpAny_bind (en_next em z w1 s1 hx fun g z1 v1 t1 kg => ?_)
    have hS1 := kg _ _ Se Sm hS
    have Sl : S < s.heap.objs.size := Heap.lt_size hS
    have el : e < s.heap.objs.size := by
      obtain ⟨own, fl, y, q⟩ := z.ex
      exact Heap.lt_size q
    have ml := w1.small
    have nS : s.heap.objs.size ≠ S := Nat.ne_of_gt Sl
    show wpAny _ A.in1 (updateSeq S (·.push (.ref s.heap.objs.size)) >>= _) _ _ _
    refine wpAny_bind ?_
    have up : ∀ b o, b ≠ S → g.get? b = some o → (g.update S (Obj.mapSeq (·.push (Value.ref s.heap.objs.size)))).get? b = some o := fun b o hb q => (Heap.get?_update_other _ _ (Ne.symm hb)).trans q
    have szg : s.heap.objs.size < g.objs.size := Heap.lt_size t1
    have hn' : vs.size ≤ sizeLine := Nat.le_trans hn (by decide)
    refine wpAny_updateSeq hS1 rfl (wpAny_pure ⟨plainId_quiet F.plain_extend_loop _, en_loop (u := u) hh em dm de Se Sm Sd hn res k (i + 1) _ (acc.push (.ref s.heap.objs.size)) _ (by omega) ?_ ?_ ?_ (Heap.get?_update_self _ hS1 rfl) (by rw [Array.size_push, la]) ?_ ?_ ?_ ?_ fun g' tk acc' c' a1 a2 a3 a4 a5 => hR g' tk acc' c' a1 a2 a3 a4 a5⟩) (by rw [la]; omega) (by show (acc.push _).size ≤ sizeLine + 1; rw [Array.size_push, la]; omega)
    · rcases z1 with ⟨y, q⟩ | ⟨y, T, f, o, q, q1, q2, q3⟩
      · exact .inl ⟨y, up _ _ Se.symm q⟩
      · by_cases TS : T = S
        · exact .inr ⟨y, T, f, _, up _ _ Se.symm q, by rw [TS]; exact Heap.get?_update_self _ hS1 rfl, q2, q3⟩
        · exact .inr ⟨y, T, f, o, up _ _ Se.symm q, up _ _ TS q1, q2, q3⟩
    · exact v1.to fun o q => up _ o Sm.symm q
    · have s2 : hSq u g d vs := by
        cases u with
        | true =>
          obtain ⟨o, q, r⟩ := s1
          exact ⟨o, kg _ _ de dm q, r⟩
        | false =>
          obtain ⟨o, q, r⟩ := s1
          exact ⟨o, kg _ _ de dm q, r⟩
      cases u with
      | true =>
        obtain ⟨o, q, r⟩ := s2
        exact ⟨o, up _ _ Sd q, r⟩
      | false =>
        obtain ⟨o, q, r⟩ := s2
        exact ⟨o, up _ _ Sd q, r⟩
    · have it2 : EItems (g.update S (Obj.mapSeq (·.push (Value.ref s.heap.objs.size)))) h0 S e m vs acc := it.to fun c o c1 c2 c3 q => up c o c1 (kg c o c2 c3 q)
      intro j v hv
      rw [Array.getElem?_push] at hv
      split at hv
      · rename_i ej
        cases hv
        exact ⟨s.heap.objs.size, s.toks, x, rfl, by rw [ej, la]; exact up _ _ nS t1, by rw [ej, la]; exact hx, hsz, nS, Nat.ne_of_gt el, Nat.ne_of_gt ml⟩
      · exact it2 j v hv
    · have old1 : ∀ (j : Nat) (T : Addr), acc[j]? = some (.ref T) → T ≠ s.heap.objs.size := fun j T hj => by
        obtain ⟨T', t, y, e1, e2, _⟩ := it j _ hj
        cases e1
        exact Nat.ne_of_lt (Heap.lt_size e2)
      intro a b T ha hb
      rw [Array.getElem?_push] at ha hb
      split at ha
      · split at hb
        · omega
        · cases ha
          exact absurd rfl (old1 b _ hb)
      · split at hb
        · cases hb
          exact absurd rfl (old1 a _ ha)
        · exact ap a b T ha hb
    · show h0.objs.size ≤ (g.update S _).objs.size
      rw [Heap.size_update]
      exact Nat.le_trans hsz (Nat.le_of_lt szg)
    · exact fun b o b1 b2 b3 q => up b o b1 (kg b o b2 b3 (old b o b1 b2 b3 q))
end
end RL
/-! list(enumerate(t)), as an expression's rule; the least of a list of numbers; xs[i] += e. -/
namespace RL
open PySem PySem.Spec PyProof.Rows L2
section
variable {prog : Program} {w : World} {A : Around} {E : Value → Shared → Prop} {s : Shared}
theorem en_list {Q : Value → Shared → Prop} {e m d : Addr} {u : Bool} {vs : Array Value} {x0 : Value} (hh : A.handled = none) (em : e ≠ m) (dm : d ≠ m) (de : d ≠ e) (hn : vs.size ≤ 1000) (z : IsEnum s.heap e m 0 x0) (w1 : hIt u s.heap m d 0) (s1 : hSq u s.heap d vs) (dl : d < s.heap.objs.size)
    (hq : ∀ (g : Heap) (tk : Nat) (acc : Array Value) (c : Nat), (∀ b o, b ≠ e → b ≠ m → s.heap.get? b = some o → g.get? b = some o) → g.get? s.heap.objs.size = some { cls := .type "list", dict := none, data := .seq acc c, slots := #[] } → acc.size = vs.size → EItems g s.heap s.heap.objs.size e m vs acc → EApart acc → Q (.ref s.heap.objs.size) { s with heap := g, toks := tk }) :
    wpAny (model prog w) A (call (.type "list") [.ref e]) Q E s := by
  refine callType_codes (Q₁ := fun ob s2 => ob = .ref s.heap.objs.size ∧ s2 = { s with heap := s.heap.push { cls := .type "list", data := .seq #[] } }) F.called_list (F.typeCall_list_1 _) F.entry_list_init (code_list_new _ ⟨rfl, rfl⟩) fun ob s2 q2 => ?_
  obtain ⟨rfl, rfl⟩ := q2
  have hS : (s.heap.push { cls := .type "list", data := .seq #[] }).get? s.heap.objs.size = some { cls := .type "list", data := .seq #[] } := Heap.get?_push_size _ rfl
  have Se : s.heap.objs.size ≠ e := Nat.ne_of_gt (Heap.lt_size z)
  have Sm : s.heap.objs.size ≠ m := Nat.ne_of_gt w1.small
  have Sd : d ≠ s.heap.objs.size := Nat.ne_of_lt dl
  have sz : (s.heap.push { cls := .type "list", data := .seq #[] }).objs.size = s.heap.objs.size + 1 := Heap.size_push ..
  refine ⟨⟨_, hS, rfl⟩, F.args_list_init_2 _ _, ?_⟩
  generalize hS0 : s.heap.objs.size = S at hS Se Sm Sd sz hq ⊢
  have old0 : ∀ b o, b ≠ S → s.heap.get? b = some o → (s.heap.push { cls := .type "list", data := .seq #[] }).get? b = some o := fun b o _ q => Heap.get?_push_of_some _ q
  generalize s.heap.push { cls := .type "list", data := .seq #[] } = h1 at hS sz old0 ⊢
  show wpAny _ _ (do let its ← Builtin.List.listItems (.ref S); Builtin.List.listUpdate (.ref S) (fun _ => #[]); letGo its.toList.reverse; Builtin.List.listExtendWith (.ref S) (.ref e) .none) _ _ { s with heap := h1 }
  refine wpAny_bind ?_
  unfold Builtin.List.listItems
  refine wpAny_bind (wpAny_seqItems hS rfl (wpAny_pure ?_))
  show wpAny _ _ (updateSeq S (fun _ => #[]) >>= fun _ => letGo (#[] : Array Value).toList.reverse >>= fun _ => Builtin.List.listExtendWith (.ref S) (.ref e) .none) _ _ { s with heap := h1 }
  refine wpAny_bind (wpAny_updateSeq hS rfl ?_)
  have hS2 := Heap.get?_update_self (Obj.mapSeq (fun _ => (#[] : Array Value))) hS rfl
  have old2 : ∀ b o, b ≠ S → s.heap.get? b = some o → (h1.update S (Obj.mapSeq (fun _ => (#[] : Array Value)))).get? b = some o := fun b o b1 q => (Heap.get?_update_other _ _ (Ne.symm b1)).trans (old0 b o b1 q)
  have sz2 : (h1.update S (Obj.mapSeq (fun _ => (#[] : Array Value)))).objs.size = S + 1 := by rw [Heap.size_update, sz]
  refine wpAny_bind (wpAny_letGo ?_)
  show wpAny _ _ _ _ _ { s with heap := h1.update S (Obj.mapSeq (fun _ => (#[] : Array Value))) }
  generalize h1.update S (Obj.mapSeq (fun _ => (#[] : Array Value))) = h2 at hS2 old2 sz2 ⊢
  have z2 : IsEnum h2 e m 0 x0 := old2 _ _ Se.symm z
  have ty2 : ({ s with heap := h2 } : Shared).TypeIs (.ref e) "enumerate" := ⟨_, z2, rfl⟩
  unfold Builtin.List.listExtendWith
  refine wpAny_bind (wpAny_typeOf ty2 ?_)
  have c1 : Builtin.List.listSameRef (.ref S) (.ref e) = false := by simp [Builtin.List.listSameRef, Se]
  have c2 : (Value.type "enumerate" == Value.type "list") = false := by decide
  have c3 : (Value.type "enumerate" == Value.type "tuple") = false := by decide
  simp only [c1, c2, c3, Bool.or_false, Bool.false_eq_true, if_false]
  refine wpAny_bind (wpAny_pyIter_enum z2 ?_)
  refine wpAny_bind (wpAny_holding ?_)
  unfold Builtin.List.listLengthHint
  refine wpAny_bind (wpAny_specialOf ty2 enu_no_len ?_)
  show wpAny _ _ (specialOf (Value.ref e) (Str.ofString "__length_hint__") >>= _) _ _ _
  refine wpAny_bind (wpAny_specialOf ty2 enu_no_hint (wpAny_pure ?_))
  show wpAny _ _ (rule "list.extend.makes-room" >>= fun _ => Builtin.List.listTouch (.ref S) >>= fun _ => again (.builtin "list.extend.loop" ⟨[.ref S, .ref e, .none], []⟩)) _ _ _
  refine wpAny_bind (wpAny_rule (wpAny_bind ?_))
  show wpAny _ _ (updateSeq S (·.push .none) >>= fun _ => updateSeq S (·.pop)) _ _ _
  refine wpAny_bind (wpAny_updateSeq hS2 rfl ?_)
  have hS3 := Heap.get?_update_self (Obj.mapSeq (·.push Value.none)) hS2 rfl
  refine wpAny_updateSeq (hz := by seq_fits) hS3 rfl ?_
  have hS4 := Heap.get?_update_self (Obj.mapSeq (·.pop)) hS3 rfl
  have old4 : ∀ b o, b ≠ S → s.heap.get? b = some o → ((h2.update S (Obj.mapSeq (·.push Value.none))).update S (Obj.mapSeq (·.pop))).get? b = some o := fun b o b1 q => (Heap.get?_update_other _ _ (Ne.symm b1)).trans ((Heap.get?_update_other _ _ (Ne.symm b1)).trans (old2 b o b1 q))
  have sz4 : ((h2.update S (Obj.mapSeq (·.push Value.none))).update S (Obj.mapSeq (·.pop))).objs.size = S + 1 := by rw [Heap.size_update, Heap.size_update, sz2]
  refine wpAny_pure ⟨plainId_quiet F.plain_extend_loop _, en_loop (u := u) (d := d) (vs := vs) (h0 := s.heap) (A := A.in1) hh em dm de Se Sm Sd hn .none vs.size 0 _ #[] _ (Nat.zero_add _) (.inl ⟨x0, old4 _ _ Se.symm z⟩) (w1.to fun o q => old4 _ o Sm.symm q) ?_ hS4 rfl (fun j v hv => by simp at hv) (fun i j T hi => by simp at hi) (by rw [hS0]; show S ≤ _; rw [sz4]; exact Nat.le_succ _) (fun b o b1 _ _ q => old4 b o b1 q) fun g tk acc c a1 a2 a3 a4 a5 => ?_⟩
  · cases u with
    | true =>
      obtain ⟨o, q, r⟩ := s1
      exact ⟨o, old4 _ _ Sd q, r⟩
    | false =>
      obtain ⟨o, q, r⟩ := s1
      exact ⟨o, old4 _ _ Sd q, r⟩
  · refine ⟨rfl, hq g tk acc c (fun b o b2 b3 q => a1 b o (fun y => ?_) b2 b3 q) a2 a3 a4 a5⟩
    have := Heap.lt_size q
    rw [y, hS0] at this
    exact Nat.lt_irrefl _ this
end
section
variable {X : Cx} {K : PySem.W.Frag}
/-- several new objects are laid at once -/
theorem lay_many {pins : List (Addr × Obj)} {σ : L2.St} {h' : Heap} {t' : Nat} : ∀ (L : List (Addr × HO)) {H : Hp} {s : Shared}, Inv X pins σ H s → (∀ b o, s.heap.get? b = some o → h'.get? b = some o) → (∀ q ∈ L, s.heap.get? q.1 = none ∧ H q.1 = none) → (L.map (·.1)).Nodup →
    (∀ q ∈ L, ∀ (H' : Hp) (G : Heap), G.get? q.1 = h'.get? q.1 → ObjOk X.prog X.w H' G q.1 q.2) → Inv X pins σ (L.foldl (fun H q => upd H q.1 q.2) H) { s with heap := h', toks := t' }
  | [], H, s, I, k, _, _, _ => I.kept k
  | q :: L, H, s, I, k, f, nd, ok => by
    obtain ⟨G, g1, g2⟩ := restrict h' fun b => (s.heap.get? b).isSome || decide (b = q.1)
    have nd' := List.nodup_cons.mp nd
    have f0 := f q (by simp)
    have gq : G.get? q.1 = h'.get? q.1 := g1 _ (by simp)
    have I1 : Inv X pins σ (upd H q.1 q.2) { s with heap := G, toks := t' } := I.laidN (fun b o e => by rw [g1 b (by rw [e]; rfl)]; exact k b o e) f0.1 f0.2 (ok q (by simp) _ _ gq)
    refine lay_many L (s := { s with heap := G, toks := t' }) I1 (fun b o e => ?_) (fun r hr => ?_) nd'.2 fun r hr H' G' e => ok r (by simp [hr]) H' G' e
    · by_cases hb : ((s.heap.get? b).isSome || decide (b = q.1)) = true
      · rw [← g1 b hb]
        exact e
      · have e : G.get? b = some o := e
        rw [g2 b (by simpa using hb)] at e
        cases e
    · have ne : r.1 ≠ q.1 := fun e => nd'.1 (List.mem_map.mpr ⟨r, hr, e⟩)
      have fr := f r (by simp [hr])
      exact ⟨g2 _ (by rw [fr.1]; simp [ne]), (show upd H q.1 q.2 r.1 = none by rw [upd_ne ne]; exact fr.2)⟩
theorem lay_at : ∀ (L : List (Addr × HO)) (H : Hp), (L.map (·.1)).Nodup → (∀ q ∈ L, (L.foldl (fun H q => upd H q.1 q.2) H) q.1 = some q.2) ∧ ∀ b, b ∉ L.map (·.1) → (L.foldl (fun H q => upd H q.1 q.2) H) b = H b
  | [], H, _ => ⟨fun q h => by simp at h, fun b _ => rfl⟩
  | q :: L, H, nd => by
    have nd' := List.nodup_cons.mp nd
    obtain ⟨h1, h2⟩ := lay_at L (upd H q.1 q.2) nd'.2
    refine ⟨fun r hr => ?_, fun b hb => ?_⟩
    · rcases List.mem_cons.mp hr with e | hr
      · rw [e, List.foldl_cons, h2 _ nd'.1]
        exact upd_same
      · exact h1 r hr
    · rw [List.map_cons, List.mem_cons, not_or] at hb
      rw [List.foldl_cons, h2 _ hb.2]
      exact upd_ne hb.1
theorem vals_ref : ∀ Ts : List Addr, Vals (Ts.map V.ref) (Ts.map Value.ref)
  | [] => .nil
  | _ :: Ts => .cons rfl (vals_ref Ts)
/-- list(enumerate(t)), t a tuple -/
def tListEn (K : PySem.W.Frag) (ta : TA) : TE := fun σ H Q => ta σ H fun vs H1 => ∃ a xs, vs = [.ref a] ∧ SqT K H1 a xs ∧ xs.length ≤ 1000 ∧
  ∀ (H' : Hp) (l : Addr) (Ts : List Addr), H' l = some (.lst (Ts.map V.ref)) → Ts.length = xs.length → (∀ (i : Nat) (T : Addr) (x : V), Ts[i]? = some T → xs[i]? = some x → H' T = some (.tup [.int (i : Nat), x])) → H1 l = none → Same H1 H' → Q (.ref l) H'
theorem pe_listEn {e : Expr} {ta : TA} {p pos p2 pos2 : Pos} (hc : X.calm = true) (hgl : Gl X "list") (hml : X.mg "list" = none) (hg : Gl X "enumerate") (hm : X.mg "enumerate" = none) (ha : PA X [e] ta)
    (hs : starEach [e] X.env = [(false, eval e X.env)] := by rfl) (hso : starEach [.Call (.Name "enumerate" p2) [e] [] pos2] X.env = [(false, eval (.Call (.Name "enumerate" p2) [e] [] pos2) X.env)] := by rfl) (hK : X.K = K := by rfl) :
    PE X (.Call (.Name "list" p) [.Call (.Name "enumerate" p2) [e] [] pos2] [] pos) (tListEn K ta) := by
  subst hK
  refine ⟨fun pins s σ H Q I h => ?_⟩
  refine Call_ (ld_blt I hgl hml boot_list (PyProof.Rows.callWith_type1 ?_ hso rfl))
  rw [hso]
  show wpAny _ _ (spliced [(false, eval (.Call (.Name "enumerate" p2) [e] [] pos2) X.env)]) _ _ s
  refine Calls.spliced_cons (Call_ (ld_blt I hg hm boot_enumerate (PyProof.Rows.callWith_type1 (thn (ha.run pos2 pins s σ H _ I h) fun us s1 ⟨vs, H1, I1, r1, q1⟩ => ?_) hs rfl)))
  obtain ⟨a, xs, ex, hq, hl, q⟩ := q1
  subst ex
  rw [Vals.ref1 r1]
  obtain ⟨its, rv, ht, hz⟩ := I1.tuple hq
  have al : a < s1.heap.objs.size := by
    obtain ⟨o, ho, _⟩ := ht
    exact Heap.lt_size ho
  have len := rv.length
  refine call_enum_tup ht fun h' he hit hk => Calls.spliced_nil ?_
  have I2 : Inv X pins σ H1 { s1 with heap := h' } := I1.kept (t' := s1.toks) hk
  have ha' : h'.IsTuple a its.toArray := by
    obtain ⟨o, ho, r⟩ := ht
    exact ⟨o, hk _ _ ho, r⟩
  have em : s1.heap.objs.size + 1 ≠ s1.heap.objs.size := Nat.succ_ne_self _
  have ge : s1.heap.objs.size + 1 < h'.objs.size := Heap.lt_size he
  refine en_list (s := { s1 with heap := h' }) (u := true) (d := a) (vs := its.toArray) (I.ok.hd hc) em (Nat.ne_of_lt al) (Nat.ne_of_lt (Nat.lt_succ_of_lt al)) (by rw [List.size_toArray]; omega) he hit ha' (Nat.lt_trans al (Nat.lt_trans (Nat.lt_succ_self _) ge)) fun g tk acc c kg hS la it ap => ?_
  -- the new objects
  have lacc : acc.size = xs.length := by rw [la, List.size_toArray, len]
  obtain ⟨Ts, eT⟩ : ∃ Ts : List Addr, acc.toList = Ts.map Value.ref := by
    have : ∀ l : List Value, (∀ v ∈ l, ∃ T, v = Value.ref T) → ∃ Ts : List Addr, l = Ts.map Value.ref := fun l => by
      induction l with
      | nil => exact fun _ => ⟨[], rfl⟩
      | cons v l ih =>
        intro hv
        obtain ⟨T, e1⟩ := hv v (by simp)
        obtain ⟨Ts, e2⟩ := ih fun y hy => hv y (by simp [hy])
        exact ⟨T :: Ts, by rw [e1, e2]; rfl⟩
    refine this _ fun v hv => ?_
    obtain ⟨j, hj, e1⟩ := List.getElem_of_mem hv
    obtain ⟨T, t, y, e2, _⟩ := it j v (by rw [← e1]; simp at hj; simp [hj])
    exact ⟨T, e2⟩
  have lT : Ts.length = xs.length := by rw [← lacc, ← Array.length_toList, eT, List.length_map]
  have accT : ∀ (j : Nat) (T : Addr), Ts[j]? = some T → acc[j]? = some (.ref T) := fun j T hj => by
    rw [← Array.getElem?_toList, eT, List.getElem?_map, hj]
    rfl
  have ndT : Ts.Nodup := by
    rw [List.nodup_iff_pairwise_ne, List.pairwise_iff_getElem]
    intro i j hi hj ij e1
    have := ap i j Ts[i] (accT i _ (List.getElem?_eq_getElem hi)) (accT j _ (by rw [e1]; exact List.getElem?_eq_getElem hj))
    omega
  have memT : ∀ T ∈ Ts, ∃ (j : Nat) (t : Tok) (x : V) (v : Value), Ts[j]? = some T ∧ xs[j]? = some x ∧ RelV x v ∧ IsPair g T (.int (j : Nat) t) v ∧ h'.objs.size ≤ T := fun T hT => by
    obtain ⟨j, hj, e1⟩ := List.getElem_of_mem hT
    have ej : Ts[j]? = some T := by rw [List.getElem?_eq_getElem hj, e1]
    obtain ⟨T', t, v, e2, e3, e4, e5, _⟩ := it j _ (accT j T ej)
    cases e2
    have ex : xs[j]? = some (xs[j]'(by omega)) := List.getElem?_eq_getElem _
    obtain ⟨v', hv', rv'⟩ := rv.get ex
    have : v = v' := by
      have e4 : its[j]? = some v := by simpa using e4
      rw [hv'] at e4
      exact (Option.some.inj e4).symm
    subst this
    exact ⟨j, t, _, v, ej, ex, rv', e3, e5⟩
  have kept : ∀ b o, s1.heap.get? b = some o → g.get? b = some o := fun b o e1 => by
    have := Heap.lt_size e1
    exact kg b o (fun y => by rw [y] at this; exact absurd this (Nat.not_lt.mpr (Nat.le_succ _))) (fun y => by rw [y] at this; exact Nat.lt_irrefl _ this) (hk b o e1)
  have none_of : ∀ b, s1.heap.objs.size ≤ b → s1.heap.get? b = none := fun b hb => by
    cases e1 : s1.heap.get? b with
    | none => rfl
    | some o => exact absurd (Heap.lt_size e1) (Nat.not_lt.mpr hb)
  let xf : Addr → V := fun T => (xs[Ts.idxOf T]?).getD .non
  have idT : ∀ (j : Nat) (T : Addr), Ts[j]? = some T → Ts.idxOf T = j := fun j T hj => by
    obtain ⟨z1, z2⟩ := List.getElem?_eq_some_iff.mp hj
    rw [← z2]
    exact List.Nodup.idxOf_getElem ndT j z1
  let L : List (Addr × HO) := (h'.objs.size, .lst (Ts.map V.ref)) :: Ts.map fun T => (T, HO.tup [.int ((Ts.idxOf T : Nat) : Int), xf T])
  have mapL : L.map (·.1) = h'.objs.size :: Ts := by
    show h'.objs.size :: (Ts.map fun T => (T, HO.tup [.int ((Ts.idxOf T : Nat) : Int), xf T])).map (·.1) = _
    rw [List.map_map]
    congr 1
    exact List.map_id _
  have Snot : h'.objs.size ∉ Ts := fun hT => by
    obtain ⟨j, hj, e1⟩ := List.getElem_of_mem hT
    obtain ⟨T', t, v, e2, _, _, _, e6, _⟩ := it j _ (accT j h'.objs.size (by rw [List.getElem?_eq_getElem hj, e1]))
    cases e2
    exact e6 rfl
  have ndL : (L.map (·.1)).Nodup := by
    rw [mapL]
    exact List.nodup_cons.mpr ⟨Snot, ndT⟩
  have geL : ∀ q ∈ L, s1.heap.objs.size ≤ q.1 := fun q hq => by
    have : q.1 ∈ h'.objs.size :: Ts := by
      rw [← mapL]
      exact List.mem_map.mpr ⟨q, hq, rfl⟩
    rcases List.mem_cons.mp this with e1 | e1
    · rw [e1]
      exact Nat.le_of_lt (Nat.lt_trans (Nat.lt_succ_self _) ge)
    · obtain ⟨_, _, _, _, _, _, _, _, e2⟩ := memT _ e1
      exact Nat.le_trans (Nat.le_of_lt (Nat.lt_trans (Nat.lt_succ_self _) ge)) e2
  have I3 : Inv X pins σ (L.foldl (fun H q => upd H q.1 q.2) H1) { s1 with heap := g, toks := tk } := by
    refine lay_many L I1 kept (fun q hq => ⟨none_of _ (geL q hq), I1.hok.fresh (geL q hq)⟩) ndL fun q hq H' G eG => ?_
    rcases List.mem_cons.mp hq with e1 | e1
    · subst e1
      refine ⟨?_, acc.toList, c, ?_, by rw [eG, Array.toArray_toList]; exact hS⟩
      · rw [List.length_map, lT]
        exact Nat.le_trans hl (by decide)
      · rw [eT]
        exact vals_ref Ts
    · obtain ⟨T, hT, e2⟩ := List.mem_map.mp e1
      subst e2
      obtain ⟨j, t, x, v, h1, h2, h3, h4, h5⟩ := memT T hT
      have ij := idT j T h1
      refine ⟨by show 2 ≤ sizeLine; decide, [.int j t, v], .cons ?_ (.cons ?_ .nil), ⟨_, by rw [eG]; exact h4, rfl, _, rfl⟩⟩
      · rw [ij]
        exact ⟨_, rfl⟩
      · show RelV ((xs[Ts.idxOf T]?).getD .non) v
        rw [ij, h2]
        exact h3
  obtain ⟨at1, at2⟩ := lay_at L H1 ndL
  refine ⟨.ref h'.objs.size, _, I3, rfl, q _ h'.objs.size Ts (at1 _ (List.mem_cons_self ..)) lT (fun i T x h1 h2 => ?_) (I1.hok.fresh (geL _ (List.mem_cons_self ..))) fun b o e1 => ?_⟩
  · have := at1 (T, HO.tup [.int ((Ts.idxOf T : Nat) : Int), xf T]) (List.mem_cons_of_mem _ (List.mem_map.mpr ⟨T, List.mem_of_getElem? h1, rfl⟩))
    rw [this, idT i T h1]
    show some (HO.tup [.int (i : Nat), (xs[Ts.idxOf T]?).getD .non]) = _
    rw [idT i T h1, h2]
    rfl
  · rw [at2 b fun hb => ?_]
    · exact e1
    · obtain ⟨q, hq, e2⟩ := List.mem_map.mp hb
      have := I1.hok.fresh (geL q hq)
      rw [e2, e1] at this
      cases this
/-- min(xs), xs a list of numbers -/
def rMinLs (K : PySem.W.Frag) : List V → Hp → VK → Prop := fun vs H Q => ∃ (a : Addr) (is : List Int), vs = [V.ref a] ∧ SqL K H a (is.map V.int) ∧ is ≠ [] ∧ ∀ m, m ∈ is → (∀ j ∈ is, m ≤ j) → Q (.int m) H
theorem minLs (hc : X.calm = true := by rfl) (hK : X.K = K := by rfl) : CallR X (.builtin "min") (rMinLs K) := by
  subst hK
  intro pins s σ H vs us Q I r h
  obtain ⟨a, is, rfl, hs, ne, q⟩ := h
  rw [Vals.ref1 r]
  obtain ⟨its, rv, hl, _⟩ := I.list hs
  have hi : IntsAre its is := Vals.ints rv
  have ln : its.toArray.size = is.length := by rw [List.size_toArray, hi.length]
  have pos : 0 < is.length := List.length_pos_iff.mpr ne
  have val : ∀ (i : Nat) (v : Value), its.toArray[i]? = some v → ∃ t, v = Value.int (is.getD i 0) t := fun i v hv => IntsAre.int_at hi i v (by simpa using hv)
  refine call_min_walk (iter_anyList hl.isList fun s2 e2 st fp li => ?_)
  subst e2
  refine ⟨_, _, _, _, _, _, _, rfl, Walks.list (A := X.A.in1) (I.ok.hd hc) _ a li its.toArray, st, fp, by rw [ln]; exact pos, CmpOf.ints_lt (fun i => is.getD i 0) val, fun v h' tk hP hk => ?_⟩
  obtain ⟨t, rfl⟩ := val _ v hP
  obtain ⟨b1, b2⟩ := argBest_lt (fun i => is.getD i 0) (its.toArray.size - 1)
  rw [ln] at b1 b2
  refine ⟨.int _, H, I.kept (t' := tk) (PySem.old_kept hk), ⟨t, rfl⟩, q _ ?_ fun j hj => ?_⟩
  · rw [ln]
    have hb : argBest (fun i j => decide (is.getD i 0 < is.getD j 0)) (is.length - 1) < is.length := by omega
    rw [List.getD_eq_getElem?_getD, List.getElem?_eq_getElem hb]
    exact List.getElem_mem hb
  · obtain ⟨i, hi', e⟩ := List.mem_iff_getElem.mp hj
    have e2 : is.getD i 0 = j := by rw [List.getD_eq_getElem?_getD, List.getElem?_eq_getElem hi', ← e] <;> rfl
    rw [← e2, ln]
    exact b2 i (by omega)
/-- xs[k], by values -/
def rGetLs (K : PySem.W.Frag) : V → V → Hp → VK → Prop := fun o i H Q => ∃ (p : Addr) (xs : List V) (k : Nat) (v : V), o = .ref p ∧ i = .int (k : Nat) ∧ SqL K H p xs ∧ xs[k]? = some v ∧ Q v H
theorem getLs (hK : X.K = K := by rfl) : PGet X (rGetLs K) := by
  subst hK
  intro pins s σ H o i ov iv Q I ro ri h
  obtain ⟨p, xs, k, v, rfl, rfl, hq, hv, q⟩ := h
  cases ro
  obtain ⟨t, rfl⟩ := ri
  obtain ⟨its, r, pl, hz⟩ := I.list hq
  obtain ⟨w, ew, rw'⟩ := r.get hv
  have hl := r.length
  have hn := line63
  have kl := (List.getElem?_eq_some_iff.mp hv).1
  exact wpAny_getItem_list pl.isList (Int.natCast_nonneg _) (by omega) (by simpa using ew) ⟨v, H, I, rw', q⟩
theorem mtIx (h : X.K = K := by rfl) : MtR X "list.index" (rIndex K) := h ▸ mt_index
end
end RL
/-! zip of four things, each a list or a tuple. -/
namespace RL
open PySem PySem.Spec PyProof.Rows L2
abbrev IsQuad (h : Heap) (T : Addr) (a b c d : Value) : Prop := h.get? T = some { cls := .type "tuple", data := .seq #[a, b, c, d] }
/-- what must not be the same -/
structure ZA4 (q ti to m1 m2 m3 m4 d1 d2 d3 d4 : Addr) : Prop where
  tiq : ti ≠ q
  toq : to ≠ q
  m1q : m1 ≠ q
  m2q : m2 ≠ q
  m3q : m3 ≠ q
  m4q : m4 ≠ q
  tito : ti ≠ to
  tim1 : ti ≠ m1
  tim2 : ti ≠ m2
  tim3 : ti ≠ m3
  tim4 : ti ≠ m4
  tom1 : to ≠ m1
  tom2 : to ≠ m2
  tom3 : to ≠ m3
  tom4 : to ≠ m4
  m12 : m1 ≠ m2
  m13 : m1 ≠ m3
  m14 : m1 ≠ m4
  m23 : m2 ≠ m3
  m24 : m2 ≠ m4
  m34 : m3 ≠ m4
  d1q : d1 ≠ q
  d2q : d2 ≠ q
  d3q : d3 ≠ q
  d4q : d4 ≠ q
  d2to : d2 ≠ to
  d3to : d3 ≠ to
  d4to : d4 ≠ to
  d2m1 : d2 ≠ m1
  d3m1 : d3 ≠ m1
  d3m2 : d3 ≠ m2
  d4m1 : d4 ≠ m1
  d4m2 : d4 ≠ m2
  d4m3 : d4 ≠ m3
theorem za4_new {n d1 d2 d3 d4 : Nat} (h1 : d1 < n) (h2 : d2 < n) (h3 : d3 < n) (h4 : d4 < n) : ZA4 (n + 6) (n + 4) (n + 5) n (n + 1) (n + 2) (n + 3) d1 d2 d3 d4 := by
  constructor <;> exact (show @Ne Nat _ _ from by omega)
section
variable {prog : Program} {w : World} {A : Around} {E : Value → Shared → Prop} {s : Shared}
theorem upd_quad {T : Addr} {a b c d x : Value} {k : Nat} {Q : Unit → Shared → Prop} (hT : IsQuad s.heap T a b c d)
    (h : ∀ g, g.get? T = some { cls := .type "tuple", data := .seq ((#[a, b, c, d] : Array Value).setIfInBounds k x) } → Heap.SameBut T s.heap g → Q () { s with heap := g }) : wpAny (model prog w) A (updateSeq T (·.setIfInBounds k x)) Q E s := by
  refine wpAny_updateSeq hT rfl (h _ ?_ (Heap.SameBut.update ..))
  rw [Heap.get?_update_self _ hT rfl]
  simp [Obj.mapSeq]
theorem z4_item {q ti to m1 m2 m3 m4 d1 d2 d3 d4 : Addr} {u1 u2 u3 u4 : Bool} {n1 n2 n3 n4 : Nat} {vs1 vs2 vs3 vs4 : Array Value} {x y z u a b c d : Value} {Q : Value → Shared → Prop} (D : ZA4 q ti to m1 m2 m3 m4 d1 d2 d3 d4)
    (zz : IsZip s.heap q ti to .none) (pi : IsQuad s.heap ti (.ref m1) (.ref m2) (.ref m3) (.ref m4)) (po : IsQuad s.heap to a b c d)
    (w1 : hIt u1 s.heap m1 d1 n1) (w2 : hIt u2 s.heap m2 d2 n2) (w3 : hIt u3 s.heap m3 d3 n3) (w4 : hIt u4 s.heap m4 d4 n4) (s1 : hSq u1 s.heap d1 vs1) (s2 : hSq u2 s.heap d2 vs2) (s3 : hSq u3 s.heap d3 vs3) (s4 : hSq u4 s.heap d4 vs4) (hx1 : vs1[n1]? = some x) (hx2 : vs2[n2]? = some y) (hx3 : vs3[n3]? = some z) (hx4 : vs4[n4]? = some u)
    (hq : ∀ g, IsZip g q ti to (rawInt s.heap.objs.size) → IsQuad g to x y z u → hIt u1 g m1 d1 (n1 + 1) → hIt u2 g m2 d2 (n2 + 1) → hIt u3 g m3 d3 (n3 + 1) → hIt u4 g m4 d4 (n4 + 1) → IsQuad g s.heap.objs.size x y z u → g.objs.size = s.heap.objs.size + 1 →
      (∀ e o, e ≠ q → e ≠ to → e ≠ m1 → e ≠ m2 → e ≠ m3 → e ≠ m4 → s.heap.get? e = some o → g.get? e = some o) → Q (.ref s.heap.objs.size) { s with heap := g }) :
    wpAny (model prog w) A (Builtin.«zip.__next__» ⟨[.ref q], []⟩) (fun f s' => ∃ v, f = .done (.ret v) ∧ Q v s') E s := by
  show wpAny _ _ (field (.ref q) 2 >>= _) _ _ _
  refine wpAny_bind (wpAny_field zz rfl (x := .bool false) rfl ?_)
  show wpAny _ _ (field (.ref q) 3 >>= _) _ _ _
  refine wpAny_bind (wpAny_field zz rfl (x := .ref ti) rfl (wpAny_bind (wpAny_seqItems pi rfl ?_)))
  show wpAny _ _ (Builtin.SmallTypes.ownedTupleIsFree (.ref q) >>= _) _ _ _
  refine wpAny_bind ?_; unfold Builtin.SmallTypes.ownedTupleIsFree
  refine wpAny_bind (wpAny_field zz rfl (x := .none) rfl (wpAny_pure ?_))
  simp only [if_true]
  refine wpAny_bind (wpAny_rule (wpAny_bind (wpAny_field zz rfl (x := .ref to) rfl (wpAny_bind (wpAny_setField_rec zz (by simp) fun g1 zz1 b1 => ?_)))))
  replace zz1 : IsZip g1 q ti to .ellipsis := zz1
  refine wpAny_bind ?_
  simp only [List.zipIdx_nil, List.zipIdx_cons, List.forIn_nil, List.forIn_cons]
  refine wpAny_bind (wpAny_bind (wpAny_onRaise ?_))
  show wpAny _ _ (Builtin.SmallTypes.nextOf (.ref m1) >>= _) _ _ _
  refine wpAny_bind (half_item (w1.but b1.extBut D.m1q) (s1.but b1.extBut D.d1q) hx1 fun g2 v1 b2 => wpAny_pure ?_)
  have po2 : IsQuad g2 to a b c d := b2.extBut _ _ D.tom1 (b1.extBut _ _ D.toq po)
  refine wpAny_bind (wpAny_seqItems po2 rfl (wpAny_bind (upd_quad po2 fun g3 po3 b3 => ?_)))
  replace po3 : IsQuad g3 to x b c d := po3
  refine wpAny_bind (wpAny_letGo (wpAny_pure (wpAny_bind (wpAny_bind (wpAny_onRaise ?_)))))
  show wpAny _ _ (Builtin.SmallTypes.nextOf (.ref m2) >>= _) _ _ _
  refine wpAny_bind (half_item (((w2.but b1.extBut D.m2q).but b2.extBut D.m12.symm).but b3.extBut D.tom2.symm) (((s2.but b1.extBut D.d2q).but b2.extBut D.d2m1).but b3.extBut D.d2to) hx2 fun g4 v2 b4 => wpAny_pure ?_)
  have po4 : IsQuad g4 to x b c d := b4.extBut _ _ D.tom2 po3
  refine wpAny_bind (wpAny_seqItems po4 rfl (wpAny_bind (upd_quad po4 fun g5 po5 b5 => ?_)))
  replace po5 : IsQuad g5 to x y c d := po5
  refine wpAny_bind (wpAny_letGo (wpAny_pure (wpAny_bind (wpAny_bind (wpAny_onRaise ?_)))))
  show wpAny _ _ (Builtin.SmallTypes.nextOf (.ref m3) >>= _) _ _ _
  refine wpAny_bind (half_item (((((w3.but b1.extBut D.m3q).but b2.extBut D.m13.symm).but b3.extBut D.tom3.symm).but b4.extBut D.m23.symm).but b5.extBut D.tom3.symm) (((((s3.but b1.extBut D.d3q).but b2.extBut D.d3m1).but b3.extBut D.d3to).but b4.extBut D.d3m2).but b5.extBut D.d3to) hx3 fun g6 v3 b6 => wpAny_pure ?_)
  have po6 : IsQuad g6 to x y c d := b6.extBut _ _ D.tom3 po5
  refine wpAny_bind (wpAny_seqItems po6 rfl (wpAny_bind (upd_quad po6 fun g7 po7 b7 => ?_)))
  replace po7 : IsQuad g7 to x y z d := po7
  refine wpAny_bind (wpAny_letGo (wpAny_pure (wpAny_bind (wpAny_bind (wpAny_onRaise ?_)))))
  show wpAny _ _ (Builtin.SmallTypes.nextOf (.ref m4) >>= _) _ _ _
  refine wpAny_bind (half_item (((((((w4.but b1.extBut D.m4q).but b2.extBut D.m14.symm).but b3.extBut D.tom4.symm).but b4.extBut D.m24.symm).but b5.extBut D.tom4.symm).but b6.extBut D.m34.symm).but b7.extBut D.tom4.symm) (((((((s4.but b1.extBut D.d4q).but b2.extBut D.d4m1).but b3.extBut D.d4to).but b4.extBut D.d4m2).but b5.extBut D.d4to).but b6.extBut D.d4m3).but b7.extBut D.d4to) hx4 fun g8 v4 b8 => wpAny_pure ?_)
  have po8 : IsQuad g8 to x y z d := b8.extBut _ _ D.tom4 po7
  refine wpAny_bind (wpAny_seqItems po8 rfl (wpAny_bind (upd_quad po8 fun g9 po9 b9 => ?_)))
  replace po9 : IsQuad g9 to x y z u := po9
  refine wpAny_bind (wpAny_letGo (wpAny_pure (wpAny_pure (wpAny_bind (wpAny_seqItems po9 rfl (wpAny_bind (wpAny_newTuple ?_)))))))
  have sz : g9.objs.size = s.heap.objs.size := by rw [b9.1, b8.1, b7.1, b6.1, b5.1, b4.1, b3.1, b2.1, b1.1]
  have zz9 : IsZip g9 q ti to .ellipsis := b9.extBut _ _ D.toq.symm (b8.extBut _ _ D.m4q.symm (b7.extBut _ _ D.toq.symm (b6.extBut _ _ D.m3q.symm (b5.extBut _ _ D.toq.symm (b4.extBut _ _ D.m2q.symm (b3.extBut _ _ D.toq.symm (b2.extBut _ _ D.m1q.symm (zz1))))))))
  have old9 : ∀ e o, e ≠ q → e ≠ to → e ≠ m1 → e ≠ m2 → e ≠ m3 → e ≠ m4 → s.heap.get? e = some o → g9.get? e = some o := fun e o c1 c2 c3 c4 c5 c6 f => b9.extBut _ _ c2 (b8.extBut _ _ c6 (b7.extBut _ _ c2 (b6.extBut _ _ c5 (b5.extBut _ _ c2 (b4.extBut _ _ c4 (b3.extBut _ _ c2 (b2.extBut _ _ c3 (b1.extBut _ _ c1 f))))))))
  have v1G : hIt u1 g9 m1 d1 (n1 + 1) := (((((((v1.but b3.extBut D.tom1.symm).but b4.extBut D.m12).but b5.extBut D.tom1.symm).but b6.extBut D.m13).but b7.extBut D.tom1.symm).but b8.extBut D.m14).but b9.extBut D.tom1.symm)
  have v2G : hIt u2 g9 m2 d2 (n2 + 1) := (((((v2.but b5.extBut D.tom2.symm).but b6.extBut D.m23).but b7.extBut D.tom2.symm).but b8.extBut D.m24).but b9.extBut D.tom2.symm)
  have v3G : hIt u3 g9 m3 d3 (n3 + 1) := (((v3.but b7.extBut D.tom3.symm).but b8.extBut D.m34).but b9.extBut D.tom3.symm)
  have v4G : hIt u4 g9 m4 d4 (n4 + 1) := (v4.but b9.extBut D.tom4.symm)
  have ql : q < g9.objs.size := Heap.lt_size zz9
  show wpAny _ _ (Builtin.SmallTypes.ownedTupleHandOut (.ref q) (.ref g9.objs.size) >>= _) _ _ _
  refine wpAny_bind ?_; unfold Builtin.SmallTypes.ownedTupleHandOut
  have zzP : IsZip (g9.push { cls := .type "tuple", data := .seq #[x, y, z, u] }) q ti to .ellipsis := Heap.get?_push_of_some _ zz9
  refine wpAny_bind (wpAny_setField_rec zzP (by simp) fun gA zzA bA => ?_)
  replace zzA : IsZip gA q ti to (rawInt g9.objs.size) := zzA
  refine wpAny_setField_rec zzA (by simp) fun gB zzB bB => ?_
  replace zzB : IsZip gB q ti to (rawInt g9.objs.size) := zzB
  have up : ∀ e o, e ≠ q → g9.get? e = some o → gB.get? e = some o := fun e o c1 f => bB.extBut _ _ c1 (bA.extBut _ _ c1 (Heap.get?_push_of_some _ f))
  have tB : IsQuad gB g9.objs.size x y z u := bB.extBut _ _ (Nat.ne_of_gt ql) (bA.extBut _ _ (Nat.ne_of_gt ql) (Heap.get?_push_size _ rfl))
  have szB : gB.objs.size = g9.objs.size + 1 := by rw [bB.1, bA.1, Heap.size_push]
  rw [sz] at zzB tB szB
  refine wpAny_pure ⟨_, rfl, ?_⟩
  show Q (.ref g9.objs.size) _
  rw [sz]
  exact hq gB zzB (up _ _ D.toq po9) (v1G.to fun o e => up _ o D.m1q e) (v2G.to fun o e => up _ o D.m2q e) (v3G.to fun o e => up _ o D.m3q e) (v4G.to fun o e => up _ o D.m4q e) tB szB fun e o c1 c2 c3 c4 c5 c6 f => up e o c1 (old9 e o c1 c2 c3 c4 c5 c6 f)
theorem z4_end {q ti to m1 m2 m3 m4 d1 d2 d3 d4 : Addr} {u1 u2 u3 u4 : Bool} {n1 n2 n3 n4 : Nat} {vs1 vs2 vs3 vs4 : Array Value} {a b c d : Value} {Q : Fin → Shared → Prop} (hh : A.handled = none) (D : ZA4 q ti to m1 m2 m3 m4 d1 d2 d3 d4)
    (zz : IsZip s.heap q ti to .none) (pi : IsQuad s.heap ti (.ref m1) (.ref m2) (.ref m3) (.ref m4)) (po : IsQuad s.heap to a b c d)
    (w1 : hIt u1 s.heap m1 d1 n1) (w2 : hIt u2 s.heap m2 d2 n2) (w3 : hIt u3 s.heap m3 d3 n3) (w4 : hIt u4 s.heap m4 d4 n4) (s1 : hSq u1 s.heap d1 vs1) (s2 : hSq u2 s.heap d2 vs2) (s3 : hSq u3 s.heap d3 vs3) (s4 : hSq u4 s.heap d4 vs4) (he : vs1[n1]? = none ∨ vs2[n2]? = none ∨ vs3[n3]? = none ∨ vs4[n4]? = none)
    (hE : ∀ g e, (∀ f o, f ≠ q → f ≠ to → f ≠ m1 → f ≠ m2 → f ≠ m3 → f ≠ m4 → s.heap.get? f = some o → g.get? f = some o) → (∃ o, g.get? e = some o ∧ o.cls = .type "StopIteration") → E (.ref e) { s with heap := g }) :
    wpAny (model prog w) A (Builtin.«zip.__next__» ⟨[.ref q], []⟩) Q E s := by
  show wpAny _ _ (field (.ref q) 2 >>= _) _ _ _
  refine wpAny_bind (wpAny_field zz rfl (x := .bool false) rfl ?_)
  show wpAny _ _ (field (.ref q) 3 >>= _) _ _ _
  refine wpAny_bind (wpAny_field zz rfl (x := .ref ti) rfl (wpAny_bind (wpAny_seqItems pi rfl ?_)))
  show wpAny _ _ (Builtin.SmallTypes.ownedTupleIsFree (.ref q) >>= _) _ _ _
  refine wpAny_bind ?_; unfold Builtin.SmallTypes.ownedTupleIsFree
  refine wpAny_bind (wpAny_field zz rfl (x := .none) rfl (wpAny_pure ?_))
  simp only [if_true]
  refine wpAny_bind (wpAny_rule (wpAny_bind (wpAny_field zz rfl (x := .ref to) rfl (wpAny_bind (wpAny_setField_rec zz (by simp) fun g1 zz1 b1 => ?_)))))
  replace zz1 : IsZip g1 q ti to .ellipsis := zz1
  refine wpAny_bind ?_
  simp only [List.zipIdx_nil, List.zipIdx_cons, List.forIn_nil, List.forIn_cons]
  refine wpAny_bind (wpAny_bind (wpAny_onRaise ?_))
  show wpAny _ _ (Builtin.SmallTypes.nextOf (.ref m1) >>= _) _ _ _
  cases hx1 : vs1[n1]? with
  | none =>
    refine wpAny_bind (half_end hh (w1.but b1.extBut D.m1q) (s1.but b1.extBut D.d1q) hx1 fun g2 e b2 ⟨oe, hoe, hce⟩ => ?_)
    have zz2 : IsZip g2 q ti to .ellipsis := b2 _ _ D.m1q.symm (zz1)
    have ne : e ≠ q := fun x => by
      subst x
      rw [zz2] at hoe
      cases hoe
      simp at hce
    exact wpAny_setField_rec zz2 (by simp) fun g99 _ b99 => hE g99 e (fun f o c1 c2 c3 c4 c5 c6 x => b99.extBut _ _ c1 (b2 _ _ c3 (b1.extBut _ _ c1 x))) ⟨oe, b99.extBut _ _ ne hoe, hce⟩
  | some x =>
    refine wpAny_bind (half_item (w1.but b1.extBut D.m1q) (s1.but b1.extBut D.d1q) hx1 fun g2 v1 b2 => wpAny_pure ?_)
    have po2 : IsQuad g2 to a b c d := b2.extBut _ _ D.tom1 (b1.extBut _ _ D.toq po)
    refine wpAny_bind (wpAny_seqItems po2 rfl (wpAny_bind (upd_quad po2 fun g3 po3 b3 => ?_)))
    replace po3 : IsQuad g3 to x b c d := po3
    refine wpAny_bind (wpAny_letGo (wpAny_pure (wpAny_bind (wpAny_bind (wpAny_onRaise ?_)))))
    show wpAny _ _ (Builtin.SmallTypes.nextOf (.ref m2) >>= _) _ _ _
    cases hx2 : vs2[n2]? with
    | none =>
      refine wpAny_bind (half_end hh (((w2.but b1.extBut D.m2q).but b2.extBut D.m12.symm).but b3.extBut D.tom2.symm) (((s2.but b1.extBut D.d2q).but b2.extBut D.d2m1).but b3.extBut D.d2to) hx2 fun g4 e b4 ⟨oe, hoe, hce⟩ => ?_)
      have zz4 : IsZip g4 q ti to .ellipsis := b4 _ _ D.m2q.symm (b3.extBut _ _ D.toq.symm (b2.extBut _ _ D.m1q.symm (zz1)))
      have ne : e ≠ q := fun x => by
        subst x
        rw [zz4] at hoe
        cases hoe
        simp at hce
      exact wpAny_setField_rec zz4 (by simp) fun g99 _ b99 => hE g99 e (fun f o c1 c2 c3 c4 c5 c6 x => b99.extBut _ _ c1 (b4 _ _ c4 (b3.extBut _ _ c2 (b2.extBut _ _ c3 (b1.extBut _ _ c1 x))))) ⟨oe, b99.extBut _ _ ne hoe, hce⟩
    | some y =>
      refine wpAny_bind (half_item (((w2.but b1.extBut D.m2q).but b2.extBut D.m12.symm).but b3.extBut D.tom2.symm) (((s2.but b1.extBut D.d2q).but b2.extBut D.d2m1).but b3.extBut D.d2to) hx2 fun g4 v2 b4 => wpAny_pure ?_)
      have po4 : IsQuad g4 to x b c d := b4.extBut _ _ D.tom2 po3
      refine wpAny_bind (wpAny_seqItems po4 rfl (wpAny_bind (upd_quad po4 fun g5 po5 b5 => ?_)))
      replace po5 : IsQuad g5 to x y c d := po5
      refine wpAny_bind (wpAny_letGo (wpAny_pure (wpAny_bind (wpAny_bind (wpAny_onRaise ?_)))))
      show wpAny _ _ (Builtin.SmallTypes.nextOf (.ref m3) >>= _) _ _ _
      cases hx3 : vs3[n3]? with
      | none =>
        refine wpAny_bind (half_end hh (((((w3.but b1.extBut D.m3q).but b2.extBut D.m13.symm).but b3.extBut D.tom3.symm).but b4.extBut D.m23.symm).but b5.extBut D.tom3.symm) (((((s3.but b1.extBut D.d3q).but b2.extBut D.d3m1).but b3.extBut D.d3to).but b4.extBut D.d3m2).but b5.extBut D.d3to) hx3 fun g6 e b6 ⟨oe, hoe, hce⟩ => ?_)
        have zz6 : IsZip g6 q ti to .ellipsis := b6 _ _ D.m3q.symm (b5.extBut _ _ D.toq.symm (b4.extBut _ _ D.m2q.symm (b3.extBut _ _ D.toq.symm (b2.extBut _ _ D.m1q.symm (zz1)))))
        have ne : e ≠ q := fun x => by
          subst x
          rw [zz6] at hoe
          cases hoe
          simp at hce
        exact wpAny_setField_rec zz6 (by simp) fun g99 _ b99 => hE g99 e (fun f o c1 c2 c3 c4 c5 c6 x => b99.extBut _ _ c1 (b6 _ _ c5 (b5.extBut _ _ c2 (b4.extBut _ _ c4 (b3.extBut _ _ c2 (b2.extBut _ _ c3 (b1.extBut _ _ c1 x))))))) ⟨oe, b99.extBut _ _ ne hoe, hce⟩
      | some z =>
        refine wpAny_bind (half_item (((((w3.but b1.extBut D.m3q).but b2.extBut D.m13.symm).but b3.extBut D.tom3.symm).but b4.extBut D.m23.symm).but b5.extBut D.tom3.symm) (((((s3.but b1.extBut D.d3q).but b2.extBut D.d3m1).but b3.extBut D.d3to).but b4.extBut D.d3m2).but b5.extBut D.d3to) hx3 fun g6 v3 b6 => wpAny_pure ?_)
        have po6 : IsQuad g6 to x y c d := b6.extBut _ _ D.tom3 po5
        refine wpAny_bind (wpAny_seqItems po6 rfl (wpAny_bind (upd_quad po6 fun g7 po7 b7 => ?_)))
        replace po7 : IsQuad g7 to x y z d := po7
        refine wpAny_bind (wpAny_letGo (wpAny_pure (wpAny_bind (wpAny_bind (wpAny_onRaise ?_)))))
        show wpAny _ _ (Builtin.SmallTypes.nextOf (.ref m4) >>= _) _ _ _
        have hx4 : vs4[n4]? = none := by
          rcases he with h | h | h | h
          · rw [hx1] at h; cases h
          · rw [hx2] at h; cases h
          · rw [hx3] at h; cases h
          · exact h
        refine wpAny_bind (half_end hh (((((((w4.but b1.extBut D.m4q).but b2.extBut D.m14.symm).but b3.extBut D.tom4.symm).but b4.extBut D.m24.symm).but b5.extBut D.tom4.symm).but b6.extBut D.m34.symm).but b7.extBut D.tom4.symm) (((((((s4.but b1.extBut D.d4q).but b2.extBut D.d4m1).but b3.extBut D.d4to).but b4.extBut D.d4m2).but b5.extBut D.d4to).but b6.extBut D.d4m3).but b7.extBut D.d4to) hx4 fun g8 e b8 ⟨oe, hoe, hce⟩ => ?_)
        have zz8 : IsZip g8 q ti to .ellipsis := b8 _ _ D.m4q.symm (b7.extBut _ _ D.toq.symm (b6.extBut _ _ D.m3q.symm (b5.extBut _ _ D.toq.symm (b4.extBut _ _ D.m2q.symm (b3.extBut _ _ D.toq.symm (b2.extBut _ _ D.m1q.symm (zz1)))))))
        have ne : e ≠ q := fun x => by
          subst x
          rw [zz8] at hoe
          cases hoe
          simp at hce
        exact wpAny_setField_rec zz8 (by simp) fun g99 _ b99 => hE g99 e (fun f o c1 c2 c3 c4 c5 c6 x => b99.extBut _ _ c1 (b8 _ _ c6 (b7.extBut _ _ c2 (b6.extBut _ _ c5 (b5.extBut _ _ c2 (b4.extBut _ _ c4 (b3.extBut _ _ c2 (b2.extBut _ _ c3 (b1.extBut _ _ c1 x))))))))) ⟨oe, b99.extBut _ _ ne hoe, hce⟩
theorem z4_next_item {q ti to m1 m2 m3 m4 d1 d2 d3 d4 : Addr} {u1 u2 u3 u4 : Bool} {n1 n2 n3 n4 : Nat} {vs1 vs2 vs3 vs4 : Array Value} {x y z u a b c d : Value} {Q : Option Value → Shared → Prop} (D : ZA4 q ti to m1 m2 m3 m4 d1 d2 d3 d4)
    (zz : IsZip s.heap q ti to .none) (pi : IsQuad s.heap ti (.ref m1) (.ref m2) (.ref m3) (.ref m4)) (po : IsQuad s.heap to a b c d)
    (w1 : hIt u1 s.heap m1 d1 n1) (w2 : hIt u2 s.heap m2 d2 n2) (w3 : hIt u3 s.heap m3 d3 n3) (w4 : hIt u4 s.heap m4 d4 n4) (s1 : hSq u1 s.heap d1 vs1) (s2 : hSq u2 s.heap d2 vs2) (s3 : hSq u3 s.heap d3 vs3) (s4 : hSq u4 s.heap d4 vs4) (hx1 : vs1[n1]? = some x) (hx2 : vs2[n2]? = some y) (hx3 : vs3[n3]? = some z) (hx4 : vs4[n4]? = some u)
    (hq : ∀ g, IsZip g q ti to (rawInt s.heap.objs.size) → IsQuad g to x y z u → hIt u1 g m1 d1 (n1 + 1) → hIt u2 g m2 d2 (n2 + 1) → hIt u3 g m3 d3 (n3 + 1) → hIt u4 g m4 d4 (n4 + 1) → IsQuad g s.heap.objs.size x y z u → g.objs.size = s.heap.objs.size + 1 →
      (∀ e o, e ≠ q → e ≠ to → e ≠ m1 → e ≠ m2 → e ≠ m3 → e ≠ m4 → s.heap.get? e = some o → g.get? e = some o) → Q (some (.ref s.heap.objs.size)) { s with heap := g }) :
    wpAny (model prog w) A (pyNext (.ref q)) Q E s := by
  have ty : s.TypeIs (.ref q) "zip" := ⟨_, zz, rfl⟩
  unfold pyNext
  exact wpAny_bind (wpAny_attempt (wpAny_callSpecial?_slot (name := Str.ofString "__next__") ty F.slot_zip_next (wpAny_call_entry F.slot_zip_next ty F.entry_zip_next
    (z4_item D zz pi po w1 w2 w3 w4 s1 s2 s3 s4 hx1 hx2 hx3 hx4 fun g a1 a2 a3 a4 a5 a6 a7 a8 a9 => wpAny_pure (hq g a1 a2 a3 a4 a5 a6 a7 a8 a9)) (F.args_zip_next_1 _))))
theorem z4_next_end {q ti to m1 m2 m3 m4 d1 d2 d3 d4 : Addr} {u1 u2 u3 u4 : Bool} {n1 n2 n3 n4 : Nat} {vs1 vs2 vs3 vs4 : Array Value} {a b c d : Value} {Q : Option Value → Shared → Prop} (hh : A.handled = none) (D : ZA4 q ti to m1 m2 m3 m4 d1 d2 d3 d4)
    (zz : IsZip s.heap q ti to .none) (pi : IsQuad s.heap ti (.ref m1) (.ref m2) (.ref m3) (.ref m4)) (po : IsQuad s.heap to a b c d)
    (w1 : hIt u1 s.heap m1 d1 n1) (w2 : hIt u2 s.heap m2 d2 n2) (w3 : hIt u3 s.heap m3 d3 n3) (w4 : hIt u4 s.heap m4 d4 n4) (s1 : hSq u1 s.heap d1 vs1) (s2 : hSq u2 s.heap d2 vs2) (s3 : hSq u3 s.heap d3 vs3) (s4 : hSq u4 s.heap d4 vs4) (he : vs1[n1]? = none ∨ vs2[n2]? = none ∨ vs3[n3]? = none ∨ vs4[n4]? = none)
    (hq : ∀ g, (∀ f o, f ≠ q → f ≠ to → f ≠ m1 → f ≠ m2 → f ≠ m3 → f ≠ m4 → s.heap.get? f = some o → g.get? f = some o) → Q none { s with heap := g }) : wpAny (model prog w) A (pyNext (.ref q)) Q E s := by
  have ty : s.TypeIs (.ref q) "zip" := ⟨_, zz, rfl⟩
  unfold pyNext
  refine wpAny_bind (wpAny_attempt (wpAny_callSpecial?_slot (name := Str.ofString "__next__") ty F.slot_zip_next (wpAny_call_entry F.slot_zip_next ty F.entry_zip_next
    (z4_end hh D zz pi po w1 w2 w3 w4 s1 s2 s3 s4 he fun g e hk ⟨o, ho, hc⟩ => ?_) (F.args_zip_next_1 _))))
  exact wpAny_bind (wpAny_isInstance (T := "StopIteration") (b := true) ⟨o, ho, hc⟩ isSubtype_stop (wpAny_pure (hq _ hk)))
end
theorem z4_type (a b c d : Value) : checkTypeCall "zip" ⟨[a, b, c, d], []⟩ = pure () := by kernel_rfl
theorem z4_newc (a b c d : Value) : checkBuiltinCall "zip.__new__" ⟨[.type "zip", a, b, c, d], []⟩ = pure () := by kernel_rfl
theorem z4_init (a b c d e : Value) : argsOk "object.__init__" ⟨[a, b, c, d, e], []⟩ := by
  unfold argsOk; rw [signature?_of (id := "object.__init__") (n := ['_', '_', 't', 'i', 'n', 'i', '_', '_']) (o := ['t', 'c', 'e', 'j', 'b', 'o']) (by kernel_rfl) F.owner_object]; kernel_rfl
abbrev y41 (h : Heap) (u1 : Bool) (d1 : Addr) : Heap := h.push (itO u1 d1)
abbrev y42 (h : Heap) (u1 u2 : Bool) (d1 d2 : Addr) : Heap := (y41 h u1 d1).push (itO u2 d2)
abbrev y43 (h : Heap) (u1 u2 u3 : Bool) (d1 d2 d3 : Addr) : Heap := (y42 h u1 u2 d1 d2).push (itO u3 d3)
abbrev y44 (h : Heap) (u1 u2 u3 u4 : Bool) (d1 d2 d3 d4 : Addr) : Heap := (y43 h u1 u2 u3 d1 d2 d3).push (itO u4 d4)
abbrev y4T (h : Heap) (u1 u2 u3 u4 : Bool) (d1 d2 d3 d4 : Addr) : Heap := (y44 h u1 u2 u3 u4 d1 d2 d3 d4).push { cls := .type "tuple", data := .seq #[.ref h.objs.size, .ref (y41 h u1 d1).objs.size, .ref (y42 h u1 u2 d1 d2).objs.size, .ref (y43 h u1 u2 u3 d1 d2 d3).objs.size] }
abbrev y4O (h : Heap) (u1 u2 u3 u4 : Bool) (d1 d2 d3 d4 : Addr) : Heap := (y4T h u1 u2 u3 u4 d1 d2 d3 d4).push { cls := .type "tuple", data := .seq #[.none, .none, .none, .none] }
abbrev y4Z (h : Heap) (u1 u2 u3 u4 : Bool) (d1 d2 d3 d4 : Addr) : Heap := (y4O h u1 u2 u3 u4 d1 d2 d3 d4).push { cls := .type "zip", data := .fields #[.none, .bool false, .bool false, .ref (y44 h u1 u2 u3 u4 d1 d2 d3 d4).objs.size, .ref (y4T h u1 u2 u3 u4 d1 d2 d3 d4).objs.size] }
theorem z4_made (u1 u2 u3 u4 : Bool) (d1 d2 d3 d4 : Addr) (vs1 vs2 vs3 vs4 : Array Value) :
    Meets (Builtin.«zip.__new__» ⟨[.type "zip", .ref d1, .ref d2, .ref d3, .ref d4], []⟩) (fun _ R s => hSq u1 s.heap d1 vs1 ∧ hSq u2 s.heap d2 vs2 ∧ hSq u3 s.heap d3 vs3 ∧ hSq u4 s.heap d4 vs4 ∧ R (.ok (.ret (.ref (y4O s.heap u1 u2 u3 u4 d1 d2 d3 d4).objs.size))) { s with heap := y4Z s.heap u1 u2 u3 u4 d1 d2 d3 d4 }) :=
  .of_wp fun prog w A R s h => by
    obtain ⟨hp, g, d, tk, os⟩ := s
    obtain ⟨k1, k2, k3, k4, h⟩ := h
    have sub := sub_zip
    have K1 : hSq u1 (Shared.heap ⟨hp, g, d, tk, os⟩) d1 vs1 := k1
    have K2 : hSq u2 (Shared.heap ⟨(hp.push (itO u1 d1)), g, d, tk, os⟩) d2 vs2 := (k2.push _)
    have K3 : hSq u3 (Shared.heap ⟨((hp.push (itO u1 d1)).push (itO u2 d2)), g, d, tk, os⟩) d3 vs3 := ((k3.push _).push _)
    have K4 : hSq u4 (Shared.heap ⟨(((hp.push (itO u1 d1)).push (itO u2 d2)).push (itO u3 d3)), g, d, tk, os⟩) d4 vs4 := (((k4.push _).push _).push _)
    wp_walk using half_iter K1, half_iter K2, half_iter K3, half_iter K4
    exact ⟨_, rfl, h⟩
theorem z4_call {prog : Program} {w : World} {A : Around} {E : Value → Shared → Prop} {s : Shared} {u1 u2 u3 u4 : Bool} {d1 d2 d3 d4 : Addr} {vs1 vs2 vs3 vs4 : Array Value} {Q : Value → Shared → Prop} (s1 : hSq u1 s.heap d1 vs1) (s2 : hSq u2 s.heap d2 vs2) (s3 : hSq u3 s.heap d3 vs3) (s4 : hSq u4 s.heap d4 vs4)
    (h : ∀ g, IsZip g (s.heap.objs.size + 6) (s.heap.objs.size + 4) (s.heap.objs.size + 5) .none → IsQuad g (s.heap.objs.size + 4) (.ref s.heap.objs.size) (.ref (s.heap.objs.size + 1)) (.ref (s.heap.objs.size + 2)) (.ref (s.heap.objs.size + 3)) → IsQuad g (s.heap.objs.size + 5) .none .none .none .none → hIt u1 g s.heap.objs.size d1 0 → hIt u2 g (s.heap.objs.size + 1) d2 0 → hIt u3 g (s.heap.objs.size + 2) d3 0 → hIt u4 g (s.heap.objs.size + 3) d4 0 →
      (∀ c o, s.heap.get? c = some o → g.get? c = some o) → Q (.ref (s.heap.objs.size + 6)) { s with heap := g }) :
    wpAny (model prog w) A (call (.type "zip") [.ref d1, .ref d2, .ref d3, .ref d4]) Q E s := by
  refine callType_new F.called_zip (by decide) (z4_type _ _ _ _) (z4_newc _ _ _ _) (fun ob => z4_init ob _ _ _ _) F.entry_zip_new (z4_made u1 u2 u3 u4 d1 d2 d3 d4 vs1 vs2 vs3 vs4) ⟨s1, s2, s3, s4, ?_⟩
  have e1 : (y41 s.heap u1 d1).objs.size = s.heap.objs.size + 1 := Heap.size_push ..
  have e2 : (y42 s.heap u1 u2 d1 d2).objs.size = s.heap.objs.size + 2 := by rw [Heap.size_push, e1]
  have e3 : (y43 s.heap u1 u2 u3 d1 d2 d3).objs.size = s.heap.objs.size + 3 := by rw [Heap.size_push, e2]
  have e4 : (y44 s.heap u1 u2 u3 u4 d1 d2 d3 d4).objs.size = s.heap.objs.size + 4 := by rw [Heap.size_push, e3]
  have eT : (y4T s.heap u1 u2 u3 u4 d1 d2 d3 d4).objs.size = s.heap.objs.size + 5 := by rw [Heap.size_push, e4]
  have eO : (y4O s.heap u1 u2 u3 u4 d1 d2 d3 d4).objs.size = s.heap.objs.size + 6 := by rw [Heap.size_push, eT]
  have fZ : (y4Z s.heap u1 u2 u3 u4 d1 d2 d3 d4).get? (y4O s.heap u1 u2 u3 u4 d1 d2 d3 d4).objs.size = some _ := Heap.get?_push_size _ rfl
  have fO : (y4Z s.heap u1 u2 u3 u4 d1 d2 d3 d4).get? (y4T s.heap u1 u2 u3 u4 d1 d2 d3 d4).objs.size = some _ := Heap.get?_push_of_some _ (Heap.get?_push_size _ rfl)
  have fT : (y4Z s.heap u1 u2 u3 u4 d1 d2 d3 d4).get? (y44 s.heap u1 u2 u3 u4 d1 d2 d3 d4).objs.size = some _ := Heap.get?_push_of_some _ (Heap.get?_push_of_some _ (Heap.get?_push_size _ rfl))
  have f4 : (y4Z s.heap u1 u2 u3 u4 d1 d2 d3 d4).get? (y43 s.heap u1 u2 u3 d1 d2 d3).objs.size = some _ := Heap.get?_push_of_some _ (Heap.get?_push_of_some _ (Heap.get?_push_of_some _ (Heap.get?_push_size _ (itO_free u4 d4))))
  have f3 : (y4Z s.heap u1 u2 u3 u4 d1 d2 d3 d4).get? (y42 s.heap u1 u2 d1 d2).objs.size = some _ := Heap.get?_push_of_some _ (Heap.get?_push_of_some _ (Heap.get?_push_of_some _ (Heap.get?_push_of_some _ (Heap.get?_push_size _ (itO_free u3 d3)))))
  have f2 : (y4Z s.heap u1 u2 u3 u4 d1 d2 d3 d4).get? (y41 s.heap u1 d1).objs.size = some _ := Heap.get?_push_of_some _ (Heap.get?_push_of_some _ (Heap.get?_push_of_some _ (Heap.get?_push_of_some _ (Heap.get?_push_of_some _ (Heap.get?_push_size _ (itO_free u2 d2))))))
  have f1 : (y4Z s.heap u1 u2 u3 u4 d1 d2 d3 d4).get? s.heap.objs.size = some _ := Heap.get?_push_of_some _ (Heap.get?_push_of_some _ (Heap.get?_push_of_some _ (Heap.get?_push_of_some _ (Heap.get?_push_of_some _ (Heap.get?_push_of_some _ (Heap.get?_push_size _ (itO_free u1 d1)))))))
  show _ ∧ _
  rw [e4, eT, eO] at fZ
  rw [e1, e2, e3, e4] at fT
  rw [eT] at fO
  rw [e3] at f4
  rw [e2] at f3
  rw [e1] at f2
  rw [eO]
  exact ⟨⟨_, fZ, rfl⟩, h _ fZ fT fO (itO_is f1) (itO_is f2) (itO_is f3) (itO_is f4) fun c o x => Heap.get?_push_of_some _ (Heap.get?_push_of_some _ (Heap.get?_push_of_some _ (Heap.get?_push_of_some _ (Heap.get?_push_of_some _ (Heap.get?_push_of_some _ (Heap.get?_push_of_some _ (x)))))))⟩
def Itz4 (u1 u2 u3 u4 : Bool) (K : PySem.W.Frag) (a b c d : Addr) : It :=
  ⟨fun i H => ∃ (xs ys zs us : List V) (x y z u : V), SqH u1 K H a xs ∧ SqH u2 K H b ys ∧ SqH u3 K H c zs ∧ SqH u4 K H d us ∧ xs[i]? = some x ∧ ys[i]? = some y ∧ zs[i]? = some z ∧ us[i]? = some u,
    fun i H v H' => ∃ T x y z u, v = .ref T ∧ H T = none ∧ H' = upd H T (.tup [x, y, z, u]) ∧ (∀ l, SqH u1 K H a l → l[i]? = some x) ∧ (∀ l, SqH u2 K H b l → l[i]? = some y) ∧ (∀ l, SqH u3 K H c l → l[i]? = some z) ∧ (∀ l, SqH u4 K H d l → l[i]? = some u),
    fun i H => ∃ xs ys zs us : List V, SqH u1 K H a xs ∧ SqH u2 K H b ys ∧ SqH u3 K H c zs ∧ SqH u4 K H d us ∧ (xs.length ≤ i ∨ ys.length ≤ i ∨ zs.length ≤ i ∨ us.length ≤ i)⟩
theorem turn_z4 {P : Program} {w : World} {K : PySem.W.Frag} {elts : List Expr} {kk : Nat} {tpos : Pos} {u1 u2 u3 u4 : Bool} {a b c d q ti to m1 m2 m3 m4 : Addr} (D : ZA4 q ti to m1 m2 m3 m4 a b c d) :
    Turn P w K (.Tuple elts kk tpos) (Itz4 u1 u2 u3 u4 K a b c d) [q, ti, to, m1, m2, m3, m4] q (fun i h => IsZip h q ti to .none ∧ IsQuad h ti (.ref m1) (.ref m2) (.ref m3) (.ref m4) ∧ (∃ x y z u, IsQuad h to x y z u) ∧ hIt u1 h m1 a i ∧ hIt u2 h m2 b i ∧ hIt u3 h m3 c i ∧ hIt u4 h m4 d i) where
  mem := by simp
  obj := fun i h st e he => by
    obtain ⟨zz, pi, ⟨x, y, z, u, po⟩, w1, w2, w3, w4⟩ := st
    have e' : e = q ∨ e = ti ∨ e = to ∨ e = m1 ∨ e = m2 ∨ e = m3 ∨ e = m4 := by simpa using he
    rcases e' with r | r | r | r | r | r | r
    · rw [r]; exact ⟨_, zz, fun v e => nomatch e⟩
    · rw [r]; exact ⟨_, pi, fun v e => nomatch e⟩
    · rw [r]; exact ⟨_, po, fun v e => nomatch e⟩
    · rw [r]; exact w1.obj
    · rw [r]; exact w2.obj
    · rw [r]; exact w3.obj
    · rw [r]; exact w4.obj
  keep := fun i h h' st k => by
    obtain ⟨zz, pi, ⟨x, y, z, u, po⟩, w1, w2, w3, w4⟩ := st
    exact ⟨k q (by simp) _ zz, k ti (by simp) _ pi, ⟨x, y, z, u, k to (by simp) _ po⟩, w1.to fun o e => k m1 (by simp) o e, w2.to fun o e => k m2 (by simp) o e, w3.to fun o e => k m3 (by simp) o e, w4.to fun o e => k m4 (by simp) o e⟩
  item := by
    intro X hP hw hK hc i pins s σ H E I hf st hg
    subst hP hw hK
    obtain ⟨zz, pi, ⟨x0, y0, z0, u0, po⟩, w1, w2, w3, w4⟩ := st
    obtain ⟨xs, ys, zs, us, x, y, z, u, hq1, hq2, hq3, hq4, hx1, hx2, hx3, hx4⟩ := hg
    obtain ⟨its1, rv1, p1, _⟩ := inv_half I hq1
    obtain ⟨its2, rv2, p2, _⟩ := inv_half I hq2
    obtain ⟨its3, rv3, p3, _⟩ := inv_half I hq3
    obtain ⟨its4, rv4, p4, _⟩ := inv_half I hq4
    obtain ⟨v1, hv1, ru1⟩ := rv1.get hx1
    obtain ⟨v2, hv2, ru2⟩ := rv2.get hx2
    obtain ⟨v3, hv3, ru3⟩ := rv3.get hx3
    obtain ⟨v4, hv4, ru4⟩ := rv4.get hx4
    have ql : q < s.heap.objs.size := Heap.lt_size zz
    refine z4_next_item D zz pi po w1 w2 w3 w4 p1 p2 p3 p4 (x := v1) (y := v2) (z := v3) (u := v4) (by simpa using hv1) (by simpa using hv2) (by simpa using hv3) (by simpa using hv4) fun g z1 po1 w11 w21 w31 w41 hT hsz hk => ?_
    refine ⟨_, rfl, wpAny_letOwnedTupleGo_zip (s := { s with heap := g }) z1 fun g2 z2 sb => ?_⟩
    have hT2 : g2.get? s.heap.objs.size = some { cls := .type "tuple", data := .seq #[v1, v2, v3, v4] } := (sb.2 _ (Nat.ne_of_gt ql)).trans hT
    have new : ObjOk X.prog X.w (upd H s.heap.objs.size (.tup [x, y, z, u])) g2 s.heap.objs.size (.tup [x, y, z, u]) := ⟨by show 4 ≤ sizeLine; decide, [v1, v2, v3, v4], (.cons ru1 (.cons ru2 (.cons ru3 (.cons ru4 .nil)))), ⟨_, hT2, rfl, _, rfl⟩⟩
    have I1 : Inv X pins σ (upd H s.heap.objs.size (.tup [x, y, z, u])) { s with heap := g2 } := I.turnedNew (t' := s.toks) (ch := [q, ti, to, m1, m2, m3, m4])
      (fun e o hb f => (sb.2 e (fun r => hb (by simp [r]))).trans (hk e o (fun r => hb (by simp [r])) (fun r => hb (by simp [r])) (fun r => hb (by simp [r])) (fun r => hb (by simp [r])) (fun r => hb (by simp [r])) (fun r => hb (by simp [r])) f)) hf (Nat.le_refl _) new
    refine ⟨.ref s.heap.objs.size, _, I1, rfl, ⟨_, x, y, z, u, rfl, I.hok.fresh (Nat.le_refl _), rfl, fun l hl => by rw [inv_half_inj I hl hq1]; exact hx1, fun l hl => by rw [inv_half_inj I hl hq2]; exact hx2, fun l hl => by rw [inv_half_inj I hl hq3]; exact hx3, fun l hl => by rw [inv_half_inj I hl hq4]; exact hx4⟩, ⟨z2, ?_, ⟨v1, v2, v3, v4, ?_⟩, ?_, ?_, ?_, ?_⟩, fun e hem => ?_⟩
    · exact (sb.2 _ D.tiq).trans (hk _ _ D.tiq D.tito D.tim1 D.tim2 D.tim3 D.tim4 pi)
    · exact (sb.2 _ D.toq).trans po1
    · exact w11.to fun o e => (sb.2 _ D.m1q).trans e
    · exact w21.to fun o e => (sb.2 _ D.m2q).trans e
    · exact w31.to fun o e => (sb.2 _ D.m3q).trans e
    · exact w41.to fun o e => (sb.2 _ D.m4q).trans e
    · have lt : e < s.heap.objs.size := by
        have e' : e = q ∨ e = ti ∨ e = to ∨ e = m1 ∨ e = m2 ∨ e = m3 ∨ e = m4 := by simpa using hem
        rcases e' with r | r | r | r | r | r | r
        · rw [r]; exact ql
        · rw [r]; exact Heap.lt_size pi
        · rw [r]; exact Heap.lt_size po
        · rw [r]; exact w1.small
        · rw [r]; exact w2.small
        · rw [r]; exact w3.small
        · rw [r]; exact w4.small
      rw [upd_ne (Nat.ne_of_lt lt)]
      exact (hf e hem).1
  done := by
    intro X hP hw hK hc i pins s σ H E I hf st hg
    subst hP hw hK
    obtain ⟨zz, pi, ⟨x0, y0, z0, u0, po⟩, w1, w2, w3, w4⟩ := st
    obtain ⟨xs, ys, zs, us, hq1, hq2, hq3, hq4, hend⟩ := hg
    obtain ⟨its1, rv1, p1, _⟩ := inv_half I hq1
    obtain ⟨its2, rv2, p2, _⟩ := inv_half I hq2
    obtain ⟨its3, rv3, p3, _⟩ := inv_half I hq3
    obtain ⟨its4, rv4, p4, _⟩ := inv_half I hq4
    have l1 := rv1.length
    have l2 := rv2.length
    have l3 := rv3.length
    have l4 := rv4.length
    have he : its1.toArray[i]? = none ∨ its2.toArray[i]? = none ∨ its3.toArray[i]? = none ∨ its4.toArray[i]? = none := hend.imp (fun z => by simp; omega) fun h => h.imp (fun z => by simp; omega) fun h => h.imp (fun z => by simp; omega) fun z => by simp; omega
    exact z4_next_end (I.ok.hd hc) D zz pi po w1 w2 w3 w4 p1 p2 p3 p4 he fun g hk => ⟨rfl, I.turnedL (t' := s.toks) (ch := [q, ti, to, m1, m2, m3, m4]) (fun e o hb f =>
      hk e o (fun r => hb (by simp [r])) (fun r => hb (by simp [r])) (fun r => hb (by simp [r])) (fun r => hb (by simp [r])) (fun r => hb (by simp [r])) (fun r => hb (by simp [r])) f) hf⟩
  self := fun A i s Q E st h => wpAny_pyIter_zip st.1 h
def YQuad (xs ys zs us : Nat → Option V) : Nat → Hp → V → Hp → Prop := fun i H v H' => ∃ T x y z u, v = .ref T ∧ H T = none ∧ H' = upd H T (.tup [x, y, z, u]) ∧ xs i = some x ∧ ys i = some y ∧ zs i = some z ∧ us i = some u
section
variable {X : Cx} {K : PySem.W.Frag}
def iZ4 (u1 u2 u3 u4 : Bool) (K : PySem.W.Frag) (ta : TA) : TI := fun σ H R => ta σ H fun vs H1 => ∃ a b c d xs ys zs us, vs = [.ref a, .ref b, .ref c, .ref d] ∧ SqH u1 K H1 a xs ∧ SqH u2 K H1 b ys ∧ SqH u3 K H1 c zs ∧ SqH u4 K H1 d us ∧ R (Itz4 u1 u2 u3 u4 K a b c d) H1
theorem pi_z4 (u1 u2 u3 u4 : Bool) {e e2 e3 e4 : Expr} {ta : TA} {p pos tpos : Pos} {elts : List Expr} {kk : Nat} (hg : Gl X "zip") (hm : X.mg "zip" = none) (ha : PA X [e, e2, e3, e4] ta)
    (hs : starEach [e, e2, e3, e4] X.env = (false, eval e X.env) :: starEach [e2, e3, e4] X.env := by rfl) (hpl : (backTo pos (starEach [e2, e3, e4] X.env)).any (·.1) = false := by rfl) (hK : X.K = K := by rfl) :
    PI X (.Tuple elts kk tpos) (.Call (.Name "zip" p) [e, e2, e3, e4] [] pos) (iZ4 u1 u2 u3 u4 K ta) := by
  subst hK
  refine ⟨fun pins s σ H R I h => ?_⟩
  refine Call_ (ld_blt I hg hm PyProof.Rows.boot_zip (PyProof.Rows.callWith_type1 (thn (ha.run pos pins s σ H _ I h) fun us s1 ⟨vs, H1, I1, r1, q1⟩ => ?_) hs hpl))
  obtain ⟨a, b, c, d, xs, ys, zs, us, rfl, hq1, hq2, hq3, hq4, q⟩ := q1
  cases r1 with
  | cons r1 rr =>
    cases rr with
    | cons r2 rr =>
      cases rr with
      | cons r3 rr =>
        cases rr with
        | cons r4 rr =>
          cases rr
          cases r1
          cases r2
          cases r3
          cases r4
          have newN : ∀ d, d ∈ [s1.heap.objs.size + 6, s1.heap.objs.size + 4, s1.heap.objs.size + 5, s1.heap.objs.size, s1.heap.objs.size + 1, s1.heap.objs.size + 2, s1.heap.objs.size + 3] → FpOk X pins H1 d := fun d hd => by
            have le : s1.heap.objs.size ≤ d := by
              simp only [List.mem_cons, List.not_mem_nil, or_false] at hd
              rcases hd with z | z | z | z | z | z | z <;> rw [z] <;> first | exact Nat.le_refl _ | exact Nat.le_add_right _ _
            exact I1.fpOk le (I1.hok.fresh le)
          obtain ⟨its1, rv1, p1, lt1⟩ := inv_half I1 hq1
          obtain ⟨its2, rv2, p2, lt2⟩ := inv_half I1 hq2
          obtain ⟨its3, rv3, p3, lt3⟩ := inv_half I1 hq3
          obtain ⟨its4, rv4, p4, lt4⟩ := inv_half I1 hq4
          refine z4_call p1 p2 p3 p4 fun g zz pi po w1 w2 w3 w4 hk => wpAny_pyIter_zip zz ?_
          have I2 : Inv X pins σ H1 { s1 with heap := g } := I1.kept (t' := s1.toks) hk
          exact ⟨s1.heap.objs.size + 6, [s1.heap.objs.size + 6, s1.heap.objs.size + 4, s1.heap.objs.size + 5, s1.heap.objs.size, s1.heap.objs.size + 1, s1.heap.objs.size + 2, s1.heap.objs.size + 3], _, _, H1, rfl, I2, turn_z4 (za4_new lt1 lt2 lt3 lt4), ⟨zz, pi, ⟨_, _, _, _, po⟩, w1, w2, w3, w4⟩, newN, q⟩
theorem walk_z4 {u1 u2 u3 u4 : Bool} {a b c d : Addr} {xs ys zs us : List V} {n : Nat} (hn : n = min xs.length (min ys.length (min zs.length us.length))) : Walk (Itz4 u1 u2 u3 u4 K a b c d) n (fun H => SqH u1 K H a xs ∧ SqH u2 K H b ys ∧ SqH u3 K H c zs ∧ SqH u4 K H d us) (YQuad (fun i => xs[i]?) (fun i => ys[i]?) (fun i => zs[i]?) (fun i => us[i]?)) := by
  subst hn
  refine ⟨fun i H hi q => ⟨xs, ys, zs, us, xs[i]'(by omega), ys[i]'(by omega), zs[i]'(by omega), us[i]'(by omega), q.1, q.2.1, q.2.2.1, q.2.2.2, List.getElem?_eq_getElem _, List.getElem?_eq_getElem _, List.getElem?_eq_getElem _, List.getElem?_eq_getElem _⟩, fun H q => ⟨xs, ys, zs, us, q.1, q.2.1, q.2.2.1, q.2.2.2, by omega⟩, fun i H v H' hi q y => ?_⟩
  obtain ⟨T, x, y, z, u, h1, h2, h3, h4, h5, h6, h7⟩ := y
  exact ⟨T, x, y, z, u, h1, h2, h3, h4 xs q.1, h5 ys q.2.1, h6 zs q.2.2.1, h7 us q.2.2.2⟩
end
end RL
/-! What stands in the heap: numbers, lots, boards, the law's box. -/
namespace RL
open PySem PySem.Spec PyProof.Rows L2 RLM
def vI (k : Nat) : V := .int (k : Nat)
def vO : Option Nat → V
  | none => .non
  | some k => .int (k : Nat)
/-- all but the list at c and dicts stay -/
def Kc (c : Addr) (H H' : Hp) : Prop := ∀ a o, a ≠ c → (∀ kvs, o ≠ .dK kvs) → H a = some o → H' a = some o
theorem Kc.refl (c : Addr) (H : Hp) : Kc c H H := fun _ _ _ _ h => h
theorem Kc.trans {c : Addr} {H H1 H2 : Hp} (a : Kc c H H1) (b : Kc c H1 H2) : Kc c H H2 := fun x o h1 h2 h => b x o h1 h2 (a x o h1 h2 h)
theorem kc_same {c : Addr} {H H' : Hp} (s : Same H H') : Kc c H H' := fun x o _ _ h => s x o h
theorem same_upd {H : Hp} {p : Addr} {o : HO} (h : H p = none) : Same H (upd H p o) := fun b u e => by
  rw [upd_ne (ne_of_none e h)]
  exact e
/-- an object that H does not know may change -/
theorem same_mut {H H' : Hp} {p : Addr} {o : HO} (s : Same H H') (h : H p = none) : Same H (upd H' p o) := fun b u e => by
  rw [upd_ne (ne_of_none e h)]
  exact s b u e
theorem Kc.upd {c : Addr} {H H' : Hp} {p : Addr} {o : HO} (s : Kc c H H') (h : H p = none) : Kc c H (L2.upd H' p o) := fun b u h1 h2 e => by
  rw [upd_ne (ne_of_none e h)]
  exact s b u h1 h2 e
theorem Kc.tup {c : Addr} {H H' : Hp} {a : Addr} {xs : List V} (k : Kc c H H') (hc : ∃ ys, H c = some (.lst ys)) (h : H a = some (.tup xs)) : H' a = some (.tup xs) := by
  refine k a _ (fun e => ?_) (fun kvs z => by cases z) h
  obtain ⟨ys, hc⟩ := hc
  rw [e, hc] at h
  cases h
/-- a list of pairs: where each stands, and what it is -/
structure PairsAt (c : Addr) (H : Hp) (l : Addr) (L : List (Addr × Nat × Nat)) : Prop where
  at_ : H l = some (.lst (L.map fun q => V.ref q.1))
  ne : l ≠ c
  tup : ∀ q ∈ L, H q.1 = some (.tup [vI q.2.1, vI q.2.2])
theorem PairsAt.keep {c : Addr} {H H' : Hp} {l : Addr} {L : List (Addr × Nat × Nat)} (k : Kc c H H') (hc : ∃ ys, H c = some (.lst ys)) (h : PairsAt c H l L) : PairsAt c H' l L :=
  ⟨k _ _ h.ne (fun _ z => by cases z) h.at_, h.ne, fun q hq => k.tup hc (h.tup q hq)⟩
theorem PairsAt.same {c : Addr} {H H' : Hp} {l : Addr} {L : List (Addr × Nat × Nat)} (k : Same H H') (h : PairsAt c H l L) : PairsAt c H' l L :=
  ⟨k _ _ h.at_, h.ne, fun q hq => k _ _ (h.tup q hq)⟩
/-- a board's attributes -/
def bf (n : Nat) (lp ll lf : Addr) : List (Str × V) := putF "fars" (.ref lf) (putF "leads" (.ref ll) (putF "pairs" (.ref lp) (putF "many" (.int (n : Nat)) [])))
structure BoardAt (K : PySem.W.Frag) (c : Addr) (H : Hp) (x : Addr) (n : Nat) (E : List (Nat × Nat)) : Prop where
  ex : ∃ (dx lp ll lf : Addr) (L : List (Addr × Nat × Nat)) (ls : List V) (F : List (Addr × List (Option Nat))), H x = some (.ins (cB K) dx (bf n lp ll lf)) ∧ PairsAt c H lp L ∧ L.map (·.2) = E ∧
    H ll = some (.lst ls) ∧ ll ≠ c ∧ ls.length = n ∧ H lf = some (.lst (F.map fun q => V.ref q.1)) ∧ lf ≠ c ∧ F.length = n ∧ ∀ (a : Nat) (q : Addr × List (Option Nat)), F[a]? = some q → H q.1 = some (.lst (q.2.map vO)) ∧ q.1 ≠ c ∧ Fars n E a q.2
  lo : 1 ≤ n
  hi : n ≤ 8
  on : On n E
  nd : E.Nodup
theorem BoardAt.keep {K : PySem.W.Frag} {c : Addr} {H H' : Hp} {x : Addr} {n : Nat} {E : List (Nat × Nat)} (k : Kc c H H') (hc : ∃ ys, H c = some (.lst ys)) (h : BoardAt K c H x n E) : BoardAt K c H' x n E := by
  obtain ⟨dx, lp, ll, lf, L, ls, F, h1, h2, h3, h4, h5, h6, h7, h8, h9, h10⟩ := h.ex
  refine ⟨⟨dx, lp, ll, lf, L, ls, F, ?_, h2.keep k hc, h3, k _ _ h5 (fun _ z => by cases z) h4, h5, h6, k _ _ h8 (fun _ z => by cases z) h7, h8, h9, fun a q e => ?_⟩, h.lo, h.hi, h.on, h.nd⟩
  · refine k _ _ (fun e => ?_) (fun _ z => by cases z) h1
    obtain ⟨ys, hc⟩ := hc
    rw [e, hc] at h1
    cases h1
  · obtain ⟨q1, q2, q3⟩ := h10 a q e
    exact ⟨k _ _ q2 (fun _ z => by cases z) q1, q2, q3⟩
theorem BoardAt.same {K : PySem.W.Frag} {c : Addr} {H H' : Hp} {x : Addr} {n : Nat} {E : List (Nat × Nat)} (k : Same H H') (h : BoardAt K c H x n E) : BoardAt K c H' x n E := by
  obtain ⟨dx, lp, ll, lf, L, ls, F, h1, h2, h3, h4, h5, h6, h7, h8, h9, h10⟩ := h.ex
  exact ⟨⟨dx, lp, ll, lf, L, ls, F, k _ _ h1, h2.same k, h3, k _ _ h4, h5, h6, k _ _ h7, h8, h9, fun a q e => ⟨k _ _ (h10 a q e).1, (h10 a q e).2⟩⟩, h.lo, h.hi, h.on, h.nd⟩
theorem BoardAt.obj {K : PySem.W.Frag} {c : Addr} {H : Hp} {x : Addr} {n : Nat} {E : List (Nat × Nat)} (h : BoardAt K c H x n E) : ∃ dx lp ll lf, H x = some (.ins (cB K) dx (bf n lp ll lf)) := by
  obtain ⟨dx, lp, ll, lf, L, ls, F, h1, _⟩ := h.ex
  exact ⟨dx, lp, ll, lf, h1⟩
theorem bf_eq (n : Nat) (lp ll lf : Addr) : bf n lp ll lf = ([("many", .int (n : Nat)), ("pairs", .ref lp), ("leads", .ref ll), ("fars", .ref lf)] : List (Str × V)) := by rfl
theorem bf_many (n : Nat) (lp ll lf : Addr) : (bf n lp ll lf).lookup ("many" : Str) = some (.int (n : Nat)) := by rfl
theorem bf_pairs (n : Nat) (lp ll lf : Addr) : (bf n lp ll lf).lookup ("pairs" : Str) = some (.ref lp) := by rfl
theorem bf_leads (n : Nat) (lp ll lf : Addr) : (bf n lp ll lf).lookup ("leads" : Str) = some (.ref ll) := by rfl
theorem bf_fars (n : Nat) (lp ll lf : Addr) : (bf n lp ll lf).lookup ("fars" : Str) = some (.ref lf) := by rfl
theorem bf_check (n : Nat) (lp ll lf : Addr) : (bf n lp ll lf).lookup ("check_place" : Str) = none := by rfl
theorem bf_within (n : Nat) (lp ll lf : Addr) : (bf n lp ll lf).lookup ("within" : Str) = none := by rfl
theorem bf_turned (n : Nat) (lp ll lf : Addr) : (bf n lp ll lf).lookup ("turned" : Str) = none := by rfl
theorem bf_renamed (n : Nat) (lp ll lf : Addr) : (bf n lp ll lf).lookup ("renamed" : Str) = none := by rfl
/-! ### the law's box -/
def boxK (c : Addr) (r s t : Int) : List (Key × V) := [(Sum.inr "cells", .ref c), (Sum.inr "rest", .int r), (Sum.inr "seed", .int s), (Sum.inr "turn", .int t)]
structure Box (b c : Addr) (H : Hp) : Prop where
  ex : ∃ (ns : List Int) (r s t : Int), H b = some (.dK (boxK c r s t)) ∧ H c = some (.lst (ns.map V.int)) ∧ 0 ≤ r ∧ 0 ≤ s ∧ s < 2147483629 ∧ ns.length ≤ 63
theorem Box.same {b c : Addr} {H H' : Hp} (k : Same H H') (h : Box b c H) : Box b c H' := by
  obtain ⟨ns, r, s, t, h1, h2, h3⟩ := h.ex
  exact ⟨ns, r, s, t, k _ _ h1, k _ _ h2, h3⟩
theorem Box.lst {b c : Addr} {H : Hp} (h : Box b c H) : ∃ ys, H c = some (.lst ys) := by
  obtain ⟨ns, r, s, t, h1, h2, h3⟩ := h.ex
  exact ⟨_, h2⟩
theorem bx_cells (c : Addr) (r s t : Int) : valV (boxK c r s t) (Sum.inr "cells" : Key) = some (.ref c) := by rfl
theorem bx_rest (c : Addr) (r s t : Int) : valV (boxK c r s t) (Sum.inr "rest" : Key) = some (.int r) := by rfl
theorem bx_seed (c : Addr) (r s t : Int) : valV (boxK c r s t) (Sum.inr "seed" : Key) = some (.int s) := by rfl
theorem bx_turn (c : Addr) (r s t : Int) : valV (boxK c r s t) (Sum.inr "turn" : Key) = some (.int t) := by rfl
theorem bx_rest_put (c : Addr) (r s t x : Int) : putK (boxK c r s t) (Sum.inr "rest" : Key) (.int x) = boxK c x s t := by rfl
theorem bx_seed_put (c : Addr) (r s t x : Int) : putK (boxK c r s t) (Sum.inr "seed" : Key) (.int x) = boxK c r x t := by rfl
theorem bx_turn_put (c : Addr) (r s t x : Int) : putK (boxK c r s t) (Sum.inr "turn" : Key) (.int x) = boxK c r s x := by rfl
theorem bg_cells {H : Hp} {b c : Addr} {r s t : Int} (hb : H b = some (.dK (boxK c r s t))) : DGet H b (.str "cells") (some (.ref c)) := DGet.k (k := Sum.inr "cells") hb
theorem bg_rest {H : Hp} {b c : Addr} {r s t : Int} (hb : H b = some (.dK (boxK c r s t))) : DGet H b (.str "rest") (some (.int r)) := DGet.k (k := Sum.inr "rest") hb
theorem bg_seed {H : Hp} {b c : Addr} {r s t : Int} (hb : H b = some (.dK (boxK c r s t))) : DGet H b (.str "seed") (some (.int s)) := DGet.k (k := Sum.inr "seed") hb
theorem bg_turn {H : Hp} {b c : Addr} {r s t : Int} (hb : H b = some (.dK (boxK c r s t))) : DGet H b (.str "turn") (some (.int t)) := DGet.k (k := Sum.inr "turn") hb
theorem bp_rest {H : Hp} {b c : Addr} {r s t x : Int} (hb : H b = some (.dK (boxK c r s t))) : DPut H b (.str "rest") (.int x) (upd H b (.dK (boxK c x s t))) := DPut.k (k := Sum.inr "rest") hb (by show 4 < sizeLine; decide)
theorem bp_seed {H : Hp} {b c : Addr} {r s t x : Int} (hb : H b = some (.dK (boxK c r s t))) : DPut H b (.str "seed") (.int x) (upd H b (.dK (boxK c r x t))) := DPut.k (k := Sum.inr "seed") hb (by show 4 < sizeLine; decide)
theorem bp_turn {H : Hp} {b c : Addr} {r s t x : Int} (hb : H b = some (.dK (boxK c r s t))) : DPut H b (.str "turn") (.int x) (upd H b (.dK (boxK c r s x))) := DPut.k (k := Sum.inr "turn") hb (by show 4 < sizeLine; decide)
/-- the dict changes -/
theorem Kc.dict {c b : Addr} {H H' : Hp} {o : HO} (k : Kc c H H') (hb : ∃ kvs, H b = some (.dK kvs)) : Kc c H (L2.upd H' b o) := fun a u h1 h2 e => by
  have ne : a ≠ b := fun z => by
    obtain ⟨kvs, hb⟩ := hb
    rw [z, hb] at e
    exact h2 kvs (Option.some.inj e).symm
  rw [upd_ne ne]
  exact k a u h1 h2 e
theorem Kc.cell {c : Addr} {H H' : Hp} {o : HO} (k : Kc c H H') : Kc c H (L2.upd H' c o) := fun a u h1 h2 e => by
  rw [upd_ne h1]
  exact k a u h1 h2 e
theorem Box.dict {b c : Addr} {H : Hp} (h : Box b c H) : ∃ kvs, H b = some (.dK kvs) := by
  obtain ⟨ns, r, s, t, h1, h2, h3⟩ := h.ex
  exact ⟨_, h1⟩
theorem Box.ne {b c : Addr} {H : Hp} (h : Box b c H) : b ≠ c := by
  obtain ⟨ns, r, s, t, h1, h2, h3⟩ := h.ex
  exact ne_of h1 h2 (by intro z; cases z)
end RL
namespace RL
open PySem PySem.Spec PyProof.Rows L2 RLM
section
variable {P : Program} {w : World} {K : PySem.W.Frag} {mg : Str → Option Value} {base : Heap}
/-! ### data -/
theorem dp_ints {H : Hp} : ∀ ns : List Int, DpAll K H (ns.map V.int) (ns.map PyData.int)
  | [] => .nil
  | n :: ns => .cons (.int n) (dp_ints ns)
theorem shaped_ints (ns : List Int) : SeqAt.shaped (.list (ns.map PyData.int)) = true := PySem.W.ke_shaped_ints ns
theorem shaped_tup (ns : List Int) : SeqAt.shaped (.tuple (ns.map PyData.int)) = true := by
  have h := PySem.W.ke_shaped_ints ns
  exact h
theorem eqv_tup (ns : List Int) : PyData.eqv (.tuple (ns.map PyData.int)) (.tuple (ns.map PyData.int)) = true := SeqAt.eqv_refl _ (SeqAt.canLay_of_shaped (shaped_tup ns))
theorem six0 (n : Nat) : seqIndex? 0 (n + 1) = some 0 := by
  unfold seqIndex?
  simp
theorem cut_ints (ns : List Int) (lo hi : Option Int) : ∃ ms : List Int, cutV (ns.map V.int) lo hi = ms.map V.int ∧ ms.length ≤ ns.length := by
  unfold cutV
  rw [← List.map_drop, ← List.map_take]
  exact ⟨_, rfl, by rw [List.length_take, List.length_drop]; omega⟩
/-! ### is_number, is_between -/
def spNumber : Sp := fun vs H Q _ => ∃ i : Int, vs = [.int i] ∧ Q (.bl true) H
theorem sc_is_number : FnScope ["thing"] ["thing"] (defScope s_is_number) := ⟨rfl, rfl, rfl, by decide +kernel, rfl, by decide +kernel, by decide +kernel⟩
theorem ok_is_number (T : Tx K mg) : Has P w K mg base (He.ga K "is_number") 1 ["thing"] spNumber := by
  obtain ⟨fd, F⟩ := T.d_is_number
  refine ⟨⟨fd, F.ok sc_is_number (fun vs H Q E h => ?_) (fun cdv A outer s H vs Q E hr h => ?_), F.bindsN fun _ _ _ _ _ _ us hl => match us, hl with | [_], _ => rfl⟩, F.kp⟩
  · obtain ⟨i, rfl, _⟩ := h
    rfl
  · obtain ⟨i, rfl, h⟩ := h
    refine ⟨_, PSs.nox (pss_one (ps_ret (pe_and (pe_callB (isiK (K := K)) (by rfl) T.free_isinstance (by decide +kernel) (pa_cons (pv 0) (pa_cons (pe_bltn (v := .ty "int") (u := .type "int") (by rfl) T.free_int (by decide +kernel) rfl) pa_nil))) (pe_one (pe_not (pe_callB (isiK (K := K)) (by rfl) T.free_isinstance (by decide +kernel) (pa_cons (pv 0) (pa_cons (pe_bltn (v := .ty "bool") (u := .type "bool") (by rfl) T.free_bool (by decide +kernel) rfl) pa_nil)))))))), ?_⟩
    refine ⟨_, rfl, _, _, _, _, true, rfl, .ty _, .base (.int i), kit_ty (by decide +kernel), true, rfl, iteT ?_⟩
    exact ⟨_, rfl, _, _, _, _, false, rfl, .ty _, .base (.int i), kit_ty (by decide +kernel), false, rfl, h⟩
def spBetween : Sp := fun vs H Q _ => ∃ i a b : Int, vs = [.int i, .int a, .int b] ∧ Q (.bl (decide (a ≤ i ∧ i ≤ b))) H
theorem sc_is_between : FnScope ["thing", "least", "most"] ["thing", "least", "most"] (defScope s_is_between) := ⟨rfl, rfl, rfl, by decide +kernel, rfl, by decide +kernel, by decide +kernel⟩
theorem ok_is_between (T : Tx K mg) : Has P w K mg base (He.ga K "is_between") 2 ["thing", "least", "most"] spBetween := by
  obtain ⟨⟨fd_is_number, F_is_number, b_is_number⟩, kp_is_number⟩ := ok_is_number (P := P) (w := w) (base := base) T
  obtain ⟨fd, F⟩ := T.d_is_between
  refine ⟨⟨fd, F.ok sc_is_between (fun vs H Q E h => ?_) (fun cdv A outer s H vs Q E hr h => ?_), F.bindsN fun _ _ _ _ _ _ us hl => match us, hl with | [_, _, _], _ => rfl⟩, F.kp⟩
  · obtain ⟨i, a, b, rfl, _⟩ := h
    rfl
  · obtain ⟨i, a, b, rfl, h⟩ := h
    have hr_is_number : Room 1 _ := hr.mono (by decide)
    refine ⟨_, PSs.nox (pss_one (ps_ret (pe_and (pe_call F_is_number hr_is_number rfl T.glo_is_number kp_is_number b_is_number .nil pass0 (pa_cons (pv 0) pa_nil)) (pe_one (pe_chain op_le op_le (pv 1) (pv 0) (pv 2)))))), ?_⟩
    refine ⟨_, rfl, i, rfl, _, rfl, iteT ?_⟩
    refine ⟨_, rfl, _, rfl, _, _, rfl, rfl, _, rfl, ?_⟩
    by_cases h1 : a ≤ i
    · rw [decide_eq_true h1]
      refine iteT ⟨_, rfl, _, _, rfl, rfl, ?_⟩
      have e : decide (a ≤ i ∧ i ≤ b) = decide (i ≤ b) := by simp [h1]
      rw [e] at h
      exact h
    · rw [decide_eq_false h1]
      refine iteF ?_
      have e : decide (a ≤ i ∧ i ≤ b) = false := by simp [h1]
      rw [e] at h
      exact h
/-! ### the box -/
def spBox (K : PySem.W.Frag) : Sp := fun vs H Q _ => ∃ (a : Addr) (ns : List Int), vs = [.ref a] ∧ SqL K H a (ns.map V.int) ∧ ns.length ≤ 63 ∧ ∀ H' b c, Same H H' → Box b c H' → Q (.ref b) H'
theorem sc__law_box : FnScope ["_law_script"] ["_law_script"] (defScope s__law_box) := ⟨rfl, rfl, rfl, by decide +kernel, rfl, by decide +kernel, by decide +kernel⟩
theorem ok_box (T : Tx K mg) : Has P w K mg base (He.ga K "_law_box") 1 ["_law_script"] (spBox K) := by
  obtain ⟨fd, F⟩ := T.d__law_box
  refine ⟨⟨fd, F.ok sc__law_box (fun vs H Q E h => ?_) (fun cdv A outer s H vs Q E hr h => ?_), F.bindsN fun _ _ _ _ _ _ us hl => match us, hl with | [_], _ => rfl⟩, F.kp⟩
  · obtain ⟨a, ns, rfl, _⟩ := h
    rfl
  · obtain ⟨a, ns, rfl, hS, hl, h⟩ := h
    refine ⟨_, PSs.nox (pss_one (ps_ret (pe_disp (pps_cons pe_str (pe_callTy (listK (K := K)) (by rfl) T.free_list (by decide +kernel) (pa_cons (pe_slice (slL (K := K)) (pv 0) po_none (po_some pe_int)) pa_nil)) (pps_cons pe_str pe_int (pps_cons pe_str pe_int (pps_cons pe_str pe_int pps_nil)))) (by rfl) (by rfl) (fun z => by cases z) (by decide)))), ?_⟩
    intro b hb
    have sb : Same H (upd H b (.dK [])) := same_upd hb
    refine ⟨_, rfl, ?_⟩
    refine ⟨63, rfl, a, _, rfl, sb.seq hS, fun q hq => ?_⟩
    have sq := same_upd (o := .lst (cutV (List.map V.int ns) none (some 63))) hq
    obtain ⟨ms, em, lm⟩ := cut_ints ns none (some 63)
    refine ⟨q, _, rfl, .inl (SqL.of upd_same), fun l hl => ?_⟩
    have s2 := same_upd (o := .lst (cutV (List.map V.int ns) none (some 63))) hl
    have s3 := (sb.trans sq).trans s2
    refine ⟨?_, [(Sum.inr "cells", .ref l), (Sum.inr "rest", .int 0), (Sum.inr "seed", .int 9121001), (Sum.inr "turn", .int 0)], rfl, (by show 4 ≤ 15; decide), ?_⟩
    · exact s2 _ _ (sq _ _ upd_same)
    · have nlb : l ≠ b := fun z => by
        rw [z, sq _ _ upd_same] at hl
        cases hl
      refine h _ b l (same_mut s3 hb) ⟨ms, 0, 9121001, 0, upd_same, ?_, by decide, by decide, by decide, by omega⟩
      rw [upd_ne nlb, upd_same, em]
/-! ### pick -/
def spPick : Sp := fun vs H Q _ => ∃ (b c : Addr) (m : Int), vs = [.ref b, .int m] ∧ Box b c H ∧ 1 ≤ m ∧ m < 1073741824 ∧ ∀ H' i, Kc c H H' → Box b c H' → 0 ≤ i → i < m → Q (.int i) H'
theorem sc__law_pick : FnScope ["_law_box_here", "_law_many", "_law_cell", "_law_digit", "_law_seed"] ["_law_box_here", "_law_many"] (defScope s__law_pick) := ⟨rfl, rfl, rfl, by decide +kernel, rfl, by decide +kernel, by decide +kernel⟩
theorem ok_pick (T : Tx K mg) : Has P w K mg base (He.ga K "_law_pick") 1 ["_law_box_here", "_law_many"] spPick := by
  obtain ⟨fd, F⟩ := T.d__law_pick
  refine ⟨⟨fd, F.ok sc__law_pick (fun vs H Q E h => ?_) (fun cdv A outer s H vs Q E hr h => ?_), F.bindsN fun _ _ _ _ _ _ us hl => match us, hl with | [_, _], _ => rfl⟩, F.kp⟩
  · obtain ⟨b, c, m, rfl, _⟩ := h
    rfl
  · obtain ⟨b, c, m, rfl, B, m1, m2, h⟩ := h
    have hu := hu_of hr
    refine ⟨_, PSs.nox (C8.pss_cut (ps_if (PW.pt (pw_and (pt_cmpR op_eq (pe_dget hu (pv 0) pe_str (fun _ _ => rfl)) pe_int (nomark _)) (pw_and1 (pt_cmpR (neD (K := K) hr.units) (pe_dget hu (pv 0) pe_str (fun _ _ => rfl)) (pe_lst pa_nil) (nomark _))))) (pss_cons (ps_set (i := 2) sc__law_pick.nd rfl (Or.inl rfl) (bmK (K := K) PySem.F.plainAttrs_list PySem.F.slot_list_pop PySem.F.type_list_pop mt_popAt (pe_dget hu (pv 0) pe_str (fun _ _ => rfl)) (pa_cons pe_int pa_nil)))
      (pss_cons (ps_dput hu (pv 0) pe_str (pe_callB (call_max2 rfl) (by rfl) T.free_max (by decide +kernel) (pa_cons pe_int (pa_cons (pe_op op_sub (pv 2) (pe_op op_pow pe_int pe_int)) pa_nil))) rfl)
      (pss_one (ps_dput hu (pv 0) pe_str (pe_op op_mod (pe_op op_add (pe_op op_add (pe_op op_mul (pe_dget hu (pv 0) pe_str (fun _ _ => rfl)) pe_int) (pe_op op_mul (pe_op op_mod (pv 2) pe_int) pe_int)) pe_int) pe_int) rfl)))) pss_nil)
      (pss_cons (ps_if (pt_cmpR op_gt (pe_dget hu (pv 0) pe_str (fun _ _ => rfl)) pe_int (nomark _)) (pss_cons (ps_set (i := 3) sc__law_pick.nd rfl (Or.inl rfl) (pe_op op_modN (pe_dget hu (pv 0) pe_str (fun _ _ => rfl)) (pv 1)))
      (pss_cons (ps_dput hu (pv 0) pe_str (pe_op op_fdivN (pe_dget hu (pv 0) pe_str (fun _ _ => rfl)) (pv 1)) rfl)
      (pss_one (ps_ret (pv 3))))) pss_nil)
      (pss_cons (ps_dput hu (pv 0) pe_str (pe_op op_add (pe_dget hu (pv 0) pe_str (fun _ _ => rfl)) pe_int) rfl)
      (pss_cons (ps_set (i := 4) sc__law_pick.nd rfl (Or.inl rfl) (pe_op op_mod (pe_op op_add (pe_op op_add (pe_op op_mul (pe_dget hu (pv 0) pe_str (fun _ _ => rfl)) pe_int) (pe_op op_mul (pe_dget hu (pv 0) pe_str (fun _ _ => rfl)) pe_int)) pe_int) pe_int))
      (pss_cons (ps_dput hu (pv 0) pe_str (pe_op op_mod (pe_op op_add (pe_op op_add (pe_op op_mul (pv 4) (pv 4)) (pe_op op_mul pe_int (pv 4))) pe_int) pe_int) rfl)
      (pss_one (ps_ret (pe_op op_modN (pe_op op_add (pe_op op_fdiv (pe_dget hu (pv 0) pe_str (fun _ _ => rfl)) pe_int) (pe_op op_mul (pe_op op_mod (pe_dget hu (pv 0) pe_str (fun _ _ => rfl)) pe_int) pe_int)) (pv 1))))))))), ?_⟩
    refine ⟨fun σ H1 => (∃ v2, σ = [some (.ref b), some (.int m), v2, none, none]) ∧ Kc c H H1 ∧ Box b c H1, ?_, ?_⟩
    · obtain ⟨ns, r, z, t, hb, hc, r0, z0, z1, nl⟩ := B.ex
      have nbc := B.ne
      refine ⟨_, rfl, b, _, rfl, bg_rest hb, rfl, _, rfl, ?_⟩
      refine ite2 (fun hr0 => ?_) (fun hr0 => iteF ⟨⟨none, rfl⟩, Kc.refl c H, B⟩)
      refine ⟨_, rfl, b, _, rfl, bg_cells hb, Nat.zero_le _, fun l hl => ?_⟩
      have sl : Same H (upd H l (.lst [])) := same_upd hl
      refine ⟨.list (ns.map .int), .list [], .lst (SqL.of (sl _ _ hc)) (dp_ints ns), .lst (SqL.of upd_same) .nil, shaped_ints ns, shaped_ints [], _, rfl, ?_⟩
      cases ns with
      | nil => exact iteF ⟨⟨none, rfl⟩, kc_same sl, B.same sl⟩
      | cons n0 ns =>
        refine iteT ?_
        have hb1 := sl _ _ hb
        have hc1 := sl _ _ hc
        generalize hH1 : upd H l (.lst []) = H1 at sl hb1 hc1
        refine ⟨_, rfl, b, _, rfl, bg_cells hb1, .inl ⟨rfl, _, SqL.of hc1⟩, c, _, 0, 0, _, rfl, rfl, hc1, by decide, by decide, six0 _, rfl, ?_⟩
        have hb2 : (upd H1 c (.lst (ns.map V.int))) b = some (.dK (boxK c r z t)) := by
          rw [upd_ne nbc]
          exact hb1
        have hc2 : (upd H1 c (.lst (ns.map V.int))) c = some (.lst (ns.map V.int)) := upd_same
        have k2 : Kc c H (upd H1 c (.lst (ns.map V.int))) := (kc_same sl).cell
        have e2 : ((n0 :: ns).map V.int).eraseIdx 0 = ns.map V.int := rfl
        rw [e2]
        generalize upd H1 c (.lst (ns.map V.int)) = H2 at hb2 hc2 k2
        refine ⟨_, rfl, _, _, rfl, rfl, ⟨by decide, by decide, by decide⟩, _, _, rfl, rfl, _, _, rfl, _, rfl, b, _, rfl, bp_rest hb2, ?_⟩
        have hb3 : (upd H2 b (.dK (boxK c (if n0 - 10 ^ (18 : Int).toNat > 0 then n0 - 10 ^ (18 : Int).toNat else 0) z t))) b = _ := upd_same
        have hc3 : (upd H2 b (.dK (boxK c (if n0 - 10 ^ (18 : Int).toNat > 0 then n0 - 10 ^ (18 : Int).toNat else 0) z t))) c = some (.lst (ns.map V.int)) := by
          rw [upd_ne nbc.symm]
          exact hc2
        have k3 : Kc c H (upd H2 b (.dK (boxK c (if n0 - 10 ^ (18 : Int).toNat > 0 then n0 - 10 ^ (18 : Int).toNat else 0) z t))) := k2.dict ⟨_, hb⟩
        have r3 : 0 ≤ (if n0 - 10 ^ (18 : Int).toNat > 0 then n0 - 10 ^ (18 : Int).toNat else 0) := by split <;> omega
        generalize (if n0 - 10 ^ (18 : Int).toNat > 0 then n0 - 10 ^ (18 : Int).toNat else 0) = r1 at hb3 hc3 k3 r3
        generalize upd H2 b (.dK (boxK c r1 z t)) = H3 at hb3 hc3 k3
        refine ⟨_, rfl, b, _, rfl, bg_seed hb3, _, _, rfl, rfl, .inl ⟨by omega, by omega⟩, _, rfl, _, _, rfl, rfl, (by show (0 : Int) < 1000003; decide), _, _, rfl, rfl, .inr ⟨by decide, by decide⟩, _, _, rfl, rfl, _, _, rfl, rfl, _, _, rfl, rfl, (by show (0 : Int) < 2147483629; decide), _, rfl, b, _, rfl, bp_seed hb3, ?_⟩
        refine ⟨⟨_, rfl⟩, k3.dict ⟨_, hb⟩, ⟨ns, r1, _, t, upd_same, ?_, r3, Int.emod_nonneg _ (by decide), Int.emod_lt_of_pos _ (by decide), ?_⟩⟩
        · rw [upd_ne nbc.symm]
          exact hc3
        · rw [List.length_cons] at nl
          omega
    · rintro σ H1 ⟨⟨v2, rfl⟩, k1, B1⟩
      obtain ⟨ns, r, z, t, hb, hc, r0, z0, z1, nl⟩ := B1.ex
      have nbc := B1.ne
      refine ⟨_, rfl, b, _, rfl, bg_rest hb, _, _, rfl, rfl, _, rfl, ?_⟩
      refine ite2 (fun hr0 => ?_) (fun hr0 => ?_)
      · refine ⟨_, rfl, b, _, rfl, bg_rest hb, _, rfl, _, _, rfl, rfl, by omega, ?_⟩
        refine ⟨_, rfl, b, _, rfl, bg_rest hb, _, rfl, _, _, rfl, rfl, ⟨by omega, by omega⟩, _, rfl, b, _, rfl, bp_rest hb, ?_⟩
        refine ⟨_, rfl, ?_⟩
        have e1 : r.fmod m = r % m := Int.fmod_eq_emod_of_nonneg _ (by omega)
        have e2 : r.fdiv m = r / m := Int.fdiv_eq_ediv_of_nonneg _ (by omega)
        refine h _ _ (k1.dict B.dict) ⟨ns, _, z, t, upd_same, ?_, ?_, z0, z1, nl⟩ ?_ ?_
        · rw [upd_ne nbc.symm]
          exact hc
        · rw [e2]
          exact Int.ediv_nonneg r0 (by omega)
        · rw [e1]
          exact Int.emod_nonneg _ (by omega)
        · rw [e1]
          exact Int.emod_lt_of_pos _ (by omega)
      · refine ⟨_, rfl, b, _, rfl, bg_turn hb, _, _, rfl, rfl, _, rfl, b, _, rfl, bp_turn hb, ?_⟩
        have hb2 : (upd H1 b (.dK (boxK c r z (t + 1)))) b = _ := upd_same
        have hc2 : (upd H1 b (.dK (boxK c r z (t + 1)))) c = some (.lst (ns.map V.int)) := by
          rw [upd_ne nbc.symm]
          exact hc
        have k2 : Kc c H (upd H1 b (.dK (boxK c r z (t + 1)))) := k1.dict B.dict
        generalize upd H1 b (.dK (boxK c r z (t + 1))) = H2 at hb2 hc2 k2
        refine ⟨_, rfl, b, _, rfl, bg_seed hb2, _, _, rfl, rfl, .inl ⟨by omega, by omega⟩, _, rfl, b, _, rfl, bg_turn hb2, _, _, rfl, rfl, .inr ⟨by decide, by decide⟩, _, _, rfl, rfl, _, _, rfl, rfl, _, _, rfl, rfl, (by show (0 : Int) < 2147483629; decide), ?_⟩
        have y0 : 0 ≤ (z * 16807 + (t + 1) * 7919 + 3) % 2147483629 := Int.emod_nonneg _ (by decide)
        have y1 : (z * 16807 + (t + 1) * 7919 + 3) % 2147483629 < 2147483629 := Int.emod_lt_of_pos _ (by decide)
        refine ⟨_, rfl, _, rfl, _, _, rfl, rfl, .inl ⟨by omega, by omega⟩, _, rfl, _, _, rfl, rfl, .inl ⟨by decide, by decide⟩, _, _, rfl, rfl, _, _, rfl, rfl, _, _, rfl, rfl, (by show (0 : Int) < 2147483629; decide), _, rfl, b, _, rfl, bp_seed hb2, ?_⟩
        refine ⟨_, rfl, b, _, rfl, bg_seed upd_same, _, _, rfl, rfl, ⟨by decide, by decide⟩, _, rfl, b, _, rfl, bg_seed upd_same, _, _, rfl, rfl, (by show (0 : Int) < 127; decide), _, _, rfl, rfl, .inr ⟨by decide, by decide⟩, _, _, rfl, rfl, _, rfl, _, _, rfl, rfl, by omega, ?_⟩
        show Q (.int (Int.fmod _ m)) _
        rw [Int.fmod_eq_emod_of_nonneg _ (by omega)]
        refine h _ _ (k2.dict B.dict) ⟨ns, r, _, t + 1, upd_same, ?_, r0, Int.emod_nonneg _ (by decide), Int.emod_lt_of_pos _ (by decide), nl⟩ (Int.emod_nonneg _ (by omega)) (Int.emod_lt_of_pos _ (by omega))
        rw [upd_ne nbc.symm]
        exact hc2
end
end RL
/-! Comprehensions whose turns leave all that was there as it was. -/
namespace RL
open PySem PySem.Spec PyProof.Rows L2 RLM
/-- all tuples stay -/
def TK (H H' : Hp) : Prop := ∀ (a : Addr) (xs : List V), H a = some (.tup xs) → H' a = some (.tup xs)
theorem TK.refl (H : Hp) : TK H H := fun _ _ h => h
theorem TK.trans {H H1 H2 : Hp} (a : TK H H1) (b : TK H1 H2) : TK H H2 := fun x xs h => b x xs (a x xs h)
theorem tk_same {H H' : Hp} (s : Same H H') : TK H H' := fun a xs h => s _ _ h
theorem tk_lst {H : Hp} {D : Addr} {acc bcc : List V} (h : H D = some (.lst acc)) : TK H (upd H D (.lst bcc)) := fun a xs e => by
  rw [upd_ne (ne_of e h (by intro z; cases z))]
  exact e
theorem Kc.tk {c : Addr} {H H' : Hp} (k : Kc c H H') (hc : ∃ ys, H c = some (.lst ys)) : TK H H' := fun a xs h => k.tup hc h
section
variable {J : It} {n : Nat} {G : Hp → Prop} {Y : Nat → Hp → V → Hp → Prop} {g : TG} {tt : TT} {te : TE} {vs : List Nat} {σ : L2.St} {H : Hp} {D : Addr} {Qd : Hp → Prop}
/-- [e for x in ..]: what R says of each -/
theorem lc_rel (w : Walk J n G Y) (R : Nat → V → Hp → Prop) (hn : n ≤ 100000) (hD : H D = none) (tk : ∀ k v H1 H2, R k v H1 → TK H1 H2 → R k v H2) (hG : ∀ H1, Same H H1 → G H1)
    (hs : ∀ i x H1 H2 (Nx : V → Hp → Prop), i < n → Same H H1 → Y i H1 x H2 → (∀ y H4, R i y H4 → Same H1 H4 → Nx y H4) → g x (wipe σ vs) H2 fun σ2 H3 => wipe σ2 vs = wipe σ vs ∧ te σ2 H3 Nx)
    (hd : ∀ H1 ys, H1 D = some (.lst ys) → ys.length = n → (∀ k y, ys[k]? = some y → R k y H1) → Same H H1 → Qd H1) :
    ∃ W : Nat → Nat → Hp → Prop, (∃ m, W 0 m (upd H D (.lst []))) ∧ ∀ i m H, W i m H →
      (J.stop i H ∧ Qd H) ∨ (J.go i H ∧ ∃ Nx : Hp → Prop, (∀ H', Nx H' → ∃ m', m' < m ∧ W (i + 1) m' H') ∧ ∀ x H', J.yld i H x H' → g x (wipe σ vs) H' fun σ2 H2 => wipe σ2 vs = wipe σ vs ∧ tYes σ2 H2 fun b H3 =>
        if b = true then te σ2 H3 fun y H4 => ∃ acc, H4 D = some (.lst acc) ∧ acc.length < sizeLine ∧ Nx (upd H4 D (.lst (acc ++ [y]))) else Nx H3) := by
  refine lc_it w (fun i H1 => ∃ ys, H1 D = some (.lst ys) ∧ ys.length = i ∧ (∀ k y, ys[k]? = some y → R k y H1) ∧ Same H H1) ⟨[], upd_same, rfl, fun k y e => (by simp at e), same_upd hD⟩ (fun i H1 _ ⟨_, _, _, _, s1⟩ => hG H1 s1) ?_ (fun H1 ⟨ys, h1, h2, h3, h4⟩ => hd H1 ys h1 h2 h3 h4)
  rintro i x H1 H2 hi ⟨ys, h1, h2, h3, s1⟩ hY
  refine hs i x H1 H2 (fun y H4 => ∃ acc, H4 D = some (.lst acc) ∧ acc.length < sizeLine ∧ ∃ zs, (upd H4 D (.lst (acc ++ [y]))) D = some (.lst zs) ∧ zs.length = i + 1 ∧ (∀ k y', zs[k]? = some y' → R k y' (upd H4 D (.lst (acc ++ [y])))) ∧ Same H (upd H4 D (.lst (acc ++ [y])))) hi s1 hY fun y H4 r s4 => ?_
  have h4 := s4 _ _ h1
  refine ⟨ys, h4, ?_, ys ++ [y], upd_same, by simp [h2], fun k y' e => ?_, same_mut (s1.trans s4) hD⟩
  · rw [h2]
    exact Nat.lt_of_lt_of_le hi (Nat.le_trans hn (by decide))
  · by_cases hk : k < ys.length
    · rw [List.getElem?_append_left hk] at e
      exact tk _ _ _ _ (h3 k y' e) ((tk_same s4).trans (tk_lst h4))
    · rw [List.getElem?_append_right (by omega)] at e
      have ek : k = ys.length := by
        obtain ⟨z1, _⟩ := List.getElem?_eq_some_iff.mp e
        simp at z1
        omega
      rw [ek, Nat.sub_self] at e
      cases e
      rw [ek, h2]
      exact tk _ _ _ _ r (tk_lst h4)
/-- [f(x) for x in ..]: plain values -/
theorem lc_val (w : Walk J n G Y) (f : Nat → V) (hn : n ≤ 100000) (hD : H D = none) (hG : ∀ H1, Same H H1 → G H1)
    (hs : ∀ i x H1 H2 (Nx : V → Hp → Prop), i < n → Same H H1 → Y i H1 x H2 → (∀ H4, Same H1 H4 → Nx (f i) H4) → g x (wipe σ vs) H2 fun σ2 H3 => wipe σ2 vs = wipe σ vs ∧ te σ2 H3 Nx)
    (hd : ∀ H1, H1 D = some (.lst ((List.range n).map f)) → Same H H1 → Qd H1) :
    ∃ W : Nat → Nat → Hp → Prop, (∃ m, W 0 m (upd H D (.lst []))) ∧ ∀ i m H, W i m H →
      (J.stop i H ∧ Qd H) ∨ (J.go i H ∧ ∃ Nx : Hp → Prop, (∀ H', Nx H' → ∃ m', m' < m ∧ W (i + 1) m' H') ∧ ∀ x H', J.yld i H x H' → g x (wipe σ vs) H' fun σ2 H2 => wipe σ2 vs = wipe σ vs ∧ tYes σ2 H2 fun b H3 =>
        if b = true then te σ2 H3 fun y H4 => ∃ acc, H4 D = some (.lst acc) ∧ acc.length < sizeLine ∧ Nx (upd H4 D (.lst (acc ++ [y]))) else Nx H3) := by
  refine lc_rel w (fun k v _ => v = f k) hn hD (fun _ _ _ _ h _ => h) hG (fun i x H1 H2 Nx hi s1 hY h => hs i x H1 H2 Nx hi s1 hY fun H4 s4 => h _ _ rfl s4) fun H1 ys h1 h2 h3 s1 => hd H1 ?_ s1
  rw [h1]
  congr 2
  refine List.ext_getElem? fun k => ?_
  by_cases hk : k < n
  · have e : ys[k]? = some ys[k] := List.getElem?_eq_getElem (by omega)
    rw [e, h3 k _ e, List.getElem?_map, List.getElem?_range hk]
    rfl
  · rw [List.getElem?_eq_none (by omega), List.getElem?_eq_none (by simp; omega)]
/-- [b for b in .. if t(b)], the b numbers -/
theorem lc_filt (w : Walk J n G Y) (xs : List Nat) (t : Nat → Bool) (hx : n = xs.length) (hn : n ≤ 100000) (hD : H D = none) (hG : ∀ H1, Same H H1 → G H1)
    (hs : ∀ i b x H1 H2 (N1 : V → Hp → Prop) (N0 : Hp → Prop), xs[i]? = some b → Same H H1 → Y i H1 x H2 → (∀ H4, t b = true → Same H1 H4 → N1 (vI b) H4) → (∀ H4, t b = false → Same H1 H4 → N0 H4) →
      g x (wipe σ vs) H2 fun σ2 H3 => wipe σ2 vs = wipe σ vs ∧ tt σ2 H3 fun c H4 => if c = true then te σ2 H4 N1 else N0 H4)
    (hd : ∀ H1, H1 D = some (.lst ((xs.filter t).map vI)) → Same H H1 → Qd H1) :
    ∃ W : Nat → Nat → Hp → Prop, (∃ m, W 0 m (upd H D (.lst []))) ∧ ∀ i m H, W i m H →
      (J.stop i H ∧ Qd H) ∨ (J.go i H ∧ ∃ Nx : Hp → Prop, (∀ H', Nx H' → ∃ m', m' < m ∧ W (i + 1) m' H') ∧ ∀ x H', J.yld i H x H' → g x (wipe σ vs) H' fun σ2 H2 => wipe σ2 vs = wipe σ vs ∧ tt σ2 H2 fun b H3 =>
        if b = true then te σ2 H3 fun y H4 => ∃ acc, H4 D = some (.lst acc) ∧ acc.length < sizeLine ∧ Nx (upd H4 D (.lst (acc ++ [y]))) else Nx H3) := by
  refine lc_it w (fun i H1 => H1 D = some (.lst (((xs.take i).filter t).map vI)) ∧ Same H H1) ⟨upd_same, same_upd hD⟩ (fun i H1 _ ⟨_, s1⟩ => hG H1 s1) ?_ (fun H1 ⟨h1, h2⟩ => hd H1 (by rw [hx, List.take_length] at h1; exact h1) h2)
  rintro i x H1 H2 hi ⟨h1, s1⟩ hY
  have hb : xs[i]? = some (xs[i]'(by omega)) := List.getElem?_eq_getElem _
  generalize xs[i]'(by omega) = b at hb
  have et : xs.take (i + 1) = xs.take i ++ [b] := by
    rw [List.take_add_one, hb]
    rfl
  refine hs i b x H1 H2 _ _ hb s1 hY (fun H4 tb s4 => ⟨_, s4 _ _ h1, ?_, ?_, same_mut (s1.trans s4) hD⟩) (fun H4 tb s4 => ⟨?_, s1.trans s4⟩)
  · rw [List.length_map]
    refine Nat.lt_of_le_of_lt (List.length_filter_le _ _) (Nat.lt_of_le_of_lt (?_ : _ ≤ 100000) (by decide))
    rw [List.length_take]
    omega
  · rw [upd_same, et, List.filter_append, List.filter_cons, if_pos tb, List.map_append]
    rfl
  · rw [s4 _ _ h1, et, List.filter_append, List.filter_cons, if_neg (by rw [tb]; exact Bool.false_ne_true), List.filter_nil, List.append_nil]
end
/-- what stands in a list or a tuple of numbers -/
theorem get_vI {xs : List Nat} {i : Nat} {x : V} (h : (xs.map vI)[i]? = some x) : ∃ b, xs[i]? = some b ∧ x = vI b := by
  rw [List.getElem?_map] at h
  cases e : xs[i]? with
  | none => rw [e] at h; cases h
  | some b => rw [e] at h; exact ⟨b, rfl, (Option.some.inj h).symm⟩
theorem get_mapV {α : Type} {f : α → V} {xs : List α} {i : Nat} {x : V} (h : (xs.map f)[i]? = some x) : ∃ b, xs[i]? = some b ∧ x = f b := by
  rw [List.getElem?_map] at h
  cases e : xs[i]? with
  | none => rw [e] at h; cases h
  | some b => rw [e] at h; exact ⟨b, rfl, (Option.some.inj h).symm⟩
theorem range_vI (n : Nat) (f : Nat → Nat) : (List.range n).map (fun i => vI (f i)) = ((List.range n).map f).map vI := by rw [List.map_map]; rfl
theorem filter_lot {n : Nat} {p : Nat → Prop} {t : Nat → Bool} {xs : List Nat} (hs : xs.Pairwise (· < ·)) (hm : ∀ b, b ∈ xs ∧ t b = true ↔ b < n ∧ p b) : xs.filter t = lotP n p :=
  lotP_of (hs.filter _) fun b => by rw [List.mem_filter]; exact hm b
end RL
namespace RL
open PySem PySem.Spec PyProof.Rows L2 RLM
section
variable {P : Program} {w : World} {K : PySem.W.Frag} {mg : Str → Option Value} {base : Heap}
/-! ### from a menu -/
def spFrom : Sp := fun vs H Q _ => ∃ (b c l : Addr) (xs : List V), vs = [.ref b, .ref l] ∧ Box b c H ∧ H l = some (.lst xs) ∧ l ≠ c ∧ 1 ≤ xs.length ∧ xs.length ≤ 1000 ∧ ∀ H' x, Kc c H H' → Box b c H' → x ∈ xs → Q x H'
theorem sc__law_from : FnScope ["_law_box_here", "_law_menu"] ["_law_box_here", "_law_menu"] (defScope s__law_from) := ⟨rfl, rfl, rfl, by decide +kernel, rfl, by decide +kernel, by decide +kernel⟩
theorem ok_from (T : Tx K mg) : Has P w K mg base (He.ga K "_law_from") 2 ["_law_box_here", "_law_menu"] spFrom := by
  obtain ⟨⟨fd_law_pick, F_law_pick, b_law_pick⟩, kp_law_pick⟩ := ok_pick (P := P) (w := w) (base := base) T
  obtain ⟨fd, F⟩ := T.d__law_from
  refine ⟨⟨fd, F.ok sc__law_from (fun vs H Q E h => ?_) (fun cdv A outer s H vs Q E hr h => ?_), F.bindsN fun _ _ _ _ _ _ us hl => match us, hl with | [_, _], _ => rfl⟩, F.kp⟩
  · obtain ⟨b, c, l, xs, rfl, _⟩ := h
    rfl
  · obtain ⟨b, c, l, xs, rfl, B, hl, nc, l1, l2, h⟩ := h
    have hr_law_pick : Room 1 _ := hr.mono (by decide)
    refine ⟨_, PSs.nox (pss_one (ps_ret (pe_ix (ixS (K := K)) (pv 1) (pe_call F_law_pick hr_law_pick rfl T.glo_law_pick kp_law_pick b_law_pick .nil pass0 (pa_cons (pv 0) (pa_cons (pe_callB (lenK (K := K)) (by rfl) T.free_len (by decide +kernel) (pa_cons (pv 1) pa_nil)) pa_nil))) (fun _ _ => rfl)))), ?_⟩
    refine ⟨_, rfl, _, rfl, _, rfl, l, _, rfl, .inl (SqL.of hl), b, c, _, rfl, B, by omega, by omega, fun H1 i k1 B1 i0 i1 => ?_⟩
    have hl1 : H1 l = some (.lst xs) := k1 _ _ nc (fun _ z => by cases z) hl
    obtain ⟨j, rfl⟩ : ∃ j : Nat, i = (j : Nat) := ⟨i.toNat, by omega⟩
    have hj : j < xs.length := by omega
    refine .inl ⟨l, xs, _, xs[j], rfl, rfl, SqL.of hl1, atI_nat (by simp [hj]), h H1 _ k1 B1 (List.getElem_mem hj)⟩
/-! ### from a tuple -/
def spFromT : Sp := fun vs H Q _ => ∃ (b c l : Addr) (xs : List V), vs = [.ref b, .ref l] ∧ Box b c H ∧ H l = some (.tup xs) ∧ 1 ≤ xs.length ∧ xs.length ≤ 1000 ∧ ∀ H' x, Kc c H H' → Box b c H' → x ∈ xs → Q x H'
theorem ok_fromT (T : Tx K mg) : Has P w K mg base (He.ga K "_law_from") 2 ["_law_box_here", "_law_menu"] spFromT := by
  obtain ⟨⟨fd_law_pick, F_law_pick, b_law_pick⟩, kp_law_pick⟩ := ok_pick (P := P) (w := w) (base := base) T
  obtain ⟨fd, F⟩ := T.d__law_from
  refine ⟨⟨fd, F.ok sc__law_from (fun vs H Q E h => ?_) (fun cdv A outer s H vs Q E hr h => ?_), F.bindsN fun _ _ _ _ _ _ us hl => match us, hl with | [_, _], _ => rfl⟩, F.kp⟩
  · obtain ⟨b, c, l, xs, rfl, _⟩ := h
    rfl
  · obtain ⟨b, c, l, xs, rfl, B, hl, l1, l2, h⟩ := h
    have hr_law_pick : Room 1 _ := hr.mono (by decide)
    refine ⟨_, PSs.nox (pss_one (ps_ret (pe_ix (ixS (K := K)) (pv 1) (pe_call F_law_pick hr_law_pick rfl T.glo_law_pick kp_law_pick b_law_pick .nil pass0 (pa_cons (pv 0) (pa_cons (pe_callB (lenK (K := K)) (by rfl) T.free_len (by decide +kernel) (pa_cons (pv 1) pa_nil)) pa_nil))) (fun _ _ => rfl)))), ?_⟩
    refine ⟨_, rfl, _, rfl, _, rfl, l, _, rfl, (.inr (SqT.of hl)), b, c, _, rfl, B, by omega, by omega, fun H1 i k1 B1 i0 i1 => ?_⟩
    have hl1 : H1 l = some (.tup xs) := k1.tup B.lst hl
    obtain ⟨j, rfl⟩ : ∃ j : Nat, i = (j : Nat) := ⟨i.toNat, by omega⟩
    have hj : j < xs.length := by omega
    refine .inr (.inl ⟨l, xs, _, xs[j], rfl, rfl, SqT.of hl1, atI_nat (by simp [hj]), h H1 _ k1 B1 (List.getElem_mem hj)⟩)
/-! ### mixed -/
def spMixed : Sp := fun vs H Q _ => ∃ (b c l : Addr) (xs : List V), vs = [.ref b, .ref l] ∧ Box b c H ∧ H l = some (.lst xs) ∧ l ≠ c ∧ xs.length ≤ 1000 ∧ ∀ H' p ys, ys.Perm xs → H' p = some (.lst ys) → p ≠ c → Kc c H H' → Box b c H' → Q (.ref p) H'
theorem perm_ins {α : Type} (ys : List α) (j : Nat) (y : α) : (ys.take j ++ [y] ++ ys.drop j).Perm (ys ++ [y]) := by
  have e : ys ++ [y] = ys.take j ++ (ys.drop j ++ [y]) := by rw [← List.append_assoc, List.take_append_drop]
  rw [e, List.append_assoc]
  exact (List.perm_append_comm).append_left _
theorem sc__law_mixed : FnScope ["_law_box_here", "_law_things", "_law_found", "_law_thing"] ["_law_box_here", "_law_things"] (defScope s__law_mixed) := ⟨rfl, rfl, rfl, by decide +kernel, rfl, by decide +kernel, by decide +kernel⟩
theorem ok_mixed (T : Tx K mg) : Has P w K mg base (He.ga K "_law_mixed") 2 ["_law_box_here", "_law_things"] spMixed := by
  obtain ⟨⟨fd_law_pick, F_law_pick, b_law_pick⟩, kp_law_pick⟩ := ok_pick (P := P) (w := w) (base := base) T
  obtain ⟨fd, F⟩ := T.d__law_mixed
  refine ⟨⟨fd, F.ok sc__law_mixed (fun vs H Q E h => ?_) (fun cdv A outer s H vs Q E hr h => ?_), F.bindsN fun _ _ _ _ _ _ us hl => match us, hl with | [_, _], _ => rfl⟩, F.kp⟩
  · obtain ⟨b, c, l, xs, rfl, _⟩ := h
    rfl
  · obtain ⟨b, c, l, xs, rfl, B, hl, nc, l2, h⟩ := h
    have hr_law_pick : Room 1 _ := hr.mono (by decide)
    refine ⟨_, PSs.nox (pss_cons (ps_set (i := 2) sc__law_mixed.nd rfl (Or.inl rfl) (pe_lst pa_nil))
      (pss_cons (ps_for PassesOwn.never rfl (piL (K := K) (pv 1)) (pg_name (i := 3) sc__law_mixed.nd rfl (Or.inl rfl)) (pss_one (ps_expr (bmK (K := K) PySem.F.plainAttrs_list PySem.F.slot_list_insert PySem.F.type_list_insert mt_insert (pv 2) (pa_cons (pe_call F_law_pick hr_law_pick rfl T.glo_law_pick kp_law_pick b_law_pick .nil pass0 (pa_cons (pv 0) (pa_cons (pe_op op_add (pe_callB (lenK (K := K)) (by rfl) T.free_len (by decide +kernel) (pa_cons (pv 2) pa_nil)) pe_int) pa_nil))) (pa_cons (pv 3) pa_nil))))))
      (pss_one (ps_ret (pv 2))))), ?_⟩
    refine ⟨Nat.zero_le _, fun p hp => ?_⟩
    have s0 : Same H (upd H p (.lst [])) := same_upd hp
    have hpc : p ≠ c := fun z => by
      obtain ⟨ys, hc⟩ := B.lst
      rw [z, hc] at hp
      cases hp
    refine ⟨_, rfl, l, rfl, ⟨_, SqL.of (s0 _ _ hl)⟩, for_list (K := K) (a := l) (xs := xs) (fun i σ H1 => ∃ (ys : List V) (v : Option V), σ = [some (.ref b), some (.ref l), some (.ref p), v] ∧ ys.Perm (xs.take i) ∧ H1 p = some (.lst ys) ∧ Kc c H H1 ∧ Box b c H1)
      ⟨[], none, rfl, by simp, upd_same, kc_same s0, B.same s0⟩ (fun i σ H1 _ ⟨_, _, _, _, _, k1, _⟩ => SqL.of (k1 _ _ nc (fun _ z => by cases z) hl)) ?_ ?_⟩
    · rintro i y σ H1 hi ⟨ys, v, rfl, pm, h1, k1, B1⟩
      have li : i < xs.length := (List.getElem?_eq_some_iff.mp hi).1
      have ly : ys.length = i := by
        rw [pm.length_eq, List.length_take]
        omega
      refine ⟨_, rfl, .inl ⟨rfl, _, SqL.of h1⟩, _, rfl, _, rfl, p, _, rfl, .inl (SqL.of h1), _, _, rfl, rfl, b, c, _, rfl, B1, by omega, by omega, fun H2 j k2 B2 j0 j1 => ?_⟩
      have h2 : H2 p = some (.lst ys) := k2 _ _ hpc (fun _ z => by cases z) h1
      refine ⟨_, rfl, p, ys, j, y, rfl, rfl, h2, Nat.lt_of_le_of_lt (show ys.length ≤ 1000 by omega) (by decide), j0, by omega, ?_⟩
      refine ⟨_, _, rfl, ?_, upd_same, (k1.trans k2).upd hp, ?_⟩
      · have e : xs.take (i + 1) = xs.take i ++ [y] := by
          rw [List.take_add_one, hi]
          rfl
        rw [e]
        exact (perm_ins ys j.toNat y).trans (pm.append_right _)
      · obtain ⟨ns, r, z, t, g1, g2, g3⟩ := B2.ex
        refine ⟨ns, r, z, t, ?_, ?_, g3⟩
        · rw [upd_ne (ne_of g1 h2 (by intro z; cases z))]
          exact g1
        · rw [upd_ne hpc.symm]
          exact g2
    · rintro σ H1 ⟨ys, v, rfl, pm, h1, k1, B1⟩
      rw [List.take_length] at pm
      exact ⟨_, rfl, h H1 p ys pm h1 hpc k1 B1⟩
end
end RL
namespace RL
open PySem PySem.Spec PyProof.Rows L2 RLM
theorem Box.upd {b c p : Addr} {H : Hp} {o : HO} (h : Box b c H) (hp : p ≠ c) (hb : p ≠ b) : Box b c (L2.upd H p o) := by
  obtain ⟨ns, r, s, t, h1, h2, h3⟩ := h.ex
  exact ⟨ns, r, s, t, by rw [upd_ne hb.symm]; exact h1, by rw [upd_ne hp.symm]; exact h2, h3⟩
theorem Box.new {b c p : Addr} {H : Hp} (h : Box b c H) (hp : H p = none) : p ≠ c ∧ p ≠ b := by
  obtain ⟨ns, r, s, t, h1, h2, h3⟩ := h.ex
  exact ⟨(ne_of_none h2 hp).symm, (ne_of_none h1 hp).symm⟩
/-- the ways of a list -/
def WaysOk (n : Nat) (L : List (Addr × Nat × Nat)) : Prop := (L.map (·.2)).Nodup ∧ (∀ q ∈ L, q.2.1 < n ∧ q.2.2 < n ∧ q.2.1 ≠ q.2.2) ∧ L.length ≤ 64
theorem WaysOk.sub {n : Nat} {L M : List (Addr × Nat × Nat)} (h : WaysOk n L) (s : M.Sublist L) : WaysOk n M :=
  ⟨(s.map _).nodup h.1, fun q hq => h.2.1 q (s.subset hq), Nat.le_trans s.length_le h.2.2⟩
theorem perm_map {α β : Type} {f : α → β} : ∀ {xs : List α} {ys : List β}, ys.Perm (xs.map f) → ∃ zs : List α, ys = zs.map f ∧ zs.Perm xs
  | [], ys, h => ⟨[], by rw [List.Perm.eq_nil h]; rfl, List.Perm.refl _⟩
  | x :: xs, ys, h => by
    have hm : f x ∈ ys := h.mem_iff.mpr (by simp)
    obtain ⟨y1, y2, rfl⟩ := List.append_of_mem hm
    have h2 : (y1 ++ y2).Perm (xs.map f) := by
      have := List.perm_middle.symm.trans h
      exact this.cons_inv
    obtain ⟨zs, e, p⟩ := perm_map h2
    obtain ⟨z1, z2, rfl, e1, e2⟩ := List.map_eq_append_iff.mp e.symm
    refine ⟨z1 ++ x :: z2, ?_, List.perm_middle.trans (p.cons x)⟩
    rw [List.map_append, List.map_cons, e1, e2]
/-- [way for way in ways if ..], whatever the test says -/
theorem filt {K : PySem.W.Frag} {b c l D : Addr} {k : Nat} {H : Hp} {σ : L2.St} {vs : List Nat} {tt : TT} {L : List (Addr × Nat × Nat)} {Qd : Hp → Prop} (PL : PairsAt c H l L) (B : Box b c H) (len : L.length ≤ 64) (hD : H D = none)
    (hw : ∀ x : V, wipe ((wipe σ vs).set k (some x)) vs = wipe σ vs) (hk : ∀ x : V, ((wipe σ vs).set k (some x))[k]? = some (some x))
    (htt : ∀ q ∈ L, ∀ H1, Kc c H H1 → Box b c H1 → ∀ R : Bool → Hp → Prop, (∀ t H2, Kc c H1 H2 → Box b c H2 → R t H2) → tt ((wipe σ vs).set k (some (.ref q.1))) H1 R)
    (hd : ∀ H1 M, M.Sublist L → PairsAt c H1 D M → Kc c H H1 → Box b c H1 → Qd H1) :
    ∃ W : Nat → Nat → Hp → Prop, (∃ m, W 0 m (upd H D (.lst []))) ∧ ∀ i m H, W i m H →
      ((Itl K l).stop i H ∧ Qd H) ∨ ((Itl K l).go i H ∧ ∃ Nx : Hp → Prop, (∀ H', Nx H' → ∃ m', m' < m ∧ W (i + 1) m' H') ∧ ∀ x H', (Itl K l).yld i H x H' → gName k x (wipe σ vs) H' fun σ2 H2 => wipe σ2 vs = wipe σ vs ∧ tt σ2 H2 fun b H3 =>
        if b = true then tVar k σ2 H3 fun y H4 => ∃ acc, H4 D = some (.lst acc) ∧ acc.length < sizeLine ∧ Nx (upd H4 D (.lst (acc ++ [y]))) else Nx H3) := by
  have Dc := (B.new hD).1
  have Db := (B.new hD).2
  have s0 : Same H (upd H D (.lst [])) := same_upd hD
  refine lc_list (K := K) (a := l) (xs := L.map fun q => V.ref q.1) (fun i H1 => ∃ M : List (Addr × Nat × Nat), M.Sublist (L.take i) ∧ H1 D = some (.lst (M.map fun q => V.ref q.1)) ∧ Kc c H H1 ∧ Box b c H1)
    ⟨[], by simp, upd_same, kc_same s0, B.same s0⟩ (fun i H1 _ ⟨_, _, _, k1, _⟩ => SqL.of (k1 _ _ PL.ne (fun _ z => by cases z) PL.at_)) ?_ ?_
  · rintro i x H1 hx ⟨M, sM, hM, k1, B1⟩
    rw [List.getElem?_map] at hx
    obtain ⟨q, hq, rfl⟩ : ∃ q, L[i]? = some q ∧ V.ref q.1 = x := by
      cases e : L[i]? with
      | none => rw [e] at hx; cases hx
      | some q => rw [e] at hx; exact ⟨q, rfl, Option.some.inj hx⟩
    have et : L.take (i + 1) = L.take i ++ [q] := by
      rw [List.take_add_one, hq]
      rfl
    refine ⟨hw _, htt q (List.mem_of_getElem? hq) H1 k1 B1 _ fun t H2 k2 B2 => ?_⟩
    have hM2 : H2 D = some (.lst (M.map fun q => V.ref q.1)) := k2 _ _ Dc (fun _ z => by cases z) hM
    have lM : M.length ≤ 64 := Nat.le_trans sM.length_le (by rw [List.length_take]; omega)
    cases t with
    | false =>
      refine iteF ⟨M, ?_, hM2, k1.trans k2, B2⟩
      rw [et]
      exact sM.trans (List.sublist_append_left _ _)
    | true =>
      refine iteT ⟨_, hk _, _, hM2, ?_, M ++ [q], ?_, ?_, (k1.trans k2).upd hD, B2.upd Dc Db⟩
      · rw [List.length_map]
        exact Nat.lt_of_le_of_lt lM (by decide)
      · rw [et]
        exact sM.append (List.Sublist.refl _)
      · rw [upd_same, List.map_append]
        rfl
  · rintro H1 ⟨M, sM, hM, k1, B1⟩
    rw [List.length_map, List.take_length] at sM
    exact hd H1 M sM ⟨hM, Dc, fun q hq => k1.tup B.lst (PL.tup q (sM.subset hq))⟩ k1 B1
section
variable {P : Program} {w : World} {K : PySem.W.Frag} {mg : Str → Option Value} {base : Heap}
def spWays : Sp := fun vs H Q _ => ∃ (b c : Addr) (n : Nat), vs = [.ref b, vI n] ∧ Box b c H ∧ 1 ≤ n ∧ n ≤ 8 ∧ ∀ H' l L, PairsAt c H' l L → WaysOk n L → Kc c H H' → Box b c H' → Q (.ref l) H'
theorem sc__law_ways : FnScope ["_law_box_here", "_law_many", "_law_every", "_law_one", "_law_sort", "_law_thick", "_law_other", "_law_way"] ["_law_box_here", "_law_many"] (defScope s__law_ways) := ⟨rfl, rfl, rfl, by decide +kernel, rfl, by decide +kernel, by decide +kernel⟩
theorem ok_ways (T : Tx K mg) : Has P w K mg base (He.ga K "_law_ways") 3 ["_law_box_here", "_law_many"] spWays := by
  obtain ⟨⟨fd_law_pick, F_law_pick, b_law_pick⟩, kp_law_pick⟩ := ok_pick (P := P) (w := w) (base := base) T
  obtain ⟨⟨fd_law_mixed, F_law_mixed, b_law_mixed⟩, kp_law_mixed⟩ := ok_mixed (P := P) (w := w) (base := base) T
  obtain ⟨fd, F⟩ := T.d__law_ways
  refine ⟨⟨fd, F.ok sc__law_ways (fun vs H Q E h => ?_) (fun cdv A outer s H vs Q E hr h => ?_), F.bindsN fun _ _ _ _ _ _ us hl => match us, hl with | [_, _], _ => rfl⟩, F.kp⟩
  · obtain ⟨b, c, n, rfl, _⟩ := h
    rfl
  · obtain ⟨b, c, n, rfl, B, n1, n8, h⟩ := h
    have hr_law_pick : Room 1 _ := hr.mono (by decide)
    have hr_law_mixed : Room 2 _ := hr.mono (by decide)
    refine ⟨_, PSs.nox (pss_cons (ps_set (i := 2) sc__law_ways.nd rfl (Or.inl rfl) (pe_lst pa_nil))
      (pss_cons (ps_for PassesOwn.never rfl (pi_range1 (by rfl) T.free_range (pa_cons (pv 1) pa_nil)) (pg_name (i := 3) sc__law_ways.nd rfl (Or.inr rfl)) (pss_one (ps_set (i := 2) sc__law_ways.nd rfl (Or.inl rfl) (pe_op op_cat (pv 2) (pe_lc (own := [("_law_other", 6)]) (g := (gName 6)) rfl sc__law_ways.nd (pi_range1 (by rfl) T.free_range (pa_cons (pv 1) pa_nil)) (blkOk_by (by kernel_rfl)) (fun _ _ _ _ _ => (pg_name (i := 6) sc__law_ways.nd rfl (Or.inl rfl))) (fun _ _ _ _ _ => (pts_one (pt_cmpR op_ne (pv 6) (pv 3) (nomark _)))) (fun _ _ _ _ _ => (pe_tup (pa_cons (pv 3) (pa_cons (pv 6) pa_nil)))))))))
      (pss_cons (ps_asg (pe_tup (pa_cons (pe_call F_law_pick hr_law_pick rfl T.glo_law_pick kp_law_pick b_law_pick .nil pass0 (pa_cons (pv 0) (pa_cons pe_int pa_nil))) (pa_cons (pe_op op_add pe_int (pe_call F_law_pick hr_law_pick rfl T.glo_law_pick kp_law_pick b_law_pick .nil pass0 (pa_cons (pv 0) (pa_cons pe_int pa_nil)))) pa_nil))) (pgT (K := K) (n := 2) rfl (pgs_cons (pg_name (i := 4) sc__law_ways.nd rfl (Or.inl rfl)) (pgs_cons (pg_name (i := 5) sc__law_ways.nd rfl (Or.inr rfl)) pgs_nil))))
      (pss_cons (ps_if (pt_cmpR op_eq (pv 4) pe_int (nomark _)) (pss_one (ps_ret (pe_lc (own := [("_law_way", 7)]) (g := (gName 7)) rfl sc__law_ways.nd (piL (K := K) (pv 2)) (blkOk_by (by kernel_rfl)) (fun _ _ _ _ _ => (pg_name (i := 7) sc__law_ways.nd rfl (Or.inl rfl))) (fun _ _ _ _ _ => (pts_one (pt_cmpR op_eq (pe_ix (ixT (K := K)) (pv 7) pe_int (fun _ _ => rfl)) (pe_op op_add (pe_ix (ixT (K := K)) (pv 7) pe_int (fun _ _ => rfl)) pe_int) (nomark _)))) (fun _ _ _ _ _ => (pv 7))))) pss_nil)
      (pss_cons (ps_if (pt_cmpR op_eq (pv 4) pe_int (nomark _)) (pss_one (ps_ret (pe_lc (own := [("_law_way", 7)]) (g := (gName 7)) rfl sc__law_ways.nd (piL (K := K) (pv 2)) (blkOk_by (by kernel_rfl)) (fun _ _ _ _ _ => (pg_name (i := 7) sc__law_ways.nd rfl (Or.inl rfl))) (fun _ _ _ _ _ => (pts_one (pt_cmpR op_eq (pe_callB call_abs (by rfl) T.free_abs (by decide +kernel) (pa_cons (pe_op op_sub (pe_ix (ixT (K := K)) (pv 7) pe_int (fun _ _ => rfl)) (pe_ix (ixT (K := K)) (pv 7) pe_int (fun _ _ => rfl))) pa_nil)) pe_int (nomark _)))) (fun _ _ _ _ _ => (pv 7))))) pss_nil)
      (pss_cons (ps_if (pt_cmpR op_eq (pv 4) pe_int (nomark _)) (pss_one (ps_ret (pe_lc (own := [("_law_way", 7)]) (g := (gName 7)) rfl sc__law_ways.nd (piL (K := K) (pv 2)) (blkOk_by (by kernel_rfl)) (fun _ _ _ _ _ => (pg_name (i := 7) sc__law_ways.nd rfl (Or.inl rfl))) (fun _ _ _ _ _ => (pts_one (pt_cmpR op_eq (pe_ix (ixT (K := K)) (pv 7) pe_int (fun _ _ => rfl)) (pe_op op_modN (pe_op op_add (pe_ix (ixT (K := K)) (pv 7) pe_int (fun _ _ => rfl)) pe_int) (pv 1)) (nomark _)))) (fun _ _ _ _ _ => (pv 7))))) pss_nil)
      (pss_cons (ps_if (pt_cmpR op_eq (pv 4) pe_int (nomark _)) (pss_one (ps_ret (pe_lc (own := [("_law_way", 7)]) (g := (gName 7)) rfl sc__law_ways.nd (piL (K := K) (pv 2)) (blkOk_by (by kernel_rfl)) (fun _ _ _ _ _ => (pg_name (i := 7) sc__law_ways.nd rfl (Or.inl rfl))) (fun _ _ _ _ _ => (pts_one (pt_cmpR (inSq (K := K)) pe_int (pv 7) (by rfl)))) (fun _ _ _ _ _ => (pv 7))))) pss_nil)
      (pss_cons (ps_if (pt_cmpR op_eq (pv 4) pe_int (nomark _)) (pss_one (ps_ret (pv 2))) pss_nil)
      (pss_one (ps_ret (pe_call F_law_mixed hr_law_mixed rfl T.glo_law_mixed kp_law_mixed b_law_mixed .nil pass0 (pa_cons (pv 0) (pa_cons (pe_lc (own := [("_law_way", 7)]) (g := (gName 7)) rfl sc__law_ways.nd (piL (K := K) (pv 2)) (blkOk_by (by kernel_rfl)) (fun _ _ _ _ _ => (pg_name (i := 7) sc__law_ways.nd rfl (Or.inl rfl))) (fun _ _ _ _ _ => (pts_one (pt_cmpR op_lt (pe_call F_law_pick hr_law_pick rfl T.glo_law_pick kp_law_pick b_law_pick .nil pass0 (pa_cons (pv 0) (pa_cons pe_int pa_nil))) (pv 5) (nomark _)))) (fun _ _ _ _ _ => (pv 7))) pa_nil))))))))))))), ?_⟩
    refine ⟨Nat.zero_le _, fun l0 hl0 => ?_⟩
    have s0 : Same H (upd H l0 (.lst [])) := same_upd hl0
    refine ⟨_, rfl, (n : Int), rfl, by omega, by omega, for_range (lo := 0) (n := ((n : Nat) : Int).toNat) (fun i σ H1 => ∃ (l : Addr) (L : List (Addr × Nat × Nat)) (v : Option V), σ = [some (.ref b), some (vI n), some (.ref l), v, none, none, none, none] ∧ PairsAt c H1 l L ∧ (L.map (·.2)).Nodup ∧ (∀ q ∈ L, q.2.1 < i ∧ q.2.2 < n ∧ q.2.1 ≠ q.2.2) ∧ L.length ≤ i * n ∧ Same H H1)
      ⟨l0, [], none, rfl, ⟨upd_same, (B.new hl0).1, fun q hq => (by cases hq)⟩, by simp, fun q hq => (by cases hq), Nat.zero_le _, s0⟩ ?_ ?_⟩
    · rintro i σ H1 hi ⟨l, L, v, rfl, PL, nd, on, len, s1⟩
      have hin : i < n := by omega
      have lenL : L.length ≤ 56 := by
        have : i * n ≤ 7 * 8 := Nat.mul_le_mul (by omega) n8
        omega
      refine ⟨_, rfl, _, rfl, (n : Int), rfl, by omega, by omega, fun D hD => ?_⟩
      refine lc_range (lo := 0) (n := ((n : Nat) : Int).toNat) (fun j H2 => ∃ M : List (Addr × Nat × Nat), H2 D = some (.lst (M.map fun q => V.ref q.1)) ∧ (∀ q ∈ M, H2 q.1 = some (.tup [vI q.2.1, vI q.2.2])) ∧ (M.map (·.2)).Nodup ∧ (∀ q ∈ M, q.2.1 = i ∧ q.2.2 < j ∧ q.2.2 ≠ i) ∧ M.length ≤ j ∧ Same H1 H2)
        ⟨[], upd_same, fun q hq => (by cases hq), by simp, fun q hq => (by cases hq), Nat.zero_le _, same_upd hD⟩ ?_ ?_
      · rintro j H2 hj ⟨M, hM, tM, ndM, onM, lM, s2⟩
        refine ⟨rfl, _, rfl, _, rfl, rfl, _, rfl, ?_⟩
        have zi : (0 : Int) + (i : Int) = (i : Nat) := Int.zero_add _
        have zj : (0 : Int) + (j : Int) = (j : Nat) := Int.zero_add _
        by_cases e : j = i
        · have ed : (!decide (V.int (0 + (j : Int)) = V.int (0 + (i : Int)))) = false := by simp [e]
          rw [ed]
          exact iteF ⟨M, hM, tM, ndM, fun q hq => ⟨(onM q hq).1, by have := (onM q hq).2.1; omega, (onM q hq).2.2⟩, by omega, s2⟩
        · have ed : (!decide (V.int (0 + (j : Int)) = V.int (0 + (i : Int)))) = true := by
            have : ¬ ((j : Int) = (i : Int)) := by omega
            simp [zi, zj, this]
          rw [ed]
          refine iteT ⟨_, rfl, _, rfl, (by show 2 ≤ sizeLine; decide), fun t ht => ?_⟩
          have s3 := same_upd (o := HO.tup [V.int (0 + (i : Int)), V.int (0 + (j : Int))]) ht
          have tD : t ≠ D := fun z => by
            rw [z, hM] at ht
            cases ht
          refine ⟨_, s3 _ _ hM, ?_, M ++ [(t, i, j)], ?_, fun q hq => ?_, ?_, fun q hq => ?_, ?_, same_mut (s2.trans s3) hD⟩
          · rw [List.length_map]
            exact Nat.lt_of_le_of_lt (show M.length ≤ 8 by omega) (by decide)
          · rw [upd_same, List.map_append]
            rfl
          · rcases List.mem_append.mp hq with hq | hq
            · have g := s3 _ _ (tM q hq)
              rw [upd_ne (ne_of g (s3 _ _ hM) (by intro z; cases z))]
              exact g
            · rw [List.mem_singleton.mp hq, upd_ne tD, upd_same, zi, zj]
              rfl
          · rw [List.map_append, List.nodup_append]
            refine ⟨ndM, by simp, ?_⟩
            intro x hx y hy z
            obtain ⟨q, hq, rfl⟩ := List.mem_map.mp hx
            have ey : y = (i, j) := by simpa using hy
            have := (onM q hq).2.1
            rw [z, ey] at this
            exact absurd this (Nat.lt_irrefl _)
          · rcases List.mem_append.mp hq with hq | hq
            · exact ⟨(onM q hq).1, by have := (onM q hq).2.1; omega, (onM q hq).2.2⟩
            · rw [List.mem_singleton.mp hq]
              exact ⟨rfl, Nat.lt_succ_self _, e⟩
          · rw [List.length_append]
            simp
            omega
      · rintro H2 ⟨M, hM, tM, ndM, onM, lM, s2⟩
        have PL2 := PL.same s2
        have lM8 : M.length ≤ n := by omega
        refine ⟨l, D, _, _, rfl, rfl, PL2.at_, hM, ?_, fun p hp => ?_⟩
        · rw [List.length_map, List.length_map]
          exact Nat.le_trans (show L.length + M.length ≤ 64 by omega) (by decide)
        · have s3 := same_upd (o := HO.lst (L.map (fun q => V.ref q.1) ++ M.map fun q => V.ref q.1)) hp
          have s4 := (s1.trans s2).trans s3
          refine ⟨p, L ++ M, _, rfl, ⟨?_, ((B.same (s1.trans s2)).new hp).1, fun q hq => ?_⟩, ?_, fun q hq => ?_, ?_, s4⟩
          · rw [upd_same, List.map_append]
          · rcases List.mem_append.mp hq with hq | hq
            · exact s3 _ _ (PL2.tup q hq)
            · exact s3 _ _ (tM q hq)
          · rw [List.map_append, List.nodup_append]
            refine ⟨nd, ndM, ?_⟩
            intro x hx y hy z
            obtain ⟨q, hq, rfl⟩ := List.mem_map.mp hx
            obtain ⟨r, hr', rfl⟩ := List.mem_map.mp hy
            have a1 := (on q hq).1
            have a2 := (onM r hr').1
            rw [z, a2] at a1
            exact absurd a1 (Nat.lt_irrefl _)
          · rcases List.mem_append.mp hq with hq | hq
            · exact ⟨by have := (on q hq).1; omega, (on q hq).2⟩
            · have := onM q hq
              exact ⟨by omega, by omega, by omega⟩
          · rw [List.length_append, Nat.succ_mul]
            omega
    · rintro σ H1 ⟨l, L, v, rfl, PL, nd, on, len, s1⟩
      have W : WaysOk n L := by
        refine ⟨nd, fun q hq => ?_, ?_⟩
        · have := on q hq
          exact ⟨by omega, this.2⟩
        · have : ((n : Nat) : Int).toNat * n ≤ 8 * 8 := Nat.mul_le_mul (by omega) n8
          omega
      have B1 := B.same s1
      refine ⟨_, rfl, b, c, _, rfl, B1, by decide, by decide, fun H2 i k2 B2 i0 i1 => ?_⟩
      refine ⟨_, rfl, b, c, _, rfl, B2, by decide, by decide, fun H3 j k3 B3 j0 j1 => ?_⟩
      refine ⟨_, _, rfl, rfl, (by show 2 ≤ sizeLine; decide), fun t ht => ?_⟩
      have s4 := same_upd (o := HO.tup [V.int i, V.int (1 + j)]) ht
      have k4 : Kc c H (upd H3 t (.tup [.int i, .int (1 + j)])) := ((kc_same s1).trans (k2.trans k3)).trans (kc_same s4)
      have PL4 := (PL.keep (k2.trans k3) B1.lst).same s4
      have B4 := B3.same s4
      refine ⟨t, _, rfl, SqT.of upd_same, rfl, _, _, rfl, _, _, rfl, rfl, ?_⟩
      generalize upd H3 t (.tup [.int i, .int (1 + j)]) = H4 at k4 PL4 B4
      have fin : ∀ D H5 M, M.Sublist L → PairsAt c H5 D M → Kc c H4 H5 → Box b c H5 → Q (.ref D) H5 := fun D H5 M sM pM k5 B5 => h H5 D M pM (W.sub sM) (k4.trans k5) B5
      have it : ∀ q ∈ L, ∀ H5, Kc c H4 H5 → H5 q.1 = some (.tup [vI q.2.1, vI q.2.2]) := fun q hq H5 k5 => k5.tup B4.lst (PL4.tup q hq)
      refine ⟨_, rfl, rfl, _, rfl, ?_⟩
      refine ite2 (fun _ => ?_) (fun _ => ?_)
      · refine ⟨_, rfl, l, rfl, ⟨_, SqL.of PL4.at_⟩, fun D hD => filt PL4 B4 W.2.2 hD (fun x => rfl) (fun x => rfl) (fun q hq H5 k5 B5 R hR => ?_) (fin D)⟩
        exact ⟨_, rfl, q.1, _, 1, _, rfl, rfl, SqT.of (it q hq H5 k5), rfl, _, rfl, q.1, _, 0, _, rfl, rfl, SqT.of (it q hq H5 k5), rfl, _, _, rfl, rfl, rfl, _, rfl, hR _ _ (Kc.refl c H5) B5⟩
      refine ⟨_, rfl, rfl, _, rfl, ?_⟩
      refine ite2 (fun _ => ?_) (fun _ => ?_)
      · refine ⟨_, rfl, l, rfl, ⟨_, SqL.of PL4.at_⟩, fun D hD => filt PL4 B4 W.2.2 hD (fun x => rfl) (fun x => rfl) (fun q hq H5 k5 B5 R hR => ?_) (fin D)⟩
        exact ⟨_, rfl, q.1, _, 1, _, rfl, rfl, SqT.of (it q hq H5 k5), rfl, _, rfl, q.1, _, 0, _, rfl, rfl, SqT.of (it q hq H5 k5), rfl, _, _, rfl, rfl, _, rfl, rfl, _, rfl, hR _ _ (Kc.refl c H5) B5⟩
      refine ⟨_, rfl, rfl, _, rfl, ?_⟩
      refine ite2 (fun _ => ?_) (fun _ => ?_)
      · refine ⟨_, rfl, l, rfl, ⟨_, SqL.of PL4.at_⟩, fun D hD => filt PL4 B4 W.2.2 hD (fun x => rfl) (fun x => rfl) (fun q hq H5 k5 B5 R hR => ?_) (fin D)⟩
        exact ⟨_, rfl, q.1, _, 1, _, rfl, rfl, SqT.of (it q hq H5 k5), rfl, _, rfl, q.1, _, 0, _, rfl, rfl, SqT.of (it q hq H5 k5), rfl, _, _, rfl, rfl, _, rfl, _, _, rfl, rfl, by omega, rfl, _, rfl, hR _ _ (Kc.refl c H5) B5⟩
      refine ⟨_, rfl, rfl, _, rfl, ?_⟩
      refine ite2 (fun _ => ?_) (fun _ => ?_)
      · refine ⟨_, rfl, l, rfl, ⟨_, SqL.of PL4.at_⟩, fun D hD => filt PL4 B4 W.2.2 hD (fun x => rfl) (fun x => rfl) (fun q hq H5 k5 B5 R hR => ?_) (fin D)⟩
        exact ⟨_, rfl, q.1, _, rfl, .inr (SqT.of (it q hq H5 k5)), rfl, rfl, _, rfl, hR _ _ (Kc.refl c H5) B5⟩
      refine ⟨_, rfl, rfl, _, rfl, ?_⟩
      refine ite2 (fun _ => ?_) (fun _ => ?_)
      · exact ⟨_, rfl, fin l H4 L (List.Sublist.refl L) PL4 (Kc.refl c H4) B4⟩
      refine ⟨_, rfl, _, rfl, l, rfl, ⟨_, SqL.of PL4.at_⟩, fun D hD => filt PL4 B4 W.2.2 hD (fun x => rfl) (fun x => rfl) (fun q hq H5 k5 B5 R hR => ?_) (fun H5 M sM pM k5 B5 => ?_)⟩
      · refine ⟨_, rfl, b, c, _, rfl, B5, by decide, by decide, fun H6 x k6 B6 x0 x1 => ?_⟩
        exact ⟨_, rfl, _, _, rfl, rfl, _, rfl, hR _ _ k6 B6⟩
      · have lM : M.length ≤ 64 := (W.sub sM).2.2
        refine ⟨b, c, D, _, rfl, B5, pM.at_, pM.ne, by rw [List.length_map]; omega, fun H6 p ys pm hp pc k6 B6 => ?_⟩
        obtain ⟨M2, e2, p2⟩ : ∃ M2 : List (Addr × Nat × Nat), ys = M2.map (fun q => V.ref q.1) ∧ M2.Perm M := perm_map pm
        subst e2
        have WM := W.sub sM
        refine h H6 p M2 ⟨hp, pc, fun q hq => k6.tup B5.lst (pM.tup q (p2.mem_iff.mp hq))⟩ ⟨?_, fun q hq => WM.2.1 q (p2.mem_iff.mp hq), by rw [p2.length_eq]; exact WM.2.2⟩ ((k4.trans k5).trans k6) B6
        exact ((p2.map _).nodup_iff).mpr WM.1
/-! ### a board's data -/
def spBoard : Sp := fun vs H Q _ => ∃ (b c : Addr), vs = [.ref b, vI 8] ∧ Box b c H ∧ ∀ H' t n l L, 1 ≤ n → n ≤ 8 → H' t = some (.tup [vI n, .ref l]) → PairsAt c H' l L → WaysOk n L → Kc c H H' → Box b c H' → Q (.ref t) H'
theorem sc__law_board : FnScope ["_law_box_here", "_law_most", "_law_many"] ["_law_box_here", "_law_most"] (defScope s__law_board) := ⟨rfl, rfl, rfl, by decide +kernel, rfl, by decide +kernel, by decide +kernel⟩
theorem ok_board (T : Tx K mg) : Has P w K mg base (He.ga K "_law_board") 4 ["_law_box_here", "_law_most"] spBoard := by
  obtain ⟨⟨fd_law_pick, F_law_pick, b_law_pick⟩, kp_law_pick⟩ := ok_pick (P := P) (w := w) (base := base) T
  obtain ⟨⟨fd_law_ways, F_law_ways, b_law_ways⟩, kp_law_ways⟩ := ok_ways (P := P) (w := w) (base := base) T
  obtain ⟨fd, F⟩ := T.d__law_board
  refine ⟨⟨fd, F.ok sc__law_board (fun vs H Q E h => ?_) (fun cdv A outer s H vs Q E hr h => ?_), F.bindsN fun _ _ _ _ _ _ us hl => match us, hl with | [_, _], _ => rfl⟩, F.kp⟩
  · obtain ⟨b, c, rfl, _⟩ := h
    rfl
  · obtain ⟨b, c, rfl, B, h⟩ := h
    have hr_law_pick : Room 1 _ := hr.mono (by decide)
    have hr_law_ways : Room 3 _ := hr.mono (by decide)
    refine ⟨_, PSs.nox (pss_cons (ps_set (i := 2) sc__law_board.nd rfl (Or.inl rfl) (pe_ifExp (pt_cmpR op_eq (pe_call F_law_pick hr_law_pick rfl T.glo_law_pick kp_law_pick b_law_pick .nil pass0 (pa_cons (pv 0) (pa_cons pe_int pa_nil))) pe_int (nomark _)) (pv 1) (pe_op op_add pe_int (pe_call F_law_pick hr_law_pick rfl T.glo_law_pick kp_law_pick b_law_pick .nil pass0 (pa_cons (pv 0) (pa_cons (pv 1) pa_nil))))))
      (pss_one (ps_ret (pe_tup (pa_cons (pv 2) (pa_cons (pe_call F_law_ways hr_law_ways rfl T.glo_law_ways kp_law_ways b_law_ways .nil pass0 (pa_cons (pv 0) (pa_cons (pv 2) pa_nil))) pa_nil)))))), ?_⟩
    refine ⟨_, rfl, b, c, _, rfl, B, by decide, by decide, fun H1 i k1 B1 i0 i1 => ?_⟩
    refine ⟨rfl, _, rfl, ?_⟩
    have fin : ∀ H2 (n : Nat), 1 ≤ n → n ≤ 8 → Kc c H H2 → Box b c H2 → spWays [.ref b, vI n] H2 (fun v H3 => 2 ≤ sizeLine ∧ ∀ t, H3 t = none → Q (.ref t) (upd H3 t (.tup [vI n, v]))) (fun _ _ _ => False) := fun H2 n n1 n8 k2 B2 =>
      ⟨b, c, n, rfl, B2, n1, n8, fun H3 l L pL WL k3 B3 => ⟨by decide, fun t ht => h _ t n l L n1 n8 upd_same (pL.same (same_upd ht)) WL ((k2.trans k3).trans (kc_same (same_upd ht))) (B3.same (same_upd ht))⟩⟩
    refine ite2 (fun _ => ?_) (fun _ => ?_)
    · refine ⟨_, rfl, ?_⟩
      exact ⟨_, rfl, _, rfl, _, rfl, fin H1 8 (by decide) (by decide) k1 B1⟩
    · refine ⟨_, rfl, _, rfl, b, c, _, rfl, B1, by decide, by decide, fun H2 j k2 B2 j0 j1 => ?_⟩
      obtain ⟨m, rfl⟩ : ∃ m : Nat, j = (m : Nat) := ⟨j.toNat, by omega⟩
      have e : (1 : Int) + (m : Nat) = ((m + 1 : Nat) : Int) := by omega
      refine ⟨_, _, rfl, rfl, ?_⟩
      have := fin H2 (m + 1) (by omega) (by omega) (k1.trans k2) B2
      refine ⟨_, rfl, _, rfl, _, rfl, ?_⟩
      show spWays [.ref b, .int (1 + (m : Nat))] H2 (fun v H3 => 2 ≤ sizeLine ∧ ∀ t, H3 t = none → Q (.ref t) (upd H3 t (.tup [.int (1 + (m : Nat)), v]))) (fun _ _ _ => False)
      rw [e]
      exact this
end
end RL
namespace RL
open PySem PySem.Spec PyProof.Rows L2 RLM
theorem rep_flat {α : Type} (x : α) : ∀ k : Nat, (List.replicate k [x]).flatten = List.replicate k x
  | 0 => rfl
  | k + 1 => by
    rw [List.replicate_succ, List.flatten_cons, rep_flat x k]
    rfl
theorem menu_small {xs : List V} {x : V} (h : x ∈ xs) (hs : xs.all (fun v => match v with | .int i => decide (0 ≤ i ∧ i ≤ 7) | _ => false) = true) : ∃ p : Nat, x = vI p ∧ p ≤ 7 := by
  have := List.all_eq_true.mp hs x h
  cases x with
  | int i =>
    have z : 0 ≤ i ∧ i ≤ 7 := of_decide_eq_true this
    refine ⟨i.toNat, ?_, by omega⟩
    show V.int i = V.int (i.toNat : Nat)
    rw [Int.toNat_of_nonneg z.1]
  | _ => cases this
section
variable {P : Program} {w : World} {K : PySem.W.Frag} {mg : Str → Option Value} {base : Heap}
def spPace : Sp := fun vs H Q _ => ∃ (b c : Addr) (n : Nat), vs = [.ref b, vI n] ∧ Box b c H ∧ 1 ≤ n ∧ n ≤ 8 ∧ ∀ H' t (ps : List Nat), ps.length = n → (∀ p ∈ ps, p ≤ 7) → H' t = some (.tup (ps.map vI)) → Kc c H H' → Box b c H' → Q (.ref t) H'
theorem sc__law_pace : FnScope ["_law_box_here", "_law_many", "_law_k"] ["_law_box_here", "_law_many"] (defScope s__law_pace) := ⟨rfl, rfl, rfl, by decide +kernel, rfl, by decide +kernel, by decide +kernel⟩
theorem ok_pace (T : Tx K mg) : Has P w K mg base (He.ga K "_law_pace") 3 ["_law_box_here", "_law_many"] spPace := by
  obtain ⟨⟨fd_law_pick, F_law_pick, b_law_pick⟩, kp_law_pick⟩ := ok_pick (P := P) (w := w) (base := base) T
  obtain ⟨⟨fd_law_from, F_law_from, b_law_from⟩, kp_law_from⟩ := ok_from (P := P) (w := w) (base := base) T
  obtain ⟨fd, F⟩ := T.d__law_pace
  refine ⟨⟨fd, F.ok sc__law_pace (fun vs H Q E h => ?_) (fun cdv A outer s H vs Q E hr h => ?_), F.bindsN fun _ _ _ _ _ _ us hl => match us, hl with | [_, _], _ => rfl⟩, F.kp⟩
  · obtain ⟨b, c, n, rfl, _⟩ := h
    rfl
  · obtain ⟨b, c, n, rfl, B, n1, n8, h⟩ := h
    have hr_law_pick : Room 1 _ := hr.mono (by decide)
    have hr_law_from : Room 2 _ := hr.mono (by decide)
    refine ⟨_, PSs.nox (pss_cons (ps_if (pt_cmpR op_eq (pe_call F_law_pick hr_law_pick rfl T.glo_law_pick kp_law_pick b_law_pick .nil pass0 (pa_cons (pv 0) (pa_cons pe_int pa_nil))) pe_int (nomark _)) (pss_one (ps_ret (pe_op (repTK (K := K)) (pe_tup (pa_cons (pe_call F_law_from hr_law_from rfl T.glo_law_from kp_law_from b_law_from .nil pass0 (pa_cons (pv 0) (pa_cons (pe_lst (pa_cons pe_int (pa_cons pe_int (pa_cons pe_int (pa_cons pe_int (pa_cons pe_int (pa_cons pe_int pa_nil))))))) pa_nil))) pa_nil)) (pv 1)))) pss_nil)
      (pss_one (ps_ret (pe_callTy (tupK (K := K)) (by rfl) T.free_tuple (by decide +kernel) (pa_cons (pe_lc (own := [("_law_k", 2)]) (g := (gName 2)) (tt := tYes) rfl sc__law_pace.nd (pi_range1 (by rfl) T.free_range (pa_cons (pv 1) pa_nil)) (blkOk_by (by kernel_rfl)) (fun _ _ _ _ _ => (pg_name (i := 2) sc__law_pace.nd rfl (Or.inl rfl))) (fun _ _ _ _ _ => pts_nil) (fun _ _ _ _ _ => (pe_call F_law_from hr_law_from rfl T.glo_law_from kp_law_from b_law_from .nil pass0 (pa_cons (pv 0) (pa_cons (pe_lst (pa_cons pe_int (pa_cons pe_int (pa_cons pe_int (pa_cons pe_int (pa_cons pe_int (pa_cons pe_int (pa_cons pe_int (pa_cons pe_int (pa_cons pe_int pa_nil)))))))))) pa_nil))))) pa_nil))))), ?_⟩
    refine ⟨_, rfl, b, c, _, rfl, B, by decide, by decide, fun H1 i k1 B1 i0 i1 => ?_⟩
    refine ⟨rfl, _, rfl, ?_⟩
    refine ite2 (fun _ => ?_) (fun _ => ?_)
    · refine ⟨_, rfl, (by show 6 ≤ sizeLine; decide), fun l hl => ?_⟩
      have s2 := same_upd (o := HO.lst [V.int 0, V.int 1, V.int 1, V.int 2, V.int 3, V.int 7]) hl
      refine ⟨b, c, l, _, rfl, B1.same s2, upd_same, (B1.new hl).1, by decide, by decide, fun H3 x k3 B3 hx => ?_⟩
      obtain ⟨p, rfl, p7⟩ := menu_small hx (by decide)
      refine ⟨(by show 1 ≤ sizeLine; decide), fun t ht => ?_⟩
      have s4 := same_upd (o := HO.tup [vI p]) ht
      have k4 : Kc c H (upd H3 t (.tup [vI p])) := ((k1.trans (kc_same s2)).trans k3).trans (kc_same s4)
      refine ⟨_, rfl, t, (n : Int), _, rfl, rfl, SqT.of upd_same, by simp, by omega, by omega, (by show 1 ≤ 1000; decide), fun e => ?_, fun q hq => ?_⟩
      · have e1 : n = 1 := by omega
        subst e1
        exact h _ t [p] rfl (by simp [p7]) upd_same k4 (B3.same s4)
      · have s5 := same_upd (o := HO.tup (List.replicate (n : Int).toNat [vI p]).flatten) hq
        refine h _ q (List.replicate n p) (by simp) (fun z hz => by rw [(List.mem_replicate.mp hz).2]; exact p7) ?_ (k4.trans (kc_same s5)) ((B3.same s4).same s5)
        rw [upd_same, rep_flat, List.map_replicate, Int.toNat_natCast]
    · refine ⟨_, rfl, (n : Int), rfl, by omega, by omega, fun D hD => ?_⟩
      have s2 : Same H1 (upd H1 D (.lst [])) := same_upd hD
      have Dc := (B1.new hD).1
      have Db := (B1.new hD).2
      refine lc_range (lo := 0) (n := ((n : Nat) : Int).toNat) (fun j H2 => ∃ ps : List Nat, ps.length = j ∧ (∀ p ∈ ps, p ≤ 7) ∧ H2 D = some (.lst (ps.map vI)) ∧ Kc c H1 H2 ∧ Box b c H2)
        ⟨[], rfl, by simp, upd_same, kc_same s2, B1.same s2⟩ ?_ ?_
      · rintro j H2 hj ⟨ps, lp, p7, hp, k2, B2⟩
        refine ⟨rfl, ?_⟩
        unfold tYes
        refine iteT ?_
        refine ⟨_, rfl, (by show 9 ≤ sizeLine; decide), fun l hl => ?_⟩
        have s3 := same_upd (o := HO.lst [V.int 0, V.int 1, V.int 1, V.int 2, V.int 3, V.int 4, V.int 5, V.int 6, V.int 7]) hl
        refine ⟨b, c, l, _, rfl, B2.same s3, upd_same, (B2.new hl).1, by decide, by decide, fun H3 x k3 B3 hx => ?_⟩
        obtain ⟨p, rfl, pp⟩ := menu_small hx (by decide)
        have k4 := (k2.trans (kc_same s3)).trans k3
        have hp3 : H3 D = some (.lst (ps.map vI)) := k3 _ _ Dc (fun _ z => by cases z) (s3 _ _ hp)
        refine ⟨_, hp3, ?_, ps ++ [p], by simp [lp], fun z hz => ?_, ?_, k4.upd hD, B3.upd Dc Db⟩
        · rw [List.length_map]
          exact Nat.lt_of_le_of_lt (show ps.length ≤ 8 by omega) (by decide)
        · rcases List.mem_append.mp hz with hz | hz
          · exact p7 z hz
          · rw [List.mem_singleton.mp hz]
            exact pp
        · rw [upd_same, List.map_append]
          rfl
      · rintro H2 ⟨ps, lp, p7, hp, k2, B2⟩
        refine ⟨D, _, rfl, .inl ⟨SqL.of hp, fun t ht => ?_⟩⟩
        have s3 := same_upd (o := HO.tup (ps.map vI)) ht
        exact h _ t ps (by omega) p7 upd_same ((k1.trans k2).trans (kc_same s3)) (B2.same s3)
/-! ### lots -/
def spLot : Sp := fun vs H Q _ => ∃ (b c : Addr) (n : Nat), vs = [.ref b, vI n] ∧ Box b c H ∧ 1 ≤ n ∧ n ≤ 8 ∧ ∀ H' t p, H' t = some (.tup ((lotP n p).map vI)) → Kc c H H' → Box b c H' → Q (.ref t) H'
theorem rg_range (n : Nat) : rgV 0 (n : Int) = (List.range n).map vI := by
  unfold rgV
  rw [Int.sub_zero, Int.toNat_natCast]
  refine List.map_congr_left fun i _ => ?_
  show V.int (0 + (i : Nat)) = V.int (i : Nat)
  rw [Int.zero_add]
theorem lotP_true (n : Nat) : lotP n (fun _ => True) = List.range n := (lotP_of (range_sorted n) fun b => by simp [List.mem_range]).symm
theorem sc__law_lot : FnScope ["_law_box_here", "_law_many", "_law_thick", "_law_place"] ["_law_box_here", "_law_many"] (defScope s__law_lot) := ⟨rfl, rfl, rfl, by decide +kernel, rfl, by decide +kernel, by decide +kernel⟩
theorem ok_lot (T : Tx K mg) : Has P w K mg base (He.ga K "_law_lot") 2 ["_law_box_here", "_law_many"] spLot := by
  obtain ⟨⟨fd_law_pick, F_law_pick, b_law_pick⟩, kp_law_pick⟩ := ok_pick (P := P) (w := w) (base := base) T
  obtain ⟨fd, F⟩ := T.d__law_lot
  refine ⟨⟨fd, F.ok sc__law_lot (fun vs H Q E h => ?_) (fun cdv A outer s H vs Q E hr h => ?_), F.bindsN fun _ _ _ _ _ _ us hl => match us, hl with | [_, _], _ => rfl⟩, F.kp⟩
  · obtain ⟨b, c, n, rfl, _⟩ := h
    rfl
  · obtain ⟨b, c, n, rfl, B, n1, n8, h⟩ := h
    have hr_law_pick : Room 1 _ := hr.mono (by decide)
    refine ⟨_, PSs.nox (pss_cons (ps_if (pt_cmpR op_eq (pe_call F_law_pick hr_law_pick rfl T.glo_law_pick kp_law_pick b_law_pick .nil pass0 (pa_cons (pv 0) (pa_cons pe_int pa_nil))) pe_int (nomark _)) (pss_one (ps_ret (pe_tupRg rfl (by rfl) T.free_tuple (prg_1 (by rfl) T.free_range (pv 1))))) pss_nil)
      (pss_cons (ps_set (i := 2) sc__law_lot.nd rfl (Or.inr rfl) (pe_op op_add pe_int (pe_call F_law_pick hr_law_pick rfl T.glo_law_pick kp_law_pick b_law_pick .nil pass0 (pa_cons (pv 0) (pa_cons pe_int pa_nil)))))
      (pss_one (ps_ret (pe_callTy (tupK (K := K)) (by rfl) T.free_tuple (by decide +kernel) (pa_cons (pe_lc (own := [("_law_place", 3)]) (g := (gName 3)) rfl sc__law_lot.nd (pi_range1 (by rfl) T.free_range (pa_cons (pv 1) pa_nil)) (blkOk_by (by kernel_rfl)) (fun _ _ _ _ _ => (pg_name (i := 3) sc__law_lot.nd rfl (Or.inl rfl))) (fun _ _ _ _ _ => (pts_one (pt_cmpR op_lt (pe_call F_law_pick hr_law_pick rfl T.glo_law_pick kp_law_pick b_law_pick .nil pass0 (pa_cons (pv 0) (pa_cons pe_int pa_nil))) (pv 2) (nomark _)))) (fun _ _ _ _ _ => (pv 3))) pa_nil)))))), ?_⟩
    refine ⟨_, rfl, b, c, _, rfl, B, by decide, by decide, fun H1 i k1 B1 i0 i1 => ?_⟩
    refine ⟨rfl, _, rfl, ?_⟩
    refine ite2 (fun _ => ?_) (fun _ => ?_)
    · refine ⟨_, rfl, (n : Int), rfl, RgOk.of_le (by decide) (by omega) (by decide) (by omega), fun q hq => ?_⟩
      have s2 := same_upd (o := HO.tup (rgV 0 (n : Int))) hq
      refine h _ q (fun _ => True) ?_ (k1.trans (kc_same s2)) (B1.same s2)
      rw [upd_same, rg_range, lotP_true]
    · refine ⟨_, rfl, b, c, _, rfl, B1, by decide, by decide, fun H2 j k2 B2 j0 j1 => ?_⟩
      refine ⟨_, _, rfl, rfl, ?_⟩
      refine ⟨_, rfl, (n : Int), rfl, by omega, by omega, fun D hD => ?_⟩
      have s3 : Same H2 (upd H2 D (.lst [])) := same_upd hD
      have Dc := (B2.new hD).1
      have Db := (B2.new hD).2
      refine lc_range (lo := 0) (n := ((n : Nat) : Int).toNat) (fun j H3 => ∃ ps : List Nat, ps.Sublist (List.range j) ∧ H3 D = some (.lst (ps.map vI)) ∧ Kc c H2 H3 ∧ Box b c H3)
        ⟨[], by simp, upd_same, kc_same s3, B2.same s3⟩ ?_ ?_
      · rintro j H3 hj ⟨ps, sp, hp, k3, B3⟩
        refine ⟨rfl, _, rfl, b, c, _, rfl, B3, by decide, by decide, fun H4 x k4 B4 x0 x1 => ?_⟩
        refine ⟨_, rfl, _, _, rfl, rfl, _, rfl, ?_⟩
        have hp4 : H4 D = some (.lst (ps.map vI)) := k4 _ _ Dc (fun _ z => by cases z) hp
        have lp : ps.length ≤ 8 := Nat.le_trans sp.length_le (by rw [List.length_range]; omega)
        refine ite2 (fun _ => ?_) (fun _ => ?_)
        · refine ⟨_, rfl, _, hp4, ?_, ps ++ [j], ?_, ?_, (k3.trans k4).upd hD, B4.upd Dc Db⟩
          · rw [List.length_map]
            exact Nat.lt_of_le_of_lt lp (by decide)
          · rw [List.range_succ]
            exact sp.append (List.Sublist.refl _)
          · rw [upd_same, List.map_append, Int.zero_add]
            rfl
        · refine ⟨ps, ?_, hp4, k3.trans k4, B4⟩
          rw [List.range_succ]
          exact sp.trans (List.sublist_append_left _ _)
      · rintro H3 ⟨ps, sp, hp, k3, B3⟩
        rw [Int.toNat_natCast] at sp
        refine ⟨D, _, rfl, .inl ⟨SqL.of hp, fun t ht => ?_⟩⟩
        have s4 := same_upd (o := HO.tup (ps.map vI)) ht
        refine h _ t (fun b => b ∈ ps) ?_ (((k1.trans k2).trans k3).trans (kc_same s4)) (B3.same s4)
        rw [upd_same, ← lotP_of (n := n) (p := fun b => b ∈ ps) ((range_sorted n).sublist sp) fun b => ⟨fun hb => ⟨List.mem_range.mp (sp.subset hb), hb⟩, fun hb => hb.2⟩]
/-! ### two lots put together -/
def spJoined : Sp := fun vs H Q _ => ∃ (s t : Addr) (n : Nat) (p q : Nat → Prop), vs = [.ref s, .ref t] ∧ H s = some (.tup ((lotP n p).map vI)) ∧ H t = some (.tup ((lotP n q).map vI)) ∧ n ≤ 8 ∧ ∀ H' u, H' u = some (.tup ((lotP n fun b => p b ∨ q b).map vI)) → Same H H' → Q (.ref u) H'
def nI (k : Nat) : Int := (k : Nat)
theorem vI_map (xs : List Nat) : xs.map vI = (xs.map nI).map V.int := by
  rw [List.map_map]
  rfl
/-- a rising list of ints that has just the places of a lot is it -/
theorem rise_lot {n : Nat} {p : Nat → Prop} {ns : List Int} (h : ns.Pairwise (· < ·)) (hm : ∀ k : Int, k ∈ ns ↔ ∃ b : Nat, k = nI b ∧ b < n ∧ p b) : ns.map V.int = (lotP n p).map vI := by
  have e : ns = (ns.map Int.toNat).map nI := by
    rw [List.map_map]
    refine (List.map_id' ns).symm.trans (List.map_congr_left fun k hk => ?_)
    obtain ⟨b, rfl, _⟩ := (hm k).1 hk
    rfl
  have s2 : (ns.map Int.toNat).Pairwise (· < ·) := by
    rw [List.pairwise_map]
    refine h.imp_of_mem fun {x y} hx hy hxy => ?_
    obtain ⟨a, rfl, _⟩ := (hm x).1 hx
    obtain ⟨b, rfl, _⟩ := (hm y).1 hy
    have : (a : Int) < (b : Int) := hxy
    show a < b
    omega
  have : ns.map Int.toNat = lotP n p := by
    refine lotP_of s2 fun b => ⟨fun hb => ?_, fun hb => ?_⟩
    · obtain ⟨k, hk, rfl⟩ := List.mem_map.mp hb
      obtain ⟨b, rfl, hb2⟩ := (hm k).1 hk
      exact hb2
    · exact List.mem_map.mpr ⟨nI b, (hm _).2 ⟨b, rfl, hb⟩, rfl⟩
  rw [vI_map, ← this, ← e]
end
end RL
namespace RL
open PySem PySem.Spec PyProof.Rows L2 RLM
/-- [e for x in xs if t(x)]: what R says of each -/
theorem lc_relF {α : Type} {J : It} {n : Nat} {G : Hp → Prop} {Y : Nat → Hp → V → Hp → Prop} {g : TG} {tt : TT} {te : TE} {vs : List Nat} {σ : L2.St} {H : Hp} {D : Addr} {Qd : Hp → Prop} (w : Walk J n G Y) (xs : List α) (t : α → Bool) (R : α → V → Hp → Prop) (hx : n = xs.length) (hn : n ≤ 100000) (hD : H D = none) (tk : ∀ a v H1 H2, R a v H1 → TK H1 H2 → R a v H2) (hG : ∀ H1, Same H H1 → G H1)
    (hs : ∀ i b x H1 H2 (N1 : V → Hp → Prop) (N0 : Hp → Prop), xs[i]? = some b → Same H H1 → Y i H1 x H2 → (∀ y H4, t b = true → R b y H4 → Same H1 H4 → N1 y H4) → (∀ H4, t b = false → Same H1 H4 → N0 H4) →
      g x (wipe σ vs) H2 fun σ2 H3 => wipe σ2 vs = wipe σ vs ∧ tt σ2 H3 fun c H4 => if c = true then te σ2 H4 N1 else N0 H4)
    (hd : ∀ H1 (ys : List (V × α)), H1 D = some (.lst (ys.map (·.1))) → ys.map (·.2) = xs.filter t → (∀ q ∈ ys, R q.2 q.1 H1) → Same H H1 → Qd H1) :
    ∃ W : Nat → Nat → Hp → Prop, (∃ m, W 0 m (upd H D (.lst []))) ∧ ∀ i m H, W i m H →
      (J.stop i H ∧ Qd H) ∨ (J.go i H ∧ ∃ Nx : Hp → Prop, (∀ H', Nx H' → ∃ m', m' < m ∧ W (i + 1) m' H') ∧ ∀ x H', J.yld i H x H' → g x (wipe σ vs) H' fun σ2 H2 => wipe σ2 vs = wipe σ vs ∧ tt σ2 H2 fun b H3 =>
        if b = true then te σ2 H3 fun y H4 => ∃ acc, H4 D = some (.lst acc) ∧ acc.length < sizeLine ∧ Nx (upd H4 D (.lst (acc ++ [y]))) else Nx H3) := by
  refine lc_it w (fun i H1 => ∃ ys : List (V × α), H1 D = some (.lst (ys.map (·.1))) ∧ ys.map (·.2) = (xs.take i).filter t ∧ (∀ q ∈ ys, R q.2 q.1 H1) ∧ Same H H1) ⟨[], upd_same, rfl, fun q hq => (by cases hq), same_upd hD⟩ (fun i H1 _ ⟨_, _, _, _, s1⟩ => hG H1 s1) ?_ (fun H1 ⟨ys, h1, h2, h3, h4⟩ => hd H1 ys h1 (by rw [hx, List.take_length] at h2; exact h2) h3 h4)
  rintro i x H1 H2 hi ⟨ys, h1, h2, h3, s1⟩ hY
  have hb : xs[i]? = some (xs[i]'(by omega)) := List.getElem?_eq_getElem _
  generalize xs[i]'(by omega) = b at hb
  have et : xs.take (i + 1) = xs.take i ++ [b] := by
    rw [List.take_add_one, hb]
    rfl
  refine hs i b x H1 H2 (fun y H4 => ∃ acc, H4 D = some (.lst acc) ∧ acc.length < sizeLine ∧ ∃ zs : List (V × α), (upd H4 D (.lst (acc ++ [y]))) D = some (.lst (zs.map (·.1))) ∧ zs.map (·.2) = (xs.take (i + 1)).filter t ∧ (∀ q ∈ zs, R q.2 q.1 (upd H4 D (.lst (acc ++ [y])))) ∧ Same H (upd H4 D (.lst (acc ++ [y])))) _ hb s1 hY (fun y H4 tb r s4 => ?_) (fun H4 tb s4 => ?_)
  · have h4 := s4 _ _ h1
    refine ⟨_, h4, ?_, ys ++ [(y, b)], by rw [upd_same, List.map_append]; rfl, ?_, fun q hq => ?_, same_mut (s1.trans s4) hD⟩
    · have e := congrArg List.length h2
      rw [List.length_map] at e
      rw [List.length_map, e]
      refine Nat.lt_of_le_of_lt (List.length_filter_le _ _) (Nat.lt_of_le_of_lt (?_ : _ ≤ 100000) (by decide))
      rw [List.length_take]
      omega
    · rw [List.map_append, h2, et, List.filter_append, List.filter_cons, if_pos tb]
      rfl
    · rcases List.mem_append.mp hq with z | z
      · exact tk _ _ _ _ (h3 q z) ((tk_same s4).trans (tk_lst h4))
      · rw [List.mem_singleton.mp z]
        exact tk _ _ _ _ r (tk_lst h4)
  · refine ⟨ys, s4 _ _ h1, ?_, fun q hq => tk _ _ _ _ (h3 q hq) (tk_same s4), s1.trans s4⟩
    rw [h2, et, List.filter_append, List.filter_cons, if_neg (by rw [tb]; exact Bool.false_ne_true), List.filter_nil, List.append_nil]
end RL
namespace RL
open PySem PySem.Spec PyProof.Rows L2 RLM
section
variable {P : Program} {w : World} {K : PySem.W.Frag} {mg : Str → Option Value} {base : Heap}
def pairL (q : Nat × Nat) : List Int := [nI q.1, nI q.2]
theorem pairL_inj {a b : Nat × Nat} (h : pairL a = pairL b) : a = b := by
  unfold pairL nI at h
  simp at h
  exact Prod.ext (by omega) (by omega)
/-- a list of ways that a set of tuples tells -/
def toT (q : Addr × Nat × Nat) : Addr × List Int := (q.1, pairL q.2)
def lexLt (a b : Nat × Nat) : Prop := a.1 < b.1 ∨ (a.1 = b.1 ∧ a.2 < b.2)
def spRising (K : PySem.W.Frag) : Sp := fun vs H Q _ => ∃ (n : Nat) (l : Addr) (L : List (Addr × Nat × Nat)), vs = [vI n, .ref l] ∧ H l = some (.lst (L.map fun q => V.ref q.1)) ∧ (∀ q ∈ L, H q.1 = some (.tup [vI q.2.1, vI q.2.2])) ∧ WaysOk n L ∧ n ≤ 8 ∧ L.length < 63 ∧
  ∀ (H' : Hp) (p : Addr) (M : List (Addr × Nat × Nat)), H' p = some (.lst (M.map fun q => V.ref q.1)) → (∀ q ∈ M, H' q.1 = some (.tup [vI q.2.1, vI q.2.2])) → (∀ e, e ∈ M.map (·.2) ↔ e ∈ L.map (·.2)) → (M.map (·.2)).Pairwise lexLt → Same H H' → H p = none → Q (.ref p) H'
theorem sc_rising_ways : FnScope ["many", "ways", "seen", "at", "one", "other"] ["many", "ways"] (defScope s_rising_ways) := ⟨rfl, rfl, rfl, by decide +kernel, rfl, by decide +kernel, by decide +kernel⟩
theorem ok_rising (T : Tx K mg) : Has P w K mg base (He.ga K "rising_ways") 3 ["many", "ways"] (spRising K) := by
  obtain ⟨⟨fd_is_between, F_is_between, b_is_between⟩, kp_is_between⟩ := ok_is_between (P := P) (w := w) (base := base) T
  obtain ⟨fd, F⟩ := T.d_rising_ways
  refine ⟨⟨fd, F.ok sc_rising_ways (fun vs H Q E h => ?_) (fun cdv A outer s H vs Q E hr h => ?_), F.bindsN fun _ _ _ _ _ _ us hl => match us, hl with | [_, _], _ => rfl⟩, F.kp⟩
  · obtain ⟨n, l, L, rfl, _⟩ := h
    rfl
  · obtain ⟨n, l, L, rfl, hl, tL, W, n8, len, h⟩ := h
    have hr_is_between : Room 2 _ := hr.mono (by decide)
    refine ⟨_, PSs.nox (pss_cons (ps_set (i := 2) sc_rising_ways.nd rfl (Or.inl rfl) (pe_callTy0 (set0T (P := P) (w := w)) (by rfl) T.free_set (by decide +kernel)))
      (pss_cons (ps_for PassesOwn.never rfl (piEnum (K := K) (by rfl) T.free_enumerate (pa_cons (pv 1) pa_nil)) (pgT (K := K) (n := 2) rfl (pgs_cons (pg_name (i := 3) sc_rising_ways.nd rfl (Or.inl rfl)) (pgs_cons (pgT (K := K) (n := 2) rfl (pgs_cons (pg_name (i := 4) sc_rising_ways.nd rfl (Or.inl rfl)) (pgs_cons (pg_name (i := 5) sc_rising_ways.nd rfl (Or.inl rfl)) pgs_nil))) pgs_nil))) (pss_cons (ps_if (PW.pt (pw_or (pt_not (pt_val (pe_call F_is_between hr_is_between rfl T.glo_is_between kp_is_between b_is_between .nil pass0 (pa_cons (pv 4) (pa_cons pe_int (pa_cons (pe_op op_sub (pv 0) pe_int) pa_nil)))))) (pw_or1 (pt_not (pt_val (pe_call F_is_between hr_is_between rfl T.glo_is_between kp_is_between b_is_between .nil pass0 (pa_cons (pv 5) (pa_cons pe_int (pa_cons (pe_op op_sub (pv 0) pe_int) pa_nil))))))))) (pss_one ps_never) pss_nil)
      (pss_cons (ps_if (PW.pt (pw_or (pt_cmpR op_eq (pv 4) (pv 5) (nomark _)) (pw_or1 (pt_cmpR (inT (K := K) (P := P) (w := w) hr.units) (pe_tup (pa_cons (pv 4) (pa_cons (pv 5) pa_nil))) (pv 2) (by rfl))))) (pss_one ps_never) pss_nil)
      (pss_one (ps_expr (pe_addT (K := K) (P := P) (w := w) hr.units (pv 2) (pa_cons (pe_tup (pa_cons (pv 4) (pa_cons (pv 5) pa_nil))) pa_nil)))))))
      (pss_one (ps_ret (pe_callB (sortSetT (K := K) (P := P) (w := w)) (by rfl) T.free_sorted (by decide +kernel) (pa_cons (pv 2) pa_nil)))))), ?_⟩
    refine ⟨rfl, fun a ha => ?_⟩
    have s0 : Same H (upd H a (SetTO P w a [])) := same_upd ha
    refine ⟨_, rfl, l, _, rfl, SqL.of (s0 _ _ hl), for_it (walk_enum (K := K) (a := l) (xs := L.map fun q => V.ref q.1)) (fun i σ H1 => ∃ (M : List (Addr × Nat × Nat)) (S : List (Addr × List Int)) (v3 v4 v5 : Option V), σ = [some (vI n), some (.ref l), some (.ref a), v3, v4, v5] ∧ S.Perm (M.map toT) ∧ H1 a = some (SetTO P w a S) ∧ (∀ q ∈ M, H1 q.1 = some (.tup [vI q.2.1, vI q.2.2])) ∧ (∀ e, e ∈ M.map (·.2) ↔ e ∈ (L.take i).map (·.2)) ∧ M.length = i ∧ Same H H1)
      ⟨[], [], none, none, none, rfl, by simp, upd_same, fun q hq => (by cases hq), by simp, rfl, s0⟩ (fun i σ H1 _ ⟨_, _, _, _, _, _, _, _, _, _, _, s1⟩ => SqL.of (s1 _ _ hl)) ?_ ?_⟩
    · rintro i x σ H1 H2 hi ⟨M, S, v3, v4, v5, rfl, pm, hS, tM, mM, lM, s1⟩ ⟨t, x1, x2, rfl, ht, rfl, e1, e2⟩
      rw [List.length_map] at hi
      have eq : L[i]? = some L[i] := List.getElem?_eq_getElem hi
      generalize L[i] = q at eq
      have mq : q ∈ L := List.mem_of_getElem? eq
      obtain ⟨w1, w2, w3⟩ := W.2.1 q mq
      cases (Option.some.inj e1)
      have ex2 : x2 = V.ref q.1 := by
        have e3 : (L.map fun q => V.ref q.1)[i]? = some x2 := e2
        rw [List.getElem?_map, eq] at e3
        exact (Option.some.inj e3).symm
      subst ex2
      have s2 : Same H1 (upd H1 t (.tup [.int (i : Nat), .ref q.1])) := same_upd ht
      have tq := s2 _ _ (s1 _ _ (tL q mq))
      refine ⟨t, _, rfl, SqT.of upd_same, rfl, _, _, rfl, _, _, rfl, q.1, _, rfl, SqT.of tq, rfl, _, _, rfl, _, _, rfl, rfl, rfl, ?_⟩
      have hS2 := s2 _ _ hS
      have tM2 : ∀ m ∈ M, (upd H1 t (.tup [.int (i : Nat), .ref q.1])) m.1 = some (.tup [vI m.2.1, vI m.2.2]) := fun m hm => s2 _ _ (tM m hm)
      have s3 : Same H (upd H1 t (.tup [.int (i : Nat), .ref q.1])) := s1.trans s2
      generalize upd H1 t (.tup [.int (i : Nat), .ref q.1]) = H3 at hS2 tM2 s3
      refine ⟨_, rfl, _, rfl, _, _, rfl, rfl, _, _, _, rfl, _, rfl, iteNS ⟨by omega, by omega⟩ ?_⟩
      refine ⟨_, rfl, _, rfl, _, _, rfl, rfl, _, _, _, rfl, _, rfl, iteNS ⟨by omega, by omega⟩ ?_⟩
      refine ⟨_, rfl, _, rfl, rfl, _, rfl, ?_⟩
      have ne : ¬ (vI q.2.1 = vI q.2.2) := fun z => w3 (by
        have z1 : V.int (q.2.1 : Nat) = V.int (q.2.2 : Nat) := z
        injection z1 with z2
        omega)
      refine ite2 (fun z => absurd (of_decide_eq_true z) ne) (fun _ => ?_)
      have et : L.take (i + 1) = L.take i ++ [q] := by
        rw [List.take_add_one, eq]
        rfl
      have nin : pairL q.2 ∉ S.map (·.2) := fun hm => by
        obtain ⟨p, hp, ep⟩ := List.mem_map.mp hm
        obtain ⟨m, hm, rfl⟩ := List.mem_map.mp (pm.mem_iff.mp hp)
        have em : m.2 = q.2 := pairL_inj ep
        have h1 : q.2 ∈ (L.take i).map (·.2) := (mM q.2).1 (em ▸ List.mem_map.mpr ⟨m, hm, rfl⟩)
        have nd : ((L.take (i + 1)).map (·.2)).Nodup := ((List.take_sublist _ _).map _).nodup W.1
        rw [et, List.map_append, List.nodup_append] at nd
        exact nd.2.2 _ h1 _ (by simp) rfl
      have TA : ∀ H4, (∀ m ∈ M, H4 m.1 = some (.tup [vI m.2.1, vI m.2.2])) → TupsAt K H4 S := fun H4 h4 p hp => by
        obtain ⟨m, hm, rfl⟩ := List.mem_map.mp (pm.mem_iff.mp hp)
        exact SqT.of (h4 m hm)
      refine ⟨_, rfl, _, rfl, (by show 2 ≤ sizeLine; decide), fun u hu => ?_⟩
      have s4 : Same H3 (upd H3 u (.tup [vI q.2.1, vI q.2.2])) := same_upd hu
      refine ⟨_, rfl, u, a, pairL q.2, S, rfl, rfl, SqT.of upd_same, s4 _ _ hS2, TA _ fun m hm => s4 _ _ (tM2 m hm), _, rfl, ?_⟩
      rw [decide_eq_false nin]
      refine iteF ?_
      have hS4 := s4 _ _ hS2
      have tM4 : ∀ m ∈ M, (upd H3 u (.tup [vI q.2.1, vI q.2.2])) m.1 = some (.tup [vI m.2.1, vI m.2.2]) := fun m hm => s4 _ _ (tM2 m hm)
      have s5 := s3.trans s4
      generalize upd H3 u (.tup [vI q.2.1, vI q.2.2]) = H4 at hS4 tM4 s5
      refine ⟨_, rfl, ⟨a, S, rfl, hS4⟩, _, rfl, _, rfl, (by show 2 ≤ sizeLine; decide), fun v hv => ?_⟩
      have s6 : Same H4 (upd H4 v (.tup [vI q.2.1, vI q.2.2])) := same_upd hv
      have lS : S.length < 63 := by
        rw [pm.length_eq, List.length_map, lM]
        omega
      refine ⟨a, v, pairL q.2, S, rfl, rfl, SqT.of upd_same, s6 _ _ hS4, TA _ fun m hm => s6 _ _ (tM4 m hm), lS, nin, fun S' pm' => ?_⟩
      have nva : v ≠ a := fun z => by
        rw [z, hS4] at hv
        cases hv
      refine ⟨M ++ [(v, q.2)], S', _, _, _, rfl, ?_, upd_same, fun m hm => ?_, fun e => ?_, by simp [lM], same_mut (s5.trans s6) ha⟩
      · rw [List.map_append]
        refine pm'.trans ((pm.cons _).trans ?_)
        exact List.perm_append_comm (l₁ := [toT (v, q.2)])
      · rcases List.mem_append.mp hm with hm | hm
        · have g := s6 _ _ (tM4 m hm)
          rw [upd_ne (ne_of g (s6 _ _ hS4) (by intro z; cases z))]
          exact g
        · rw [List.mem_singleton.mp hm, upd_ne nva, upd_same]
      · rw [et, List.map_append, List.map_append, List.mem_append, List.mem_append, mM e]
        rfl
    · rintro σ H1 ⟨M, S, v3, v4, v5, rfl, pm, hS, tM, mM, lM, s1⟩
      rw [List.length_map, List.take_length] at mM
      have inM : ∀ m ∈ M, m.2.1 < 8 ∧ m.2.2 < 8 := fun m hm => by
        obtain ⟨q, hq, e⟩ := List.mem_map.mp ((mM m.2).1 (List.mem_map.mpr ⟨m, hm, rfl⟩))
        have := W.2.1 q hq
        have e : q.2 = m.2 := e
        rw [← e]
        omega
      refine ⟨_, rfl, a, S, 2, 64, rfl, hS, fun p hp => ?_, by decide, fun p hp => ?_, fun S' p pm' nd few pw hp => ?_⟩
      · obtain ⟨m, hm, rfl⟩ := List.mem_map.mp (pm.mem_iff.mp hp)
        exact SqT.of (tM m hm)
      · obtain ⟨m, hm, rfl⟩ := List.mem_map.mp (pm.mem_iff.mp hp)
        have := inM m hm
        refine ⟨rfl, ?_⟩
        intro z hz
        have hz : z = nI m.2.1 ∨ z = nI m.2.2 := by simpa [toT, pairL] using hz
        unfold nI at hz
        omega
      · obtain ⟨M', rfl, pM⟩ := perm_map (pm'.trans pm)
        have e1 : (M'.map toT).map (fun q => V.ref q.1) = M'.map fun q => V.ref q.1 := by
          rw [List.map_map]
          rfl
        have s2 := same_upd (o := HO.lst ((M'.map toT).map fun q => V.ref q.1)) hp
        refine h _ p M' (by rw [upd_same, e1]) (fun q hq => s2 _ _ (tM q (pM.mem_iff.mp hq))) (fun e => ?_) ?_ (s1.trans s2) (s1.free hp)
        · rw [← mM e]
          exact (pM.map _).mem_iff
        · rw [List.pairwise_map] at pw ⊢
          have nd2 : M'.Pairwise (fun x y => pairL x.2 ≠ pairL y.2) := by
            have : ((M'.map toT).map (·.2)).Pairwise (· ≠ ·) := nd
            rw [List.map_map, List.pairwise_map] at this
            exact this
          refine (pw.and nd2).imp_of_mem fun {x y} hx hy ⟨c1, c2⟩ => ?_
          have bx := inM x (pM.mem_iff.mp hx)
          have by_ := inM y (pM.mem_iff.mp hy)
          have := pair_lt (x := nI x.2.1) (y := nI x.2.2) (x' := nI y.2.1) (y' := nI y.2.2) c1 c2 (by unfold nI; omega) (by unfold nI; omega) (by unfold nI; omega) (by unfold nI; omega)
          unfold nI at this
          unfold lexLt
          omega
end
end RL
namespace RL
open PySem PySem.Spec PyProof.Rows L2 RLM
theorem ixN_nat {n j : Nat} (h : j < n) : ixN n (j : Int) = some j := by
  unfold ixN
  have h1 : (0 : Int) ≤ (j : Int) := Int.natCast_nonneg j
  have h2 : (j : Int) < (n : Int) := by omega
  rw [if_pos h1, if_pos h2, Int.toNat_natCast]
theorem get_map {α β : Type} {f : α → β} {xs : List α} {i : Nat} {x : α} (h : xs[i]? = some x) : (xs.map f)[i]? = some (f x) := by
  rw [List.getElem?_map, h]
  rfl
/-- the leads' lists -/
structure LeadsAt (H : Hp) (ll : Addr) (n : Nat) (E : List (Nat × Nat)) (G : List (Addr × List Nat)) : Prop where
  at_ : H ll = some (.lst (G.map fun g => V.ref g.1))
  len : G.length = n
  each : ∀ (c : Nat) (g : Addr × List Nat), G[c]? = some g → H g.1 = some (.lst (g.2.map vI)) ∧ g.2.length ≤ 64 ∧ ∀ o, o ∈ g.2 ↔ (c, o) ∈ E
theorem LeadsAt.same {H H' : Hp} {ll : Addr} {n : Nat} {E : List (Nat × Nat)} {G : List (Addr × List Nat)} (s : Same H H') (h : LeadsAt H ll n E G) : LeadsAt H' ll n E G :=
  ⟨s _ _ h.at_, h.len, fun c g e => ⟨s _ _ (h.each c g e).1, (h.each c g e).2⟩⟩
section
variable {P : Program} {w : World} {K : PySem.W.Frag} {mg : Str → Option Value} {base : Heap}
def spFars : Sp := fun vs H Q _ => ∃ (ll : Addr) (a n : Nat) (E : List (Nat × Nat)) (G : List (Addr × List Nat)), vs = [.ref ll, vI a] ∧ LeadsAt H ll n E G ∧ On n E ∧ n ≤ 8 ∧ a < n ∧
  ∀ (H' : Hp) (p : Addr) (fs : List (Option Nat)), H' p = some (.lst (fs.map vO)) → H p = none → Fars n E a fs → Same H H' → Q (.ref p) H'
theorem sc_fars_from : FnScope ["leads", "place", "fars", "edge", "beyond", "one", "other"] ["leads", "place"] (defScope s_fars_from) := ⟨rfl, rfl, rfl, by decide +kernel, rfl, by decide +kernel, by decide +kernel⟩
theorem ok_fars (T : Tx K mg) : Has P w K mg base (He.ga K "fars_from") 1 ["leads", "place"] spFars := by
  obtain ⟨fd, F⟩ := T.d_fars_from
  refine ⟨⟨fd, F.ok sc_fars_from (fun vs H Q E h => ?_) (fun cdv A outer s H vs Q E hr h => ?_), F.bindsN fun _ _ _ _ _ _ us hl => match us, hl with | [_, _], _ => rfl⟩, F.kp⟩
  · obtain ⟨ll, a, n, E, G, rfl, _⟩ := h
    rfl
  · obtain ⟨ll, a, n, E, G, rfl, LA, hE, n8, an, h⟩ := h
    refine ⟨_, PSs.nox (pss_cons (ps_set (i := 2) sc_fars_from.nd rfl (Or.inl rfl) (pe_op op_rep (pe_lst (pa_cons pe_non pa_nil)) (pe_callB (lenK (K := K)) (by rfl) T.free_len (by decide +kernel) (pa_cons (pv 0) pa_nil))))
      (pss_cons (ps_asg pe_int (pg_sub (pv 2) (pv 1) set_list))
      (pss_cons (ps_set (i := 3) sc_fars_from.nd rfl (Or.inl rfl) (pe_lst (pa_cons (pv 1) pa_nil)))
      (pss_cons (ps_while PassesOwn.never (pt_truth (pv 3) (by intro _; rfl)) (pss_cons (ps_set (i := 4) sc_fars_from.nd rfl (Or.inl rfl) (pe_lst pa_nil))
      (pss_cons (ps_for PassesOwn.never rfl (piL (K := K) (pv 3)) (pg_name (i := 5) sc_fars_from.nd rfl (Or.inl rfl)) (pss_one (ps_for PassesOwn.never rfl (piL (K := K) (pe_ix (ixL (K := K)) (pv 0) (pv 5) (fun _ _ => rfl))) (pg_name (i := 6) sc_fars_from.nd rfl (Or.inl rfl)) (pss_one (ps_if (pt_cmpR op_isN (pe_ix (ixL (K := K)) (pv 2) (pv 6) (fun _ _ => rfl)) pe_non (nomark _)) (pss_cons (ps_asg (pe_op op_add (pe_ix (ixL (K := K)) (pv 2) (pv 5) (fun _ _ => rfl)) pe_int) (pg_sub (pv 2) (pv 6) set_list))
      (pss_one (ps_expr (bmK (K := K) PySem.F.plainAttrs_list PySem.F.slot_list_append PySem.F.type_list_append mt_append (pv 4) (pa_cons (pv 6) pa_nil))))) pss_nil)))))
      (pss_one (ps_set (i := 3) sc_fars_from.nd rfl (Or.inl rfl) (pv 4))))))
      (pss_one (ps_ret (pv 2))))))), ?_⟩
    refine ⟨(by show 1 ≤ sizeLine; decide), fun l0 hl0 => ?_⟩
    have s0 : Same H (upd H l0 (.lst [.non])) := same_upd hl0
    refine ⟨_, rfl, ll, _, rfl, .inl (SqL.of (s0 _ _ LA.at_)), l0, _, _, rfl, rfl, upd_same, ?_, ?_, ?_, fun pf hpf => ?_⟩
    · rw [List.length_map]
      omega
    · rw [List.length_map, LA.len]
      omega
    · rw [List.length_map, LA.len]
      show 1 * (n : Int).toNat ≤ sizeLine
      exact Nat.le_trans (show 1 * (n : Int).toNat ≤ 8 by omega) (by decide)
    have Hf : H pf = none := s0.free hpf
    have ef : (List.replicate (((G.map fun g => V.ref g.1).length : Nat) : Int).toNat [V.non]).flatten = (List.replicate n (none : Option Nat)).map vO := by
      rw [List.length_map, LA.len, Int.toNat_natCast, rep_flat, List.map_replicate]
      rfl
    rw [ef]
    refine ⟨_, rfl, _, rfl, pf, _, _, a, rfl, rfl, upd_same, ixN_nat (by simp [an]), ?_⟩
    have e2 : ((List.replicate n (none : Option Nat)).map vO).set a (V.int 0) = ((List.replicate n (none : Option Nat)).set a (some 0)).map vO := by
      rw [List.map_set]
      rfl
    rw [e2]
    refine ⟨_, rfl, (by show 1 ≤ sizeLine; decide), fun pe hpe => ?_⟩
    have s1 : Same H (upd (upd (upd (upd H l0 (.lst [.non])) pf (.lst ((List.replicate n (none : Option Nat)).map vO))) pf (.lst (((List.replicate n (none : Option Nat)).set a (some 0)).map vO))) pe (.lst [vI a])) :=
      (same_mut (same_mut s0 Hf) Hf).trans (same_upd hpe)
    have Hpe : H pe = none := (same_mut (same_mut s0 Hf) Hf).free hpe
    have nfe : pf ≠ pe := fun z => by
      rw [← z, upd_same] at hpe
      cases hpe
    refine ⟨fun m σ H1 => ∃ (l : Nat) (fs : List (Option Nat)) (edge : List Nat) (pe : Addr) (v4 v5 v6 : Option V), σ = [some (.ref ll), some (vI a), some (.ref pf), some (.ref pe), v4, v5, v6] ∧ H1 pf = some (.lst (fs.map vO)) ∧ H1 pe = some (.lst (edge.map vI)) ∧ pf ≠ pe ∧ H pe = none ∧ Lev n E a l fs edge ∧ edge.length ≤ 64 ∧ m = fs.count none + (if edge = [] then 0 else 1) ∧ Same H H1,
      ⟨_, 0, _, [a], pe, none, none, none, rfl, ?_, upd_same, nfe, Hpe, lev_start an, by simp, rfl, s1⟩, ?_⟩
    · rw [upd_ne nfe, upd_same]
    rintro m σ H1 ⟨l, fs, edge, pe, v4, v5, v6, rfl, hf, he, nfe, Hpe, LV, le, rfl, s1⟩
    refine ⟨_, rfl, _, .inl ⟨_, SqL.of he, rfl⟩, ?_⟩
    cases edge with
    | nil => exact iteF ⟨_, rfl, h H1 pf fs hf Hf (LV.fars hE an) s1⟩
    | cons c0 cs =>
    refine iteT ?_
    generalize hed : c0 :: cs = edge at LV le he
    have ne : edge ≠ [] := by rw [← hed]; exact List.cons_ne_nil _ _
    refine ⟨fun σ' H' => ∃ (fs' : List (Option Nat)) (bey : List Nat) (pb : Addr) (v5 v6 : Option V), σ' = [some (.ref ll), some (vI a), some (.ref pf), some (.ref pb), some (.ref pb), v5, v6] ∧ H' pf = some (.lst (fs'.map vO)) ∧ H' pb = some (.lst (bey.map vI)) ∧ pf ≠ pb ∧ H pb = none ∧ Lev n E a (l + 1) fs' bey ∧ fs'.count none + bey.length = fs.count none ∧ bey.length ≤ 64 ∧ Same H H', ?_, ?_⟩
    · rintro σ' H' ⟨fs', bey, pb, w5, w6, rfl, g1, g2, g3, g4, g5, g6, g7, g8⟩
      refine ⟨_, ?_, l + 1, fs', bey, pb, _, w5, w6, rfl, g1, g2, g3, g4, g5, g7, rfl, g8⟩
      rw [if_neg ne]
      cases bey with
      | nil => simp at g6 ⊢; omega
      | cons x y => simp at g6 ⊢; omega
    refine ⟨Nat.zero_le _, fun pb hpb => ?_⟩
    have s2 : Same H1 (upd H1 pb (.lst [])) := same_upd hpb
    have nfb : pf ≠ pb := ne_of_none hf hpb
    have neb : pe ≠ pb := ne_of_none he hpb
    have Hpb : H pb = none := s1.free hpb
    refine ⟨_, rfl, pe, rfl, ⟨_, SqL.of (s2 _ _ he)⟩, for_list (K := K) (a := pe) (xs := edge.map vI) (fun i σ H2 => ∃ (fs' : List (Option Nat)) (bey done : List Nat) (v5 v6 : Option V), σ = [some (.ref ll), some (vI a), some (.ref pf), some (.ref pe), some (.ref pb), v5, v6] ∧ H2 pf = some (.lst (fs'.map vO)) ∧ H2 pb = some (.lst (bey.map vI)) ∧ H2 pe = some (.lst (edge.map vI)) ∧ Mid n E l fs edge done fs' bey ∧ (∀ c o, c ∈ edge.take i → (c, o) ∈ E → o ∈ done) ∧ Same H H2)
      ⟨fs, [], [], v5, v6, rfl, s2 _ _ hf, upd_same, s2 _ _ he, mid_start LV.len, by simp, s1.trans s2⟩ (fun i σ H2 _ ⟨_, _, _, _, _, _, _, _, g, _⟩ => SqL.of g) ?_ ?_⟩
    · rintro i x σ H2 hx ⟨fs', bey, done, v5, v6, rfl, hf2, hb2, he2, MD, dn, s3⟩
      obtain ⟨c, hc, rfl⟩ : ∃ c, edge[i]? = some c ∧ vI c = x := by
        rw [List.getElem?_map] at hx
        cases e : edge[i]? with
        | none => rw [e] at hx; cases hx
        | some c => rw [e] at hx; exact ⟨c, rfl, Option.some.inj hx⟩
      have mc : c ∈ edge := List.mem_of_getElem? hc
      have fc : fs[c]? = some (some l) := (LV.edge_ c).1 mc
      have cn : c < n := by
        rw [← LV.len]
        exact (List.getElem?_eq_some_iff.mp fc).1
      obtain ⟨g, hg⟩ : ∃ g, G[c]? = some g := ⟨_, List.getElem?_eq_getElem (by rw [LA.len]; exact cn)⟩
      have LA2 := LA.same s3
      obtain ⟨hgl, gl, gE⟩ := LA2.each c g hg
      have et : edge.take (i + 1) = edge.take i ++ [c] := by
        rw [List.take_add_one, hc]
        rfl
      refine ⟨_, rfl, _, rfl, ll, _, _, _, rfl, rfl, SqL.of LA2.at_, atI_nat (get_map hg), g.1, rfl, ⟨_, SqL.of hgl⟩, for_list (K := K) (a := g.1) (xs := g.2.map vI) (fun j σ H3 => ∃ (fs' : List (Option Nat)) (bey done' : List Nat) (v6 : Option V), σ = [some (.ref ll), some (vI a), some (.ref pf), some (.ref pe), some (.ref pb), some (vI c), v6] ∧ H3 pf = some (.lst (fs'.map vO)) ∧ H3 pb = some (.lst (bey.map vI)) ∧ H3 pe = some (.lst (edge.map vI)) ∧ Mid n E l fs edge done' fs' bey ∧ (∀ o, o ∈ done → o ∈ done') ∧ (∀ o, o ∈ g.2.take j → o ∈ done') ∧ Same H H3)
        ⟨fs', bey, done, v6, rfl, hf2, hb2, he2, MD, fun _ z => z, by simp, s3⟩ (fun j σ H3 _ ⟨_, _, _, _, _, _, _, _, _, _, _, s4⟩ => SqL.of ((LA.same s4).each c g hg).1) ?_ ?_⟩
      · rintro j x σ H3 hx ⟨fs3, bey3, done3, v6, rfl, hf3, hb3, he3, MD3, d1, d2, s4⟩
        obtain ⟨o, ho, rfl⟩ : ∃ o, g.2[j]? = some o ∧ vI o = x := by
          rw [List.getElem?_map] at hx
          cases e : g.2[j]? with
          | none => rw [e] at hx; cases hx
          | some o => rw [e] at hx; exact ⟨o, rfl, Option.some.inj hx⟩
        have mo : (c, o) ∈ E := (gE o).1 (List.mem_of_getElem? ho)
        have on : o < fs3.length := by
          rw [MD3.len]
          exact (hE _ mo).2.1
        have eo : fs3[o]? = some fs3[o] := List.getElem?_eq_getElem on
        generalize fs3[o] = d at eo
        have et2 : g.2.take (j + 1) = g.2.take j ++ [o] := by
          rw [List.take_add_one, ho]
          rfl
        refine ⟨_, rfl, _, rfl, pf, _, _, _, rfl, rfl, SqL.of hf3, atI_nat (get_map eo), rfl, _, rfl, ?_⟩
        cases d with
        | some d =>
          refine iteF ⟨fs3, bey3, done3 ++ [o], _, rfl, hf3, hb3, he3, MD3.hit eo, fun o' ho' => List.mem_append_left _ (d1 o' ho'), fun o' ho' => ?_, s4⟩
          rw [et2] at ho'
          rcases List.mem_append.mp ho' with z | z
          · exact List.mem_append_left _ (d2 o' z)
          · exact List.mem_append_right _ z
        | none =>
          refine iteT ?_
          have fc3 : fs3[c]? = some (some l) := MD3.old c l fc
          refine ⟨_, rfl, _, rfl, pf, _, _, _, rfl, rfl, SqL.of hf3, atI_nat (get_map fc3), _, _, rfl, rfl, _, rfl, _, rfl, pf, _, _, o, rfl, rfl, hf3, ixN_nat (by simpa using on), ?_⟩
          have ez : (fs3.map vO).set o (V.int (((l : Nat) : Int) + 1)) = (fs3.set o (some (l + 1))).map vO := by
            rw [List.map_set]
            rfl
          rw [ez]
          have hb4 : (upd H3 pf (.lst ((fs3.set o (some (l + 1))).map vO))) pb = some (.lst (bey3.map vI)) := by
            rw [upd_ne nfb.symm]
            exact hb3
          have b64 : bey3.length ≤ 64 := by
            have c1 := MD3.cnt
            have c2 : fs.count none ≤ fs.length := List.count_le_length
            rw [LV.len] at c2
            omega
          refine ⟨_, rfl, .inl ⟨rfl, _, SqL.of hb4⟩, _, rfl, pb, _, _, rfl, rfl, hb4, ?_, ?_⟩
          · rw [List.length_map]
            exact Nat.lt_of_le_of_lt b64 (by decide)
          refine ⟨fs3.set o (some (l + 1)), bey3 ++ [o], done3 ++ [o], _, rfl, ?_, ?_, ?_, MD3.put LV.len eo mc mo, fun o' ho' => List.mem_append_left _ (d1 o' ho'), fun o' ho' => ?_, same_mut (same_mut s4 Hf) Hpb⟩
          · rw [upd_ne nfb, upd_same]
          · rw [upd_same, List.map_append]
            rfl
          · rw [upd_ne neb, upd_ne nfe.symm]
            exact he3
          · rw [et2] at ho'
            rcases List.mem_append.mp ho' with z | z
            · exact List.mem_append_left _ (d2 o' z)
            · exact List.mem_append_right _ z
      · rintro σ H3 ⟨fs3, bey3, done3, v6, rfl, hf3, hb3, he3, MD3, d1, d2, s4⟩
        rw [List.length_map, List.take_length] at d2
        refine ⟨fs3, bey3, done3, _, _, rfl, hf3, hb3, he3, MD3, fun c' o hc' ho => ?_, s4⟩
        rw [et] at hc'
        rcases List.mem_append.mp hc' with z | z
        · exact d1 o (dn c' o z ho)
        · rw [List.mem_singleton.mp z] at ho
          exact d2 o ((gE o).2 ho)
    · rintro σ H2 ⟨fs', bey, done, v5, v6, rfl, hf2, hb2, he2, MD, dn, s3⟩
      rw [List.length_map, List.take_length] at dn
      have c1 := MD.cnt
      have c2 : fs.count none ≤ fs.length := List.count_le_length
      rw [LV.len] at c2
      exact ⟨_, rfl, fs', bey, pb, _, _, rfl, hf2, hb2, nfb, Hpb, MD.next LV hE an dn, c1, by omega, s3⟩
end
end RL
namespace RL
open PySem PySem.Spec PyProof.Rows L2 RLM
section
variable {P : Program} {w : World} {K : PySem.W.Frag} {mg : Str → Option Value} {base : Heap}
def spInit (K : PySem.W.Frag) : Sp := fun vs H Q _ => ∃ (H0 : Hp) (x dx c l : Addr) (n : Nat) (L : List (Addr × Nat × Nat)), vs = [.ref x, vI n, .ref l] ∧ Same H0 H ∧ H0 x = none ∧ H x = some (.ins (cB K) dx []) ∧ (∃ ys, H0 c = some (.lst ys)) ∧
  H0 l = some (.lst (L.map fun q => V.ref q.1)) ∧ (∀ q ∈ L, H0 q.1 = some (.tup [vI q.2.1, vI q.2.2])) ∧ WaysOk n L ∧ 1 ≤ n ∧ n ≤ 8 ∧ L.length < 63 ∧
  ∀ (H' : Hp) (E : List (Nat × Nat)), BoardAt K c H' x n E → (∀ e, e ∈ E ↔ e ∈ L.map (·.2)) → E.Pairwise lexLt → Same H0 H' → Q .non H'
theorem sc_Board_init : FnScope ["self", "many", "ways", "place", "one", "other"] ["self", "many", "ways"] (defScope s_Board_init) := ⟨rfl, rfl, rfl, by decide +kernel, rfl, by decide +kernel, by decide +kernel⟩
theorem ok_init (T : Tx K mg) : Has P w K mg base (mB K "__init__") 4 ["self", "many", "ways"] (spInit K) := by
  obtain ⟨⟨fd_is_between, F_is_between, b_is_between⟩, kp_is_between⟩ := ok_is_between (P := P) (w := w) (base := base) T
  obtain ⟨⟨fd_rising_ways, F_rising_ways, b_rising_ways⟩, kp_rising_ways⟩ := ok_rising (P := P) (w := w) (base := base) T
  obtain ⟨⟨fd_fars_from, F_fars_from, b_fars_from⟩, kp_fars_from⟩ := ok_fars (P := P) (w := w) (base := base) T
  obtain ⟨fd, F⟩ := T.d_Board_init
  have hb : Binds K fd ["self", "many", "ways"] [] := by
    obtain ⟨ds, e, b⟩ := F.binds1 (ps := ["self", "many", "ways"]) 3 1 (List.cons_ne_nil _ _) rfl (fun T0 kV doc pm an cdv ct us its l1 l2 => match us, its, l1, l2 with
      | [_, _, _], [_], _, _ => ⟨_, rfl, rfl⟩)
    cases e
    exact b
  refine ⟨⟨fd, F.ok sc_Board_init (fun vs H Q E h => ?_) (fun cdv A outer s H vs Q E hr h => ?_), hb⟩, F.kp⟩
  · obtain ⟨H0, x, dx, c, l, n, L, rfl, _⟩ := h
    rfl
  · obtain ⟨H0, x, dx, c, l, n, L, rfl, s0, x0, hx, hc, hl, tL, W, n1, n8, len, h⟩ := h
    have hr_is_between : Room 2 _ := hr.mono (by decide)
    have hr_rising_ways : Room 3 _ := hr.mono (by decide)
    have hr_fars_from : Room 1 _ := hr.mono (by decide)
    refine ⟨_, PSs.nox (pss_cons (ps_if (pt_not (pt_val (pe_call F_is_between hr_is_between rfl T.glo_is_between kp_is_between b_is_between .nil pass0 (pa_cons (pv 1) (pa_cons pe_int (pa_cons (pe_glob (v := .int 8) rfl T.glob_MOST_PLACES.choose_spec ⟨_, rfl⟩) pa_nil)))))) (pss_one ps_never) pss_nil)
      (pss_cons (ps_fld (pv 0) (pv 1) rfl)
      (pss_cons (ps_fld (pv 0) (pe_call F_rising_ways hr_rising_ways rfl T.glo_rising_ways kp_rising_ways b_rising_ways .nil pass0 (pa_cons (pv 1) (pa_cons (pv 2) pa_nil))) rfl)
      (pss_cons (ps_fld (pv 0) (pe_lc (own := [("place", 3)]) (g := (gName 3)) (tt := tYes) rfl sc_Board_init.nd (pi_range1 (by rfl) T.free_range (pa_cons (pv 1) pa_nil)) (blkOk_by (by kernel_rfl)) (fun _ _ _ _ _ => (pg_name (i := 3) sc_Board_init.nd rfl (Or.inr rfl))) (fun _ _ _ _ _ => pts_nil) (fun _ _ _ _ _ => (pe_lc (own := [("one", 4), ("other", 5)]) rfl sc_Board_init.nd (piL (K := K) (fldK (K := K) (pv 0) rfl)) (blkOk_by (by kernel_rfl)) (fun _ _ _ _ _ => (pgT (K := K) (n := 2) rfl (pgs_cons (pg_name (i := 4) sc_Board_init.nd rfl (Or.inl rfl)) (pgs_cons (pg_name (i := 5) sc_Board_init.nd rfl (Or.inl rfl)) pgs_nil)))) (fun _ _ _ _ _ => (pts_one (pt_cmpR op_eq (pv 4) (pv 3) (nomark _)))) (fun _ _ _ _ _ => (pv 5))))) rfl)
      (pss_one (ps_fld (pv 0) (pe_lc (own := [("place", 3)]) (g := (gName 3)) (tt := tYes) rfl sc_Board_init.nd (pi_range1 (by rfl) T.free_range (pa_cons (pv 1) pa_nil)) (blkOk_by (by kernel_rfl)) (fun _ _ _ _ _ => (pg_name (i := 3) sc_Board_init.nd rfl (Or.inl rfl))) (fun _ _ _ _ _ => pts_nil) (fun _ _ _ _ _ => (pe_call F_fars_from hr_fars_from rfl T.glo_fars_from kp_fars_from b_fars_from .nil pass0 (pa_cons (fldK (K := K) (pv 0) rfl) (pa_cons (pv 3) pa_nil))))) rfl)))))), ?_⟩
    refine ⟨_, rfl, _, _, _, rfl, _, rfl, iteNS ⟨by omega, by omega⟩ ?_⟩
    refine ⟨_, rfl, _, rfl, x, _, dx, _, rfl, hx, T.cl, T.n_many, (by show 0 < 1000; decide), ?_⟩
    have s1 : Same H0 (upd H x (.ins (cB K) dx (putF "many" (vI n) []))) := same_mut s0 x0
    have hx1 : (upd H x (.ins (cB K) dx (putF "many" (vI n) []))) x = some (.ins (cB K) dx (putF "many" (vI n) [])) := upd_same
    generalize upd H x (.ins (cB K) dx (putF "many" (vI n) [])) = H1 at s1 hx1
    refine ⟨_, rfl, _, rfl, n, l, L, rfl, s1 _ _ hl, fun q hq => s1 _ _ (tL q hq), W, n8, len, fun H2 p M hp tM mM sM s2 hpn => ?_⟩
    have hx2 := s2 _ _ hx1
    have npx : p ≠ x := ne_of hp hx2 (by intro z; cases z)
    refine ⟨_, rfl, x, _, dx, _, rfl, hx2, T.cl, T.n_pairs, (by show 1 < 1000; decide), ?_⟩
    have hc1 : ∃ ys, H1 c = some (.lst ys) := hc.imp fun ys z => s1 _ _ z
    have npc : p ≠ c := fun z => by
      obtain ⟨ys, hc1⟩ := hc1
      rw [← z, hpn] at hc1
      cases hc1
    have hx3 : (upd H2 x (.ins (cB K) dx (putF "pairs" (.ref p) (putF "many" (vI n) [])))) x = some (.ins (cB K) dx (putF "pairs" (.ref p) (putF "many" (vI n) []))) := upd_same
    have hp3 : (upd H2 x (.ins (cB K) dx (putF "pairs" (.ref p) (putF "many" (vI n) [])))) p = some (.lst (M.map fun q => V.ref q.1)) := by
      rw [upd_ne npx]
      exact hp
    have tM3 : ∀ q ∈ M, (upd H2 x (.ins (cB K) dx (putF "pairs" (.ref p) (putF "many" (vI n) [])))) q.1 = some (.tup [vI q.2.1, vI q.2.2]) := fun q hq => by
      rw [upd_ne (ne_of (tM q hq) hx2 (by intro z; cases z))]
      exact tM q hq
    have s3 : Same H0 (upd H2 x (.ins (cB K) dx (putF "pairs" (.ref p) (putF "many" (vI n) [])))) := same_mut (s1.trans s2) x0
    generalize upd H2 x (.ins (cB K) dx (putF "pairs" (.ref p) (putF "many" (vI n) []))) = H3 at hx3 hp3 tM3 s3
    have nd : (M.map (·.2)).Nodup := sM.imp fun {a b} z e => by
      unfold lexLt at z
      rw [e] at z
      omega
    have lM : M.length ≤ 64 := by
      have q1 : (M.map (·.2)).length ≤ (L.map (·.2)).length := nd.length_le_of_subset fun e he => (mM e).1 he
      rw [List.length_map, List.length_map] at q1
      omega
    have on : On n (M.map (·.2)) := fun e he => by
      obtain ⟨q, hq, rfl⟩ := List.mem_map.mp ((mM e).1 he)
      exact W.2.1 q hq
    refine ⟨_, rfl, (n : Int), rfl, by omega, by omega, fun D hD => ?_⟩
    have Dc : D ≠ c := fun z => by
      obtain ⟨ys, hc⟩ := hc
      rw [z, s3 _ _ hc] at hD
      cases hD
    refine lc_range (lo := 0) (n := ((n : Nat) : Int).toNat) (fun i H4 => ∃ G : List (Addr × List Nat), G.length = i ∧ H4 D = some (.lst (G.map fun g => V.ref g.1)) ∧ (∀ (c : Nat) (g : Addr × List Nat), G[c]? = some g → g.1 ≠ D ∧ H4 g.1 = some (.lst (g.2.map vI)) ∧ g.2.length ≤ 64 ∧ ∀ o, o ∈ g.2 ↔ (c, o) ∈ M.map (·.2)) ∧ Same H3 H4)
      ⟨[], rfl, upd_same, fun c g e => (by simp at e), same_upd hD⟩ ?_ ?_
    · rintro i H4 hi ⟨G, lG, hG, eG, s4⟩
      refine ⟨rfl, ?_⟩
      unfold tYes
      refine iteT ?_
      refine ⟨_, rfl, x, _, dx, _, _, rfl, s4 _ _ hx3, T.cl, T.n_pairs, rfl, p, rfl, ⟨_, SqL.of (s4 _ _ hp3)⟩, fun D2 hD2 => ?_⟩
      refine lc_list (K := K) (a := p) (xs := M.map fun q => V.ref q.1) (fun j H5 => ∃ os : List Nat, H5 D2 = some (.lst (os.map vI)) ∧ (∀ o, o ∈ os ↔ (i, o) ∈ (M.take j).map (·.2)) ∧ os.length ≤ j ∧ Same H4 H5)
        ⟨[], upd_same, by simp, Nat.le_refl _, same_upd hD2⟩ (fun j H5 _ ⟨_, _, _, _, s5⟩ => SqL.of (s5 _ _ (s4 _ _ hp3))) ?_ ?_
      · rintro j y H5 hy ⟨os, ho, mo, lo, s5⟩
        obtain ⟨q, hq, rfl⟩ : ∃ q, M[j]? = some q ∧ V.ref q.1 = y := by
          rw [List.getElem?_map] at hy
          cases e : M[j]? with
          | none => rw [e] at hy; cases hy
          | some q => rw [e] at hy; exact ⟨q, rfl, Option.some.inj hy⟩
        have jM : j < M.length := (List.getElem?_eq_some_iff.mp hq).1
        have et : M.take (j + 1) = M.take j ++ [q] := by
          rw [List.take_add_one, hq]
          rfl
        have tq := s5 _ _ (s4 _ _ (tM3 q (List.mem_of_getElem? hq)))
        refine ⟨q.1, _, rfl, SqT.of tq, rfl, _, _, rfl, _, _, rfl, rfl, rfl, ?_⟩
        refine ⟨_, rfl, _, rfl, rfl, _, rfl, ?_⟩
        refine ite2 (fun z => ?_) (fun z => ?_)
        · have z1 : V.int (q.2.1 : Nat) = V.int (0 + (i : Int)) := of_decide_eq_true z
          have z2 : q.2.1 = i := by
            injection z1 with z1
            omega
          refine ⟨_, rfl, _, ho, ?_, os ++ [q.2.2], ?_, fun o => ?_, ?_, same_mut s5 hD2⟩
          · rw [List.length_map]
            exact Nat.lt_of_le_of_lt (show os.length ≤ 64 by omega) (by decide)
          · rw [upd_same, List.map_append]
            rfl
          · rw [et, List.map_append, List.mem_append, List.mem_append, mo o]
            have : o ∈ [q.2.2] ↔ (i, o) ∈ List.map (fun x => x.2) [q] := by
              simp only [List.mem_singleton, List.map_cons, List.map_nil]
              constructor
              · intro e
                rw [e, ← z2]
              · intro e
                rw [← e]
            rw [this]
          · rw [List.length_append]
            simp
            omega
        · have z2 : q.2.1 ≠ i := fun e => z (decide_eq_true (by
            show V.int (q.2.1 : Nat) = V.int (0 + (i : Int))
            rw [e, Int.zero_add]))
          refine ⟨os, ho, fun o => ?_, by omega, s5⟩
          rw [et, List.map_append, List.mem_append, mo o]
          constructor
          · exact .inl
          · rintro (e | e)
            · exact e
            · have : (i, o) = q.2 := by simpa using e
              exact absurd (congrArg Prod.fst this).symm z2
      · rintro H5 ⟨os, ho, mo, lo, s5⟩
        rw [List.length_map] at lo mo
        rw [List.take_length] at mo
        have D2D : D2 ≠ D := fun z => by
          rw [z, hG] at hD2
          cases hD2
        refine ⟨_, s5 _ _ hG, ?_, G ++ [(D2, os)], by simp [lG], ?_, fun c' g hg => ?_, same_mut (s4.trans s5) hD⟩
        · rw [List.length_map]
          exact Nat.lt_of_le_of_lt (show G.length ≤ 8 by omega) (by decide)
        · rw [upd_same, List.map_append]
          rfl
        · rw [List.getElem?_append] at hg
          split at hg
          · rename_i lt
            obtain ⟨gD, g1, g2, g3⟩ := eG c' g hg
            rw [upd_ne gD]
            exact ⟨gD, s5 _ _ g1, g2, g3⟩
          · rename_i ge
            have e0 : c' - G.length = 0 := by
              cases h0 : c' - G.length with
              | zero => rfl
              | succ k => rw [h0] at hg; simp at hg
            rw [e0] at hg
            have eg : (D2, os) = g := by simpa using hg
            subst eg
            have ec : c' = i := by omega
            subst ec
            rw [upd_ne D2D]
            exact ⟨D2D, ho, (show os.length ≤ 64 by omega), mo⟩
    · rintro H4 ⟨G, lG, hG, eG, s4⟩
      have hx4 := s4 _ _ hx3
      refine ⟨_, rfl, x, _, dx, _, rfl, hx4, T.cl, T.n_leads, (by show 2 < 1000; decide), ?_⟩
      have nDx : D ≠ x := ne_of hG hx4 (by intro z; cases z)
      have hx5 : (upd H4 x (.ins (cB K) dx (putF "leads" (.ref D) (putF "pairs" (.ref p) (putF "many" (vI n) []))))) x = some (.ins (cB K) dx (putF "leads" (.ref D) (putF "pairs" (.ref p) (putF "many" (vI n) [])))) := upd_same
      have LA : LeadsAt (upd H4 x (.ins (cB K) dx (putF "leads" (.ref D) (putF "pairs" (.ref p) (putF "many" (vI n) []))))) D n (M.map (·.2)) G := by
        refine ⟨by rw [upd_ne nDx]; exact hG, by omega, fun c' g hg => ?_⟩
        obtain ⟨_, g1, g2, g3⟩ := eG c' g hg
        rw [upd_ne (ne_of g1 hx4 (by intro z; cases z))]
        exact ⟨g1, g2, g3⟩
      have hp5 : (upd H4 x (.ins (cB K) dx (putF "leads" (.ref D) (putF "pairs" (.ref p) (putF "many" (vI n) []))))) p = some (.lst (M.map fun q => V.ref q.1)) := by
        rw [upd_ne npx]
        exact s4 _ _ hp3
      have tM5 : ∀ q ∈ M, (upd H4 x (.ins (cB K) dx (putF "leads" (.ref D) (putF "pairs" (.ref p) (putF "many" (vI n) []))))) q.1 = some (.tup [vI q.2.1, vI q.2.2]) := fun q hq => by
        have g := s4 _ _ (tM3 q hq)
        rw [upd_ne (ne_of g hx4 (by intro z; cases z))]
        exact g
      have s5 : Same H0 (upd H4 x (.ins (cB K) dx (putF "leads" (.ref D) (putF "pairs" (.ref p) (putF "many" (vI n) []))))) := same_mut (s3.trans s4) x0
      generalize upd H4 x (.ins (cB K) dx (putF "leads" (.ref D) (putF "pairs" (.ref p) (putF "many" (vI n) [])))) = H5 at hx5 LA hp5 tM5 s5
      refine ⟨_, rfl, (n : Int), rfl, by omega, by omega, fun D3 hD3 => ?_⟩
      have D3c : D3 ≠ c := fun z => by
        obtain ⟨ys, hc⟩ := hc
        rw [z, s5 _ _ hc] at hD3
        cases hD3
      refine lc_range (lo := 0) (n := ((n : Nat) : Int).toNat) (fun i H6 => ∃ U : List (Addr × List (Option Nat)), U.length = i ∧ H6 D3 = some (.lst (U.map fun g => V.ref g.1)) ∧ (∀ (a : Nat) (q : Addr × List (Option Nat)), U[a]? = some q → q.1 ≠ D3 ∧ H6 q.1 = some (.lst (q.2.map vO)) ∧ q.1 ≠ c ∧ Fars n (M.map (·.2)) a q.2) ∧ Same H5 H6)
        ⟨[], rfl, upd_same, fun c g e => (by simp at e), same_upd hD3⟩ ?_ ?_
      · rintro i H6 hi ⟨U, lU, hU, eU, s6⟩
        refine ⟨rfl, ?_⟩
        unfold tYes
        refine iteT ?_
        refine ⟨_, rfl, x, _, dx, _, _, rfl, s6 _ _ hx5, T.cl, T.n_leads, rfl, _, rfl, D, i, n, _, G, (by rw [Int.zero_add]; rfl), LA.same s6, on, n8, by omega, fun H7 pp fs hpp hpn7 FF s7 => ?_⟩
        have ppD : pp ≠ D3 := fun z => by
          rw [z, hU] at hpn7
          cases hpn7
        have ppc : pp ≠ c := fun z => by
          obtain ⟨ys, hc⟩ := hc
          rw [z, s6 _ _ (s5 _ _ hc)] at hpn7
          cases hpn7
        refine ⟨_, s7 _ _ hU, ?_, U ++ [(pp, fs)], by simp [lU], ?_, fun a q hq => ?_, same_mut (s6.trans s7) hD3⟩
        · rw [List.length_map]
          exact Nat.lt_of_le_of_lt (show U.length ≤ 8 by omega) (by decide)
        · rw [upd_same, List.map_append]
          rfl
        · rw [List.getElem?_append] at hq
          split at hq
          · obtain ⟨gD, g1, g2, g3⟩ := eU a q hq
            rw [upd_ne gD]
            exact ⟨gD, s7 _ _ g1, g2, g3⟩
          · rename_i ge
            have e0 : a - U.length = 0 := by
              cases h0 : a - U.length with
              | zero => rfl
              | succ k => rw [h0] at hq; simp at hq
            rw [e0] at hq
            have eg : (pp, fs) = q := by simpa using hq
            subst eg
            have ec : a = i := by omega
            subst ec
            rw [upd_ne ppD]
            exact ⟨ppD, hpp, ppc, FF⟩
      · rintro H6 ⟨U, lU, hU, eU, s6⟩
        have hx6 := s6 _ _ hx5
        refine ⟨_, rfl, x, _, dx, _, rfl, hx6, T.cl, T.n_fars, (by show 3 < 1000; decide), ?_⟩
        have off : ∀ a o, H6 a = some o → (∀ d fs, o ≠ .ins (cB K) d fs) → (upd H6 x (.ins (cB K) dx (putF "fars" (.ref D3) (putF "leads" (.ref D) (putF "pairs" (.ref p) (putF "many" (vI n) [])))))) a = some o := fun a o e k => by
          have ne : a ≠ x := fun z => by
            rw [z, hx6] at e
            exact k _ _ (Option.some.inj e).symm
          rw [upd_ne ne]
          exact e
        refine h _ (M.map (·.2)) ⟨⟨dx, p, D, D3, M, _, U, upd_same, ⟨off _ _ (s6 _ _ hp5) (by intro d f z; cases z), npc, fun q hq => off _ _ (s6 _ _ (tM5 q hq)) (by intro d f z; cases z)⟩, rfl,
          off _ _ (s6 _ _ LA.at_) (by intro d f z; cases z), Dc, by rw [List.length_map]; exact LA.len, off _ _ hU (by intro d f z; cases z), D3c, by omega, fun a q hq => ?_⟩, n1, n8, on, nd⟩ mM sM (same_mut (s5.trans s6) x0)
        obtain ⟨_, g1, g2, g3⟩ := eU a q hq
        exact ⟨off _ _ g1 (by intro d f z; cases z), g2, g3⟩
end
end RL
namespace RL
open PySem PySem.Spec PyProof.Rows L2 RLM
section
variable {P : Program} {w : World} {K : PySem.W.Frag} {mg : Str → Option Value} {base : Heap}
def spCheck (K : PySem.W.Frag) : Sp := fun vs H Q _ => ∃ (c x : Addr) (n a : Nat) (E : List (Nat × Nat)), vs = [.ref x, vI a] ∧ BoardAt K c H x n E ∧ a < n ∧ Q .non H
theorem sc_Board_check_place : FnScope ["self", "place"] ["self", "place"] (defScope s_Board_check_place) := ⟨rfl, rfl, rfl, by decide +kernel, rfl, by decide +kernel, by decide +kernel⟩
theorem ok_check (T : Tx K mg) : Has P w K mg base (mB K "check_place") 3 ["self", "place"] (spCheck K) := by
  obtain ⟨⟨fd_is_between, F_is_between, b_is_between⟩, kp_is_between⟩ := ok_is_between (P := P) (w := w) (base := base) T
  obtain ⟨fd, F⟩ := T.d_Board_check_place
  refine ⟨⟨fd, F.ok sc_Board_check_place (fun vs H Q E h => ?_) (fun cdv A outer s H vs Q E hr h => ?_), F.bindsN fun _ _ _ _ _ _ us hl => match us, hl with | [_, _], _ => rfl⟩, F.kp⟩
  · obtain ⟨c, x, n, a, E, rfl, _⟩ := h
    rfl
  · obtain ⟨c, x, n, a, E, rfl, B, an, h⟩ := h
    have hr_is_between : Room 2 _ := hr.mono (by decide)
    refine ⟨_, PSs.nox (pss_one (ps_if (pt_not (pt_val (pe_call F_is_between hr_is_between rfl T.glo_is_between kp_is_between b_is_between .nil pass0 (pa_cons (pv 1) (pa_cons pe_int (pa_cons (pe_op op_sub (fldK (K := K) (pv 0) rfl) pe_int) pa_nil)))))) (pss_one ps_never) pss_nil)), ?_⟩
    obtain ⟨dx, lp, ll, lf, hx⟩ := B.obj
    exact ⟨_, rfl, _, rfl, x, _, dx, _, _, rfl, hx, T.cl, T.n_many, bf_many _ _ _ _, _, _, rfl, rfl, _, _, _, rfl, _, rfl, iteNS ⟨by omega, by omega⟩ h⟩
def spLen (K : PySem.W.Frag) : Sp := fun vs H Q _ => ∃ (c x : Addr) (n : Nat) (E : List (Nat × Nat)), vs = [.ref x] ∧ BoardAt K c H x n E ∧ Q (vI n) H
theorem sc_Board_len : FnScope ["self"] ["self"] (defScope s_Board_len) := ⟨rfl, rfl, rfl, by decide +kernel, rfl, by decide +kernel, by decide +kernel⟩
theorem ok_len (T : Tx K mg) : Has P w K mg base (mB K "__len__") 1 ["self"] (spLen K) := by
  obtain ⟨fd, F⟩ := T.d_Board_len
  refine ⟨⟨fd, F.ok sc_Board_len (fun vs H Q E h => ?_) (fun cdv A outer s H vs Q E hr h => ?_), F.bindsN fun _ _ _ _ _ _ us hl => match us, hl with | [_], _ => rfl⟩, F.kp⟩
  · obtain ⟨c, x, n, E, rfl, _⟩ := h
    rfl
  · obtain ⟨c, x, n, E, rfl, B, h⟩ := h
    refine ⟨_, PSs.nox (pss_one (ps_ret (pe_callB (lenK (K := K)) (by rfl) T.free_len (by decide +kernel) (pa_cons (fldK (K := K) (pv 0) rfl) pa_nil)))), ?_⟩
    obtain ⟨dx, lp, ll, lf, L, ls, F, hx, h2, h3, h4, h5, h6, _⟩ := B.ex
    refine ⟨_, rfl, x, _, dx, _, _, rfl, hx, T.cl, T.n_leads, bf_leads _ _ _ _, ll, _, rfl, .inl (SqL.of h4), ?_⟩
    rw [h6]
    exact h
def spWithin (K : PySem.W.Frag) : Sp := fun vs H Q _ => ∃ (c x : Addr) (n a : Nat) (m : Int) (E : List (Nat × Nat)), vs = [.ref x, vI a, .int m] ∧ BoardAt K c H x n E ∧ a < n ∧ ∀ H' t, H' t = some (.tup ((lotP n (Near E m a)).map vI)) → Same H H' → Q (.ref t) H'
theorem sc_Board_within : FnScope ["self", "place", "most", "other", "far"] ["self", "place", "most"] (defScope s_Board_within) := ⟨rfl, rfl, rfl, by decide +kernel, rfl, by decide +kernel, by decide +kernel⟩
theorem ok_within (T : Tx K mg) : Has P w K mg base (mB K "within") 4 ["self", "place", "most"] (spWithin K) := by
  obtain ⟨⟨fd_check_place, F_check_place, b_check_place⟩, kp_check_place⟩ := ok_check (P := P) (w := w) (base := base) T
  obtain ⟨fd, F⟩ := T.d_Board_within
  refine ⟨⟨fd, F.ok sc_Board_within (fun vs H Q E h => ?_) (fun cdv A outer s H vs Q E hr h => ?_), F.bindsN fun _ _ _ _ _ _ us hl => match us, hl with | [_, _, _], _ => rfl⟩, F.kp⟩
  · obtain ⟨c, x, n, a, m, E, rfl, _⟩ := h
    rfl
  · obtain ⟨c, x, n, a, m, E, rfl, B, an, h⟩ := h
    have hr_check_place : Room 3 _ := hr.mono (by decide)
    refine ⟨_, PSs.nox (pss_cons (ps_expr (pe_meth (pv 0) T.cl T.m_check_place F_check_place hr_check_place b_check_place .nil pass0 (pa_cons (pv 1) pa_nil)))
      (pss_one (ps_ret (pe_callTy (tupK (K := K)) (by rfl) T.free_tuple (by decide +kernel) (pa_cons (pe_lc (own := [("other", 3), ("far", 4)]) rfl sc_Board_within.nd (piEnum (K := K) (by rfl) T.free_enumerate (pa_cons (pe_ix (ixL (K := K)) (fldK (K := K) (pv 0) rfl) (pv 1) (fun _ _ => rfl)) pa_nil)) (blkOk_by (by kernel_rfl)) (fun _ _ _ _ _ => (pgT (K := K) (n := 2) rfl (pgs_cons (pg_name (i := 3) sc_Board_within.nd rfl (Or.inl rfl)) (pgs_cons (pg_name (i := 4) sc_Board_within.nd rfl (Or.inl rfl)) pgs_nil)))) (fun _ _ _ _ _ => (pts_one (PW.pt (pw_and (pt_cmpR op_notN (pv 4) pe_non (nomark _)) (pw_and1 (pt_cmpR op_le (pv 4) (pv 2) (nomark _))))))) (fun _ _ _ _ _ => (pv 3))) pa_nil))))), ?_⟩
    obtain ⟨dx, lp, ll, lf, L, ls, U, hx, h2, h3, h4, h5, h6, hlf, lfc, lU, eU⟩ := B.ex
    refine ⟨_, rfl, x, dx, _, rfl, hx, bf_check _ _ _ _, _, rfl, c, x, n, a, E, rfl, B, an, ?_⟩
    obtain ⟨u, hu⟩ : ∃ u, U[a]? = some u := ⟨_, List.getElem?_eq_getElem (by rw [lU]; exact an)⟩
    obtain ⟨hul, uc, FF⟩ := eU a u hu
    refine ⟨_, rfl, x, _, dx, _, _, rfl, hx, T.cl, T.n_fars, bf_fars _ _ _ _, _, rfl, lf, _, _, _, rfl, rfl, SqL.of hlf, atI_nat (get_map hu), u.1, _, rfl, SqL.of hul, fun D hD => ?_⟩
    refine lc_it (walk_enum (K := K) (a := u.1) (xs := u.2.map vO)) (fun i H1 => ∃ ps : List Nat, H1 D = some (.lst (ps.map vI)) ∧ ps.Pairwise (· < ·) ∧ (∀ b, b ∈ ps ↔ b < i ∧ Near E m a b) ∧ ps.length ≤ i ∧ Same H H1)
      ⟨[], upd_same, List.Pairwise.nil, by simp, Nat.le_refl _, same_upd hD⟩ (fun i H1 _ ⟨_, _, _, _, _, s1⟩ => SqL.of (s1 _ _ hul)) ?_ ?_
    · rintro i y H1 H2 hi ⟨ps, hp, sp, mp, lp, s1⟩ ⟨t, y1, y2, rfl, ht, rfl, e1, e2⟩
      rw [List.length_map] at hi
      cases (Option.some.inj e1)
      have ed : u.2[i]? = some u.2[i] := List.getElem?_eq_getElem hi
      generalize u.2[i] = d at ed
      have ey : y2 = vO d := by
        have e3 : (u.2.map vO)[i]? = some y2 := e2
        rw [List.getElem?_map, ed] at e3
        exact (Option.some.inj e3).symm
      subst ey
      have s2 : Same H1 (upd H1 t (.tup [.int (i : Nat), vO d])) := same_upd ht
      have FN := FF.2 i d ed m
      have i8 : i < 8 := by
        have := B.hi
        rw [← FF.1] at this
        omega
      have hp2 := s2 _ _ hp
      have no : ¬ Near E m a i → ∃ ps : List Nat, (upd H1 t (.tup [.int (i : Nat), vO d])) D = some (.lst (ps.map vI)) ∧ ps.Pairwise (· < ·) ∧ (∀ b, b ∈ ps ↔ b < i + 1 ∧ Near E m a b) ∧ ps.length ≤ i + 1 ∧ Same H (upd H1 t (.tup [.int (i : Nat), vO d])) := fun nn => by
        refine ⟨ps, hp2, sp, fun b => ?_, by omega, s1.trans s2⟩
        rw [mp b]
        constructor
        · rintro ⟨z1, z2⟩
          exact ⟨by omega, z2⟩
        · rintro ⟨z1, z2⟩
          refine ⟨?_, z2⟩
          rcases Nat.lt_or_ge b i with k | k
          · exact k
          · exfalso
            have : b = i := by omega
            rw [this] at z2
            exact nn z2
      refine ⟨t, _, rfl, SqT.of upd_same, rfl, _, _, rfl, _, _, rfl, rfl, rfl, ?_⟩
      refine ⟨_, rfl, rfl, _, rfl, ?_⟩
      cases d with
      | none =>
        refine iteF (iteF ?_)
        refine no fun z => ?_
        obtain ⟨k, hk, _⟩ := FN.2 z
        cases hk
      | some k =>
        refine iteT ?_
        refine ⟨_, rfl, _, rfl, _, _, rfl, rfl, _, rfl, ?_⟩
        refine ite2 (fun z => ?_) (fun z => ?_)
        · have z1 : (k : Int) ≤ m := of_decide_eq_true z
          have nr : Near E m a i := FN.1 ⟨k, rfl, z1⟩
          refine ⟨_, rfl, _, hp2, ?_, ps ++ [i], ?_, ?_, fun b => ?_, ?_, same_mut (s1.trans s2) hD⟩
          · rw [List.length_map]
            exact Nat.lt_of_le_of_lt (show ps.length ≤ 8 by omega) (by decide)
          · rw [upd_same, List.map_append]
            rfl
          · rw [List.pairwise_append]
            refine ⟨sp, by simp, fun b hb b' hb' => ?_⟩
            rw [List.mem_singleton.mp hb']
            exact ((mp b).1 hb).1
          · rw [List.mem_append, mp b, List.mem_singleton]
            constructor
            · rintro (⟨z1, z2⟩ | z1)
              · exact ⟨by omega, z2⟩
              · rw [z1]
                exact ⟨by omega, nr⟩
            · rintro ⟨z1, z2⟩
              rcases Nat.lt_or_ge b i with k | k
              · exact .inl ⟨k, z2⟩
              · exact .inr (by omega)
          · rw [List.length_append]
            simp
            omega
        · refine no fun nr => z (decide_eq_true ?_)
          obtain ⟨k', hk, hk2⟩ := FN.2 nr
          cases hk
          exact hk2
    · rintro H1 ⟨ps, hp, sp, mp, lp, s1⟩
      rw [List.length_map, FF.1] at mp
      refine ⟨D, _, rfl, .inl ⟨SqL.of hp, fun t ht => ?_⟩⟩
      refine h _ t ?_ (s1.trans (same_upd ht))
      rw [upd_same, lotP_of sp mp]
end
end RL
namespace RL
open PySem PySem.Spec PyProof.Rows L2 RLM
/-! few ways -/
def allW : List (Nat × Nat) := (List.range 8).flatMap fun a => (List.range 8).filterMap fun b => if a = b then none else some (a, b)
theorem allW_len : allW.length = 56 := by decide +kernel
theorem mem_allW {e : Nat × Nat} (h1 : e.1 < 8) (h2 : e.2 < 8) (h3 : e.1 ≠ e.2) : e ∈ allW := by
  unfold allW
  rw [List.mem_flatMap]
  refine ⟨e.1, List.mem_range.mpr h1, List.mem_filterMap.mpr ⟨e.2, List.mem_range.mpr h2, ?_⟩⟩
  rw [if_neg h3]
theorem on_few {n : Nat} {E : List (Nat × Nat)} (hn : n ≤ 8) (on : On n E) (nd : E.Nodup) : E.length ≤ 56 := by
  rw [← allW_len]
  refine nd.length_le_of_subset fun e he => ?_
  obtain ⟨h1, h2, h3⟩ := on e he
  exact mem_allW (by omega) (by omega) h3
theorem WaysOk.few {n : Nat} {L : List (Addr × Nat × Nat)} (hn : n ≤ 8) (h : WaysOk n L) : L.length < 63 := by
  have := on_few (E := L.map (·.2)) hn (fun e he => by
    obtain ⟨q, hq, rfl⟩ := List.mem_map.mp he
    exact h.2.1 q hq) h.1
  rw [List.length_map] at this
  omega
section
variable {P : Program} {w : World} {K : PySem.W.Frag} {mg : Str → Option Value} {base : Heap}
/-- Board(n, l) is asked where l has been made -/
theorem init_at {H : Hp} {c l x dx : Addr} {n : Nat} {L : List (Addr × Nat × Nat)} {Q : VK} (hc : ∃ ys, H c = some (.lst ys)) (hl : H l = some (.lst (L.map fun q => V.ref q.1))) (tL : ∀ q ∈ L, H q.1 = some (.tup [vI q.2.1, vI q.2.2])) (W : WaysOk n L) (n1 : 1 ≤ n) (n8 : n ≤ 8)
    (hx : H x = none) (hdx : H dx = none) (ne : dx ≠ x) (h : ∀ (H' : Hp) (E : List (Nat × Nat)), BoardAt K c H' x n E → (∀ e, e ∈ E ↔ e ∈ L.map (·.2)) → E.Pairwise lexLt → Same H H' → Q .non H') :
    spInit K [.ref x, vI n, .ref l] (upd (upd H dx (.own x)) x (.ins (cB K) dx [])) Q E0 := by
  refine ⟨H, x, dx, c, l, n, L, rfl, fun b o e => ?_, hx, upd_same, hc, hl, tL, W, n1, n8, W.few n8, h⟩
  rw [upd_ne (ne_of_none e hx), upd_ne (ne_of_none e hdx)]
  exact e
def spMade (K : PySem.W.Frag) : Sp := fun vs H Q _ => ∃ (c t l : Addr) (n : Nat) (L : List (Addr × Nat × Nat)), vs = [.ref t] ∧ H t = some (.tup [vI n, .ref l]) ∧ PairsAt c H l L ∧ WaysOk n L ∧ 1 ≤ n ∧ n ≤ 8 ∧ (∃ ys, H c = some (.lst ys)) ∧
  ∀ (H' : Hp) (x : Addr) (E : List (Nat × Nat)), BoardAt K c H' x n E → (∀ e, e ∈ E ↔ e ∈ L.map (·.2)) → E.Pairwise lexLt → Same H H' → Q (.ref x) H'
theorem sc__law_made : FnScope ["_law_board_here"] ["_law_board_here"] (defScope s__law_made) := ⟨rfl, rfl, rfl, by decide +kernel, rfl, by decide +kernel, by decide +kernel⟩
theorem ok_made (T : Tx K mg) : Has P w K mg base (He.ga K "_law_made") 6 ["_law_board_here"] (spMade K) := by
  obtain ⟨⟨fd_Board, F_Board, b_Board⟩, kp_Board⟩ := ok_init (P := P) (w := w) (base := base) T
  obtain ⟨fd, F⟩ := T.d__law_made
  refine ⟨⟨fd, F.ok sc__law_made (fun vs H Q E h => ?_) (fun cdv A outer s H vs Q E hr h => ?_), F.bindsN fun _ _ _ _ _ _ us hl => match us, hl with | [_], _ => rfl⟩, F.kp⟩
  · obtain ⟨c, t, l, n, L, rfl, _⟩ := h
    rfl
  · obtain ⟨c, t, l, n, L, rfl, ht, PL, W, n1, n8, hc, h⟩ := h
    have hr_Board : Room 5 _ := hr.mono (by decide)
    refine ⟨_, PSs.nox (pss_one (ps_ret (pe_make T.mkB F_Board hr_Board rfl T.glo_Board b_Board .nil pass0 (pa_cons (pe_ix (ixT (K := K)) (pv 0) pe_int (fun _ _ => rfl)) (pa_cons (pe_callTy (listK (K := K)) (by rfl) T.free_list (by decide +kernel) (pa_cons (pe_ix (ixT (K := K)) (pv 0) pe_int (fun _ _ => rfl)) pa_nil)) pa_nil))))), ?_⟩
    refine ⟨_, rfl, t, _, 0, _, rfl, rfl, SqT.of ht, rfl, _, rfl, t, _, 1, _, rfl, rfl, SqT.of ht, rfl, l, _, rfl, .inl (SqL.of PL.at_), fun l2 hl2 => ?_⟩
    have s1 : Same H (upd H l2 (.lst (L.map fun q => V.ref q.1))) := same_upd hl2
    intro x dx hx hdx ne
    exact init_at (hc.imp fun _ z => s1 _ _ z) upd_same (fun q hq => s1 _ _ (PL.tup q hq)) W n1 n8 hx hdx ne fun H' E B mE sE s2 => ⟨rfl, h H' x E B mE sE (s1.trans s2)⟩
def spTurned (K : PySem.W.Frag) : Sp := fun vs H Q _ => ∃ (c x : Addr) (n : Nat) (E : List (Nat × Nat)), vs = [.ref x] ∧ BoardAt K c H x n E ∧ (∃ ys, H c = some (.lst ys)) ∧
  ∀ (H' : Hp) (y : Addr) (E' : List (Nat × Nat)), BoardAt K c H' y n E' → (∀ a b, (a, b) ∈ E' ↔ (b, a) ∈ E) → E'.Pairwise lexLt → Same H H' → Q (.ref y) H'
theorem nodup_inj {α β : Type} {f : α → β} : ∀ {l : List α}, l.Nodup → (∀ x ∈ l, ∀ y ∈ l, f x = f y → x = y) → (l.map f).Nodup
  | [], _, _ => List.nodup_nil
  | a :: l, h, hf => by
    rw [List.map_cons, List.nodup_cons]
    rw [List.nodup_cons] at h
    refine ⟨fun hm => ?_, nodup_inj h.2 fun x hx y hy => hf x (List.mem_cons_of_mem _ hx) y (List.mem_cons_of_mem _ hy)⟩
    obtain ⟨b, hb, e⟩ := List.mem_map.mp hm
    exact h.1 (hf b (List.mem_cons_of_mem _ hb) a List.mem_cons_self e ▸ hb)
theorem sqt_same {H H' : Hp} {a : Addr} {xs : List V} (s : Same H H') (h : SqT K H a xs) : SqT K H' a xs := by
  rcases h with (h | ⟨o, h⟩) | h
  · exact .inl (.inl (s _ _ h))
  · exact .inl (.inr ⟨o, s _ _ h⟩)
  · exact .inr h
def spRenamed (K : PySem.W.Frag) : Sp := fun vs H Q _ => ∃ (c x t : Addr) (n : Nat) (E : List (Nat × Nat)) (os : List Nat), vs = [.ref x, .ref t] ∧ BoardAt K c H x n E ∧ (∃ ys, H c = some (.lst ys)) ∧ SqT K H t (os.map vI) ∧ os.Perm (List.range n) ∧
  ∀ (H' : Hp) (y : Addr) (E' : List (Nat × Nat)), BoardAt K c H' y n E' → (∀ e, e ∈ E' ↔ ∃ p, p ∈ E ∧ e = (os.getD p.1 0, os.getD p.2 0)) → E'.Pairwise lexLt → Same H H' → Q (.ref y) H'
theorem int_maps : ∀ {xs ys : List Int}, xs.map V.int = ys.map V.int → xs = ys
  | [], [], _ => rfl
  | [], _ :: _, h => by cases h
  | _ :: _, [], h => by cases h
  | x :: xs, y :: ys, h => by
    rw [List.map_cons, List.map_cons] at h
    injection h with h1 h2
    injection h1 with h1
    rw [h1, int_maps h2]
/-- what is sorted of an order of the places -/
theorem sorted_order {n : Nat} {os : List Nat} {ms : List Int} (h : os.Perm (List.range n)) (p : ms.Perm (os.map nI)) (s : ms.Pairwise (· ≤ ·)) : ms = (List.range n).map nI := by
  have pm : ms.Perm ((List.range n).map nI) := p.trans (h.map nI)
  have nd : ms.Nodup := pm.nodup_iff.mpr (nodup_inj List.nodup_range fun x _ y _ e => by
    unfold nI at e
    omega)
  have lt : ms.Pairwise (· < ·) := (s.and nd).imp fun {a b} ⟨z1, z2⟩ => by
    have z2 : a ≠ b := z2
    omega
  have e := rise_lot (n := n) (p := fun _ => True) lt fun k => by
    rw [pm.mem_iff, List.mem_map]
    constructor
    · rintro ⟨b, hb, rfl⟩
      exact ⟨b, rfl, List.mem_range.mp hb, trivial⟩
    · rintro ⟨b, rfl, hb, _⟩
      exact ⟨b, List.mem_range.mpr hb, rfl⟩
  rw [lotP_true, vI_map] at e
  exact int_maps e
theorem os_get {n : Nat} {os : List Nat} (h : os.Perm (List.range n)) {a : Nat} (ha : a < n) : os[a]? = some (os.getD a 0) ∧ os.getD a 0 < n := by
  have hl : a < os.length := by rw [h.length_eq, List.length_range]; exact ha
  have e : os.getD a 0 = os[a] := by rw [List.getD_eq_getElem?_getD, List.getElem?_eq_getElem hl]; rfl
  refine ⟨by rw [e]; exact List.getElem?_eq_getElem hl, ?_⟩
  rw [e]
  exact List.mem_range.mp (h.mem_iff.mp (List.getElem_mem hl))
theorem os_inj {n : Nat} {os : List Nat} (h : os.Perm (List.range n)) {a b : Nat} (ha : a < n) (hb : b < n) (e : os.getD a 0 = os.getD b 0) : a = b := by
  have nd : os.Nodup := h.nodup_iff.mpr List.nodup_range
  have h1 := (os_get h ha).1
  have h2 := (os_get h hb).1
  rw [e, ← h2] at h1
  have hl : a < os.length := by rw [h.length_eq, List.length_range]; exact ha
  exact (List.getElem?_inj hl nd).mp h1
end
end RL
namespace RL
open PySem PySem.Spec PyProof.Rows L2 RLM
section
variable {P : Program} {w : World} {K : PySem.W.Frag} {mg : Str → Option Value} {base : Heap}
theorem all_true {bs : List Bool} (h : ∀ b ∈ bs, b = true) : bs.all id = true := List.all_eq_true.mpr h
def spIsLot (K : PySem.W.Frag) : Sp := fun vs H Q _ => ∃ (c x t : Addr) (n : Nat) (E : List (Nat × Nat)) (p : Nat → Prop), vs = [.ref x, .ref t] ∧ BoardAt K c H x n E ∧ H t = some (.tup ((lotP n p).map vI)) ∧ ∀ H', Same H H' → Q (.bl true) H'
theorem sc_is_lot : FnScope ["board", "lot", "place"] ["board", "lot"] (defScope s_is_lot) := ⟨rfl, rfl, rfl, by decide +kernel, rfl, by decide +kernel, by decide +kernel⟩
theorem ok_is_lot (T : Tx K mg) : Has P w K mg base (He.ga K "is_lot") 3 ["board", "lot"] (spIsLot K) := by
  obtain ⟨⟨fd_is_between, F_is_between, b_is_between⟩, kp_is_between⟩ := ok_is_between (P := P) (w := w) (base := base) T
  obtain ⟨⟨fd_len, F_len, b_len⟩, kp_len⟩ := ok_len (P := P) (w := w) (base := base) T
  obtain ⟨fd, F⟩ := T.d_is_lot
  refine ⟨⟨fd, F.ok sc_is_lot (fun vs H Q E h => ?_) (fun cdv A outer s H vs Q E hr h => ?_), F.bindsN fun _ _ _ _ _ _ us hl => match us, hl with | [_, _], _ => rfl⟩, F.kp⟩
  · obtain ⟨c, x, t, n, E, p, rfl, _⟩ := h
    rfl
  · obtain ⟨c, x, t, n, E, p, rfl, B, ht, h⟩ := h
    have hr_is_between : Room 2 _ := hr.mono (by decide)
    have hr_len : Room 2 _ := hr.mono (by decide)
    refine ⟨_, PSs.nox (pss_cons (ps_if (pt_not (pt_val (pe_callB (isiK (K := K)) (by rfl) T.free_isinstance (by decide +kernel) (pa_cons (pv 1) (pa_cons (pe_bltn (v := .ty "tuple") (u := .type "tuple") (by rfl) T.free_tuple (by decide +kernel) rfl) pa_nil))))) (pss_one (ps_ret pe_bl)) pss_nil)
      (pss_cons (ps_if (pt_not (pt_val (pe_callB (allK (K := K)) (by rfl) T.free_all (by decide +kernel) (pa_cons (pe_lc (own := [("place", 2)]) (g := (gName 2)) (tt := tYes) rfl sc_is_lot.nd (piT (K := K) (pv 1)) (blkOk_by (by kernel_rfl)) (fun _ _ _ _ _ => (pg_name (i := 2) sc_is_lot.nd rfl (Or.inl rfl))) (fun _ _ _ _ _ => pts_nil) (fun _ _ _ _ _ => (pe_call F_is_between hr_is_between rfl T.glo_is_between kp_is_between b_is_between .nil pass0 (pa_cons (pv 2) (pa_cons pe_int (pa_cons (pe_op op_sub (pe_callB (call_lenOwn T.m_len F_len b_len hr_len) (by rfl) T.free_len (by decide +kernel) (pa_cons (pv 0) pa_nil)) pe_int) pa_nil)))))) pa_nil)))) (pss_one (ps_ret pe_bl)) pss_nil)
      (pss_one (ps_ret (pe_cmpR (eqD (K := K) hr.units) (pe_callTy (listK (K := K)) (by rfl) T.free_list (by decide +kernel) (pa_cons (pv 1) pa_nil)) (pe_callB (sortS (w := w)) (by rfl) T.free_sorted (by decide +kernel) (pa_cons (pe_callTy (setTK (K := K) (w := w)) (by rfl) T.free_set (by decide +kernel) (pa_cons (pv 1) pa_nil)) pa_nil)) (nomark _)))))), ?_⟩
    have n8 := B.hi
    have lp := lotP_len n p
    refine ⟨_, rfl, _, _, _, _, true, rfl, .ty _, .base (.tup ht), kit_ty (by decide +kernel), true, rfl, iteF ?_⟩
    refine ⟨_, rfl, t, rfl, ⟨_, SqT.of ht⟩, fun D hD => ?_⟩
    refine lc_tup (K := K) (a := t) (xs := (lotP n p).map vI) (fun i H1 => ∃ bs : List Bool, H1 D = some (.lst (bs.map V.bl)) ∧ (∀ b ∈ bs, b = true) ∧ bs.length = i ∧ Same H H1)
      ⟨[], upd_same, by simp, rfl, same_upd hD⟩ (fun i H1 _ ⟨_, _, _, _, s1⟩ => SqT.of (s1 _ _ ht)) ?_ ?_
    · rintro i y H1 hy ⟨bs, hb, tb, lb, s1⟩
      obtain ⟨q, hq, rfl⟩ : ∃ q, (lotP n p)[i]? = some q ∧ vI q = y := by
        rw [List.getElem?_map] at hy
        cases e : (lotP n p)[i]? with
        | none => rw [e] at hy; cases hy
        | some q => rw [e] at hy; exact ⟨q, rfl, Option.some.inj hy⟩
      have qn := (mem_lotP.mp (List.mem_of_getElem? hq)).1
      have il : i < (lotP n p).length := (List.getElem?_eq_some_iff.mp hq).1
      have B1 := B.same s1
      obtain ⟨dx, q1, q2, q3, hx⟩ := B1.obj
      refine ⟨rfl, ?_⟩
      unfold tYes
      refine iteT ?_
      refine ⟨_, rfl, _, rfl, x, dx, _, rfl, hx, c, x, n, E, rfl, B1, (n : Int), rfl, by omega, by omega, _, _, rfl, rfl, _, _, _, rfl, ?_⟩
      rw [decide_eq_true (show (0 : Int) ≤ (q : Nat) ∧ ((q : Nat) : Int) ≤ (n : Int) - 1 from ⟨by omega, by omega⟩)]
      refine ⟨_, hb, ?_, bs ++ [true], ?_, ?_, by simp [lb], same_mut s1 hD⟩
      · rw [List.length_map]
        exact Nat.lt_of_le_of_lt (show bs.length ≤ 8 by omega) (by decide)
      · rw [upd_same, List.map_append]
        rfl
      · intro b hb2
        rcases List.mem_append.mp hb2 with z | z
        · exact tb b z
        · rw [List.mem_singleton.mp z]
    · rintro H1 ⟨bs, hb, tb, lb, s1⟩
      refine ⟨D, bs, rfl, SqL.of hb, _, rfl, ?_⟩
      rw [all_true tb]
      refine iteF ?_
      refine ⟨_, rfl, t, _, rfl, .inr (SqT.of (s1 _ _ ht)), fun l1 hl1 => ?_⟩
      have s2 := same_upd (o := HO.lst ((lotP n p).map vI)) hl1
      have ht2 := s2 _ _ (s1 _ _ ht)
      refine ⟨_, rfl, t, (lotP n p).map nI, rfl, SqT.of (by rw [← vI_map]; exact ht2), by rw [List.length_map]; omega, fun d cc hd hcc => ?_⟩
      refine ⟨d, _, cc, rfl, upd_same, ?_, fun ns l2 h1 h2 h3 hl2 => ?_⟩
      · rw [List.length_map] at hcc
        omega
      have s3 := same_upd (o := SetO w d (fun j => decide (j ∈ (lotP n p).map nI)) cc) hd
      have s4 := same_upd (o := HO.lst (ns.map V.int)) hl2
      have en : ns.map V.int = (lotP n p).map vI := rise_lot h1 fun k => (h2 k).trans (decide_eq_true_iff.trans (by
        rw [List.mem_map]
        constructor
        · rintro ⟨b, hb, rfl⟩
          exact ⟨b, rfl, mem_lotP.mp hb⟩
        · rintro ⟨b, rfl, hb⟩
          exact ⟨b, mem_lotP.mpr hb, rfl⟩))
      refine ⟨.list (ns.map .int), .list (ns.map .int), .lst (SqL.of (s4 _ _ (s3 _ _ (by rw [upd_same, ← en])))) (dp_ints ns), .lst (SqL.of upd_same) (dp_ints ns), shaped_ints ns, shaped_ints ns, ?_⟩
      rw [SeqAt.eqv_refl _ (SeqAt.canLay_of_shaped (shaped_ints ns))]
      exact h _ (((s1.trans s2).trans s3).trans s4)
def spChkLot (K : PySem.W.Frag) : Sp := fun vs H Q _ => ∃ (c x t : Addr) (n : Nat) (E : List (Nat × Nat)) (p : Nat → Prop), vs = [.ref x, .ref t] ∧ BoardAt K c H x n E ∧ H t = some (.tup ((lotP n p).map vI)) ∧ ∀ H', Same H H' → Q .non H'
theorem sc_check_lot : FnScope ["board", "lot"] ["board", "lot"] (defScope s_check_lot) := ⟨rfl, rfl, rfl, by decide +kernel, rfl, by decide +kernel, by decide +kernel⟩
theorem ok_chk_lot (T : Tx K mg) : Has P w K mg base (He.ga K "check_lot") 4 ["board", "lot"] (spChkLot K) := by
  obtain ⟨⟨fd_is_lot, F_is_lot, b_is_lot⟩, kp_is_lot⟩ := ok_is_lot (P := P) (w := w) (base := base) T
  obtain ⟨fd, F⟩ := T.d_check_lot
  refine ⟨⟨fd, F.ok sc_check_lot (fun vs H Q E h => ?_) (fun cdv A outer s H vs Q E hr h => ?_), F.bindsN fun _ _ _ _ _ _ us hl => match us, hl with | [_, _], _ => rfl⟩, F.kp⟩
  · obtain ⟨c, x, t, n, E, p, rfl, _⟩ := h
    rfl
  · obtain ⟨c, x, t, n, E, p, rfl, B, ht, h⟩ := h
    have hr_is_lot : Room 3 _ := hr.mono (by decide)
    refine ⟨_, PSs.nox (pss_one (ps_if (pt_not (pt_val (pe_call F_is_lot hr_is_lot rfl T.glo_is_lot kp_is_lot b_is_lot .nil pass0 (pa_cons (pv 0) (pa_cons (pv 1) pa_nil))))) (pss_one ps_never) pss_nil)), ?_⟩
    exact ⟨_, rfl, _, rfl, c, x, t, n, E, p, rfl, B, ht, fun H1 s1 => ⟨_, rfl, iteF (h H1 s1)⟩⟩
/-- a pace -/
def PaceOk (n : Nat) (ps : List Nat) : Prop := ps.length = n ∧ ∀ q ∈ ps, q ≤ 7
def spIsPace (K : PySem.W.Frag) : Sp := fun vs H Q _ => ∃ (c x t : Addr) (n : Nat) (E : List (Nat × Nat)) (ps : List Nat), vs = [.ref x, .ref t] ∧ BoardAt K c H x n E ∧ H t = some (.tup (ps.map vI)) ∧ PaceOk n ps ∧ ∀ H', Same H H' → Q (.bl true) H'
theorem sc_is_pace : FnScope ["board", "pace", "number"] ["board", "pace"] (defScope s_is_pace) := ⟨rfl, rfl, rfl, by decide +kernel, rfl, by decide +kernel, by decide +kernel⟩
theorem ok_is_pace (T : Tx K mg) : Has P w K mg base (He.ga K "is_pace") 3 ["board", "pace"] (spIsPace K) := by
  obtain ⟨⟨fd_is_between, F_is_between, b_is_between⟩, kp_is_between⟩ := ok_is_between (P := P) (w := w) (base := base) T
  obtain ⟨⟨fd_len, F_len, b_len⟩, kp_len⟩ := ok_len (P := P) (w := w) (base := base) T
  obtain ⟨fd, F⟩ := T.d_is_pace
  refine ⟨⟨fd, F.ok sc_is_pace (fun vs H Q E h => ?_) (fun cdv A outer s H vs Q E hr h => ?_), F.bindsN fun _ _ _ _ _ _ us hl => match us, hl with | [_, _], _ => rfl⟩, F.kp⟩
  · obtain ⟨c, x, t, n, E, ps, rfl, _⟩ := h
    rfl
  · obtain ⟨c, x, t, n, E, ps, rfl, B, ht, PO, h⟩ := h
    have hr_is_between : Room 2 _ := hr.mono (by decide)
    have hr_len : Room 2 _ := hr.mono (by decide)
    refine ⟨_, PSs.nox (pss_cons (ps_if (PW.pt (pw_or (pt_not (pt_val (pe_callB (isiK (K := K)) (by rfl) T.free_isinstance (by decide +kernel) (pa_cons (pv 1) (pa_cons (pe_bltn (v := .ty "tuple") (u := .type "tuple") (by rfl) T.free_tuple (by decide +kernel) rfl) pa_nil))))) (pw_or1 (pt_cmpR op_ne (pe_callB (lenK (K := K)) (by rfl) T.free_len (by decide +kernel) (pa_cons (pv 1) pa_nil)) (pe_callB (call_lenOwn T.m_len F_len b_len hr_len) (by rfl) T.free_len (by decide +kernel) (pa_cons (pv 0) pa_nil)) (nomark _))))) (pss_one (ps_ret pe_bl)) pss_nil)
      (pss_one (ps_ret (pe_callB (allK (K := K)) (by rfl) T.free_all (by decide +kernel) (pa_cons (pe_lc (own := [("number", 2)]) (g := (gName 2)) (tt := tYes) rfl sc_is_pace.nd (piT (K := K) (pv 1)) (blkOk_by (by kernel_rfl)) (fun _ _ _ _ _ => (pg_name (i := 2) sc_is_pace.nd rfl (Or.inl rfl))) (fun _ _ _ _ _ => pts_nil) (fun _ _ _ _ _ => (pe_call F_is_between hr_is_between rfl T.glo_is_between kp_is_between b_is_between .nil pass0 (pa_cons (pv 2) (pa_cons pe_int (pa_cons (pe_glob (v := .int 7) rfl T.glob_MOST_PACE.choose_spec ⟨_, rfl⟩) pa_nil)))))) pa_nil))))), ?_⟩
    have n8 := B.hi
    obtain ⟨dx, q1, q2, q3, hx⟩ := B.obj
    refine ⟨_, rfl, _, _, _, _, true, rfl, .ty _, .base (.tup ht), kit_ty (by decide +kernel), true, rfl, iteF ?_⟩
    refine ⟨_, rfl, t, _, rfl, .inr (SqT.of ht), _, rfl, x, dx, _, rfl, hx, c, x, n, E, rfl, B, (n : Int), rfl, by omega, by omega, rfl, _, rfl, ?_⟩
    have e1 : (!decide (V.int (((ps.map vI).length : Nat) : Int) = V.int (n : Int))) = false := by
      rw [List.length_map, PO.1]
      simp
    rw [e1]
    refine iteF ?_
    refine ⟨_, rfl, t, rfl, ⟨_, SqT.of ht⟩, fun D hD => ?_⟩
    refine lc_tup (K := K) (a := t) (xs := ps.map vI) (fun i H1 => ∃ bs : List Bool, H1 D = some (.lst (bs.map V.bl)) ∧ (∀ b ∈ bs, b = true) ∧ bs.length = i ∧ Same H H1)
      ⟨[], upd_same, by simp, rfl, same_upd hD⟩ (fun i H1 _ ⟨_, _, _, _, s1⟩ => SqT.of (s1 _ _ ht)) ?_ ?_
    · rintro i y H1 hy ⟨bs, hb, tb, lb, s1⟩
      obtain ⟨q, hq, rfl⟩ : ∃ q, ps[i]? = some q ∧ vI q = y := by
        rw [List.getElem?_map] at hy
        cases e : ps[i]? with
        | none => rw [e] at hy; cases hy
        | some q => rw [e] at hy; exact ⟨q, rfl, Option.some.inj hy⟩
      have q7 := PO.2 q (List.mem_of_getElem? hq)
      have il : i < ps.length := (List.getElem?_eq_some_iff.mp hq).1
      have l8 := PO.1
      refine ⟨rfl, ?_⟩
      unfold tYes
      refine iteT ?_
      refine ⟨_, rfl, _, _, _, rfl, ?_⟩
      rw [decide_eq_true (show (0 : Int) ≤ (q : Nat) ∧ ((q : Nat) : Int) ≤ 7 from ⟨by omega, by omega⟩)]
      refine ⟨_, hb, ?_, bs ++ [true], ?_, ?_, by simp [lb], same_mut s1 hD⟩
      · rw [List.length_map]
        exact Nat.lt_of_le_of_lt (show bs.length ≤ 8 by omega) (by decide)
      · rw [upd_same, List.map_append]
        rfl
      · intro b hb2
        rcases List.mem_append.mp hb2 with z | z
        · exact tb b z
        · rw [List.mem_singleton.mp z]
    · rintro H1 ⟨bs, hb, tb, lb, s1⟩
      refine ⟨D, bs, rfl, SqL.of hb, ?_⟩
      rw [all_true tb]
      exact h H1 s1
def spChkPace (K : PySem.W.Frag) : Sp := fun vs H Q _ => ∃ (c x t : Addr) (n : Nat) (E : List (Nat × Nat)) (ps : List Nat), vs = [.ref x, .ref t] ∧ BoardAt K c H x n E ∧ H t = some (.tup (ps.map vI)) ∧ PaceOk n ps ∧ ∀ H', Same H H' → Q .non H'
theorem sc_check_pace : FnScope ["board", "pace"] ["board", "pace"] (defScope s_check_pace) := ⟨rfl, rfl, rfl, by decide +kernel, rfl, by decide +kernel, by decide +kernel⟩
theorem ok_chk_pace (T : Tx K mg) : Has P w K mg base (He.ga K "check_pace") 4 ["board", "pace"] (spChkPace K) := by
  obtain ⟨⟨fd_is_pace, F_is_pace, b_is_pace⟩, kp_is_pace⟩ := ok_is_pace (P := P) (w := w) (base := base) T
  obtain ⟨fd, F⟩ := T.d_check_pace
  refine ⟨⟨fd, F.ok sc_check_pace (fun vs H Q E h => ?_) (fun cdv A outer s H vs Q E hr h => ?_), F.bindsN fun _ _ _ _ _ _ us hl => match us, hl with | [_, _], _ => rfl⟩, F.kp⟩
  · obtain ⟨c, x, t, n, E, p, rfl, _⟩ := h
    rfl
  · obtain ⟨c, x, t, n, E, ps, rfl, B, ht, PO, h⟩ := h
    have hr_is_pace : Room 3 _ := hr.mono (by decide)
    refine ⟨_, PSs.nox (pss_one (ps_if (pt_not (pt_val (pe_call F_is_pace hr_is_pace rfl T.glo_is_pace kp_is_pace b_is_pace .nil pass0 (pa_cons (pv 0) (pa_cons (pv 1) pa_nil))))) (pss_one ps_never) pss_nil)), ?_⟩
    exact ⟨_, rfl, _, rfl, c, x, t, n, E, ps, rfl, B, ht, PO, fun H1 s1 => ⟨_, rfl, iteF (h H1 s1)⟩⟩
end
end RL
namespace RL
open PySem PySem.Spec PyProof.Rows L2 RLM
theorem in_lot (b : Nat) (xs : List Nat) : inV (vI b) (xs.map vI) = decide (b ∈ xs) := by
  unfold inV
  rw [List.any_map]
  have e : ((fun y => eqV y (vI b)) ∘ vI) = fun q : Nat => decide (q = b) := by
    funext q
    show ((q : Int) == (b : Int)) = decide (q = b)
    by_cases h : q = b
    · subst h
      simp
    · have h2 : ¬ ((q : Int) = (b : Int)) := by omega
      rw [decide_eq_false h]
      exact beq_eq_false_iff_ne.mpr h2
  rw [e]
  by_cases h : b ∈ xs
  · rw [decide_eq_true h]
    exact List.any_eq_true.mpr ⟨b, h, by simp⟩
  · rw [decide_eq_false h]
    refine Bool.eq_false_iff.mpr fun z => ?_
    obtain ⟨q, hq, e⟩ := List.any_eq_true.mp z
    exact h (of_decide_eq_true e ▸ hq)
theorem flat_vI (xs : List Nat) : (xs.map vI).all flatV = true := by
  rw [List.all_map]
  exact List.all_eq_true.mpr fun _ _ => rfl
theorem count_more {p q : Nat → Bool} : ∀ (xs : List Nat) {b : Nat}, b ∈ xs → (∀ x, p x = true → q x = true) → p b = false → q b = true → xs.countP p + 1 ≤ xs.countP q
  | x :: xs, b, hb, hpq, h0, h1 => by
    have mono : ∀ ys : List Nat, ys.countP p ≤ ys.countP q := fun ys => List.countP_mono_left fun x _ hx => hpq x hx
    rw [List.countP_cons, List.countP_cons]
    rcases List.mem_cons.mp hb with e | e
    · subst e
      rw [h0, h1]
      have := mono xs
      simp
      omega
    · have ih := count_more xs e hpq h0 h1
      have : (if p x = true then 1 else 0) ≤ (if q x = true then 1 else 0) := by
        by_cases hx : p x = true
        · rw [if_pos hx, if_pos (hpq x hx)]
          exact Nat.le_refl _
        · rw [if_neg hx]
          exact Nat.zero_le _
      omega
section
variable {P : Program} {w : World} {K : PySem.W.Frag} {mg : Str → Option Value} {base : Heap}
/-- where a step leads from a lot -/
def stepP (n : Nat) (E : List (Nat × Nat)) (ps : List Nat) (p : Nat → Prop) (b : Nat) : Prop := ∃ a, a < n ∧ p a ∧ Near E ((ps.getD a 0 : Nat) : Int) a b
def spStep (K : PySem.W.Frag) : Sp := fun vs H Q _ => ∃ (c x tp tl : Addr) (n : Nat) (E : List (Nat × Nat)) (ps : List Nat) (p : Nat → Prop), vs = [.ref x, .ref tp, .ref tl] ∧ BoardAt K c H x n E ∧ H tp = some (.tup (ps.map vI)) ∧ PaceOk n ps ∧ H tl = some (.tup ((lotP n p).map vI)) ∧
  ∀ H' t, H' t = some (.tup ((lotP n (stepP n E ps p)).map vI)) → Same H H' → Q (.ref t) H'
/-- the set so far -/
def SetIs (w : World) (n : Nat) (D : Addr) (H : Hp) (r : Nat → Prop) : Prop := ∃ (S : Int → Bool) (cnt : Nat), H D = some (SetO w D S cnt) ∧ cnt ≤ (List.range 8).countP (fun b => S (nI b)) ∧ ∀ k : Int, S k = true ↔ ∃ b : Nat, k = nI b ∧ b < n ∧ r b
theorem pace_get {n : Nat} {ps : List Nat} (h : PaceOk n ps) {a : Nat} (ha : a < n) : ps[a]? = some (ps.getD a 0) := by
  have hl : a < ps.length := by rw [h.1]; exact ha
  rw [List.getD_eq_getElem?_getD, List.getElem?_eq_getElem hl]
  rfl
def beforeP (n : Nat) (E : List (Nat × Nat)) (ps : List Nat) (p : Nat → Prop) (a : Nat) : Prop := ∃ b, b < n ∧ p b ∧ Near E ((ps.getD a 0 : Nat) : Int) a b
def spBefore (K : PySem.W.Frag) : Sp := fun vs H Q _ => ∃ (c x tp tl : Addr) (n : Nat) (E : List (Nat × Nat)) (ps : List Nat) (p : Nat → Prop), vs = [.ref x, .ref tp, .ref tl] ∧ BoardAt K c H x n E ∧ H tp = some (.tup (ps.map vI)) ∧ PaceOk n ps ∧ H tl = some (.tup ((lotP n p).map vI)) ∧
  ∀ H' t, H' t = some (.tup ((lotP n (beforeP n E ps p)).map vI)) → Same H H' → Q (.ref t) H'
end
end RL
namespace RL
open PySem PySem.Spec PyProof.Rows L2 RLM
section
variable {P : Program} {w : World} {K : PySem.W.Frag} {mg : Str → Option Value} {base : Heap}
theorem sc_step : FnScope ["board", "pace", "lot", "place", "end"] ["board", "pace", "lot"] (defScope s_step) := ⟨rfl, rfl, rfl, by decide +kernel, rfl, by decide +kernel, by decide +kernel⟩
theorem ok_step (T : Tx K mg) : Has P w K mg base (He.ga K "step") 5 ["board", "pace", "lot"] (spStep K) := by
  obtain ⟨⟨fd_check_pace, F_check_pace, b_check_pace⟩, kp_check_pace⟩ := ok_chk_pace (P := P) (w := w) (base := base) T
  obtain ⟨⟨fd_check_lot, F_check_lot, b_check_lot⟩, kp_check_lot⟩ := ok_chk_lot (P := P) (w := w) (base := base) T
  obtain ⟨⟨fd_within, F_within, b_within⟩, kp_within⟩ := ok_within (P := P) (w := w) (base := base) T
  obtain ⟨fd, F⟩ := T.d_step
  refine ⟨⟨fd, F.ok sc_step (fun vs H Q E h => ?_) (fun cdv A outer s H vs Q E hr h => ?_), F.bindsN fun _ _ _ _ _ _ us hl => match us, hl with | [_, _, _], _ => rfl⟩, F.kp⟩
  · obtain ⟨c, x, tp, tl, n, E, ps, p, rfl, _⟩ := h
    rfl
  · obtain ⟨c, x, tp, tl, n, E, ps, p, rfl, B0, htp0, PO, htl0, h⟩ := h
    have hr_check_pace : Room 4 _ := hr.mono (by decide)
    have hr_check_lot : Room 4 _ := hr.mono (by decide)
    have hr_within : Room 4 _ := hr.mono (by decide)
    refine ⟨_, PSs.nox (pss_cons (ps_expr (pe_call F_check_pace hr_check_pace rfl T.glo_check_pace kp_check_pace b_check_pace .nil pass0 (pa_cons (pv 0) (pa_cons (pv 1) pa_nil))))
      (pss_cons (ps_expr (pe_call F_check_lot hr_check_lot rfl T.glo_check_lot kp_check_lot b_check_lot .nil pass0 (pa_cons (pv 0) (pa_cons (pv 2) pa_nil))))
      (pss_one (ps_ret (pe_callTy (tupK (K := K)) (by rfl) T.free_tuple (by decide +kernel) (pa_cons (pe_callB (sortS (w := w)) (by rfl) T.free_sorted (by decide +kernel) (pa_cons (pe_sc2 (own := [("place", 3), ("end", 4)]) (vs1 := [4]) rfl sc_step.nd (piT (K := K) (pv 2)) (blkOk_by (by kernel_rfl)) (by decide) (fun _ _ _ _ _ => (pg_name (i := 3) sc_step.nd rfl (Or.inl rfl))) (fun _ _ _ _ _ => pts_nil) (fun _ _ _ _ _ => (piT (K := K) (pe_meth (pv 0) T.cl T.m_within F_within hr_within b_within .nil pass0 (pa_cons (pv 3) (pa_cons (pe_ix (ixT (K := K)) (pv 1) (pv 3) (fun _ _ => rfl)) pa_nil))))) (fun _ _ _ _ _ => (pg_name (i := 4) sc_step.nd rfl (Or.inl rfl))) (fun _ _ _ _ _ => pts_nil) (fun _ _ _ _ _ => (pv 4))) pa_nil)) pa_nil)))))), ?_⟩
    refine ⟨_, rfl, _, rfl, c, x, tp, n, E, ps, rfl, B0, htp0, PO, fun H1 s1 => ?_⟩
    refine ⟨_, rfl, _, rfl, c, x, tl, n, E, p, rfl, B0.same s1, s1 _ _ htl0, fun H2 s2 => ?_⟩
    have s12 := s1.trans s2
    have B := B0.same s12
    have htp := s12 _ _ htp0
    have htl := s12 _ _ htl0
    have n8 := B.hi
    refine ⟨_, rfl, tl, rfl, ⟨_, SqT.of htl⟩, fun D hD => ?_⟩
    let oldP : Nat → Nat → Prop := fun i b => ∃ a, a ∈ (lotP n p).take i ∧ Near E ((ps.getD a 0 : Nat) : Int) a b
    refine ⟨fun i m H3 => m = (lotP n p).length - i ∧ i ≤ (lotP n p).length ∧ SetIs w n D H3 (oldP i) ∧ Same H2 H3, ⟨_, rfl, Nat.zero_le _, ⟨fun _ => false, 0, upd_same, Nat.zero_le _, fun k => ?_⟩, same_upd hD⟩, ?_⟩
    · refine ⟨fun z => (by cases z), ?_⟩
      rintro ⟨b, _, _, a, ha, _⟩
      simp at ha
    rintro i m H3 ⟨rfl, il, SI, s3⟩
    by_cases lt : i < (lotP n p).length
    · have ea : (lotP n p)[i]? = some (lotP n p)[i] := List.getElem?_eq_getElem lt
      generalize (lotP n p)[i] = a at ea
      have ma := mem_lotP.mp (List.mem_of_getElem? ea)
      have et : (lotP n p).take (i + 1) = (lotP n p).take i ++ [a] := by
        rw [List.take_add_one, ea]
        rfl
      refine .inr ⟨⟨_, vI a, SqT.of (s3 _ _ htl), get_map ea⟩, fun H4 => SetIs w n D H4 (oldP (i + 1)) ∧ Same H2 H4, fun H4 ⟨q1, q2⟩ => ⟨_, by omega, rfl, lt, q1, q2⟩, fun y H4 hy => ?_⟩
      obtain ⟨e4, hy⟩ := hy
      subst e4
      have ey : y = vI a := by
        have := hy _ (SqT.of (s3 _ _ htl))
        rw [get_map ea] at this
        exact (Option.some.inj this).symm
      subst ey
      refine ⟨rfl, ?_⟩
      unfold tYes
      refine iteT ?_
      have B3 := B.same s3
      obtain ⟨dx, q1, q2, q3, hx⟩ := B3.obj
      refine ⟨_, rfl, x, dx, _, rfl, hx, bf_within _ _ _ _, _, rfl, _, rfl, _, rfl, tp, _, _, _, rfl, rfl, SqT.of (s3 _ _ htp), atI_nat (get_map (pace_get PO ma.1)), c, x, n, a, _, E, rfl, B3, ma.1, fun H5 t ht s5 => ?_⟩
      obtain ⟨W, eW⟩ : ∃ W, W = lotP n (Near E ((ps.getD a 0 : Nat) : Int) a) := ⟨_, rfl⟩
      rw [← eW] at ht
      refine ⟨t, rfl, ⟨_, SqT.of ht⟩, fun j m H6 => m = W.length - j ∧ j ≤ W.length ∧ SetIs w n D H6 (fun b => oldP i b ∨ b ∈ W.take j) ∧ H6 t = some (.tup (W.map vI)) ∧ Same H2 H6, ⟨_, rfl, Nat.zero_le _, ?_, ht, s3.trans s5⟩, ?_⟩
      · obtain ⟨S, cnt, hS, hc, mS⟩ := SI
        refine ⟨S, cnt, s5 _ _ hS, hc, fun k => (mS k).trans (exists_congr fun b => and_congr_right fun _ => and_congr_right fun _ => ?_)⟩
        simp
      rintro j m H6 ⟨rfl, jl, ⟨S, cnt, hS, hc, mS⟩, ht6, s6⟩
      by_cases lt2 : j < W.length
      · have eb : W[j]? = some W[j] := List.getElem?_eq_getElem lt2
        generalize W[j] = b at eb
        have mb : b < n := by
          have := List.mem_of_getElem? eb
          rw [eW] at this
          exact (mem_lotP.mp this).1
        have et2 : W.take (j + 1) = W.take j ++ [b] := by
          rw [List.take_add_one, eb]
          rfl
        refine .inr ⟨⟨_, vI b, SqT.of ht6, get_map eb⟩, fun H7 => SetIs w n D H7 (fun b => oldP i b ∨ b ∈ W.take (j + 1)) ∧ H7 t = some (.tup (W.map vI)) ∧ Same H2 H7, fun H7 ⟨q1, q2, q3⟩ => ⟨_, by omega, rfl, lt2, q1, q2, q3⟩, fun y H7 hy => ?_⟩
        obtain ⟨e7, hy⟩ := hy
        subst e7
        have ey : y = vI b := by
          have := hy _ (SqT.of ht6)
          rw [get_map eb] at this
          exact (Option.some.inj this).symm
        subst ey
        refine ⟨rfl, ?_⟩
        refine iteT ?_
        have c8 : cnt ≤ 8 := Nat.le_trans hc (Nat.le_trans List.countP_le_length (by rw [List.length_range]; exact Nat.le_refl _))
        have tD : t ≠ D := ne_of ht6 hS (by intro z; cases z)
        refine ⟨_, rfl, nI b, S, cnt, rfl, hS, Nat.lt_of_le_of_lt (show cnt + 1 ≤ 9 by omega) (by decide), ⟨_, _, upd_same, ?_, fun k => ?_⟩, by rw [upd_ne tD]; exact ht6, same_mut s6 hD⟩
        · by_cases sb : S (nI b) = true
          · rw [if_pos sb]
            exact Nat.le_trans hc (List.countP_mono_left fun z _ hz => by rw [hz]; rfl)
          · rw [if_neg sb]
            have sb' : S (nI b) = false := by simpa using sb
            refine Nat.le_trans (Nat.succ_le_succ hc) (count_more (List.range 8) (b := b) (List.mem_range.mpr (by omega)) (fun z hz => by rw [hz]; rfl) sb' (by simp))
        · rw [Bool.or_eq_true, mS k, decide_eq_true_iff, et2]
          constructor
          · rintro (⟨b', e, h1, h2⟩ | e)
            · refine ⟨b', e, h1, h2.imp id fun z => List.mem_append_left _ z⟩
            · exact ⟨b, e, mb, .inr (by simp)⟩
          · rintro ⟨b', e, h1, h2 | h2⟩
            · exact .inl ⟨b', e, h1, .inl h2⟩
            · rcases List.mem_append.mp h2 with z | z
              · exact .inl ⟨b', e, h1, .inr z⟩
              · rw [List.mem_singleton.mp z] at e
                exact .inr e
      · have e : j = W.length := by omega
        subst e
        refine .inl ⟨⟨_, SqT.of ht6, by rw [List.length_map]; exact Nat.le_refl _⟩, ⟨S, cnt, hS, hc, fun k => (mS k).trans (exists_congr fun b => and_congr_right fun _ => and_congr_right fun hb => ?_)⟩, s6⟩
        show (oldP i b ∨ b ∈ W.take W.length) ↔ ∃ a', a' ∈ (lotP n p).take (i + 1) ∧ _
        rw [List.take_length, eW, mem_lotP, et]
        constructor
        · rintro (⟨a', z1, z2⟩ | ⟨_, z⟩)
          · exact ⟨a', List.mem_append_left _ z1, z2⟩
          · exact ⟨a, by simp, z⟩
        · rintro ⟨a', z1, z2⟩
          rcases List.mem_append.mp z1 with z | z
          · exact .inl ⟨a', z, z2⟩
          · rw [List.mem_singleton.mp z] at z2
            exact .inr ⟨hb, z2⟩
    · have e : i = (lotP n p).length := by omega
      subst e
      refine .inl ⟨⟨_, SqT.of (s3 _ _ htl), by rw [List.length_map]; exact Nat.le_refl _⟩, ?_⟩
      obtain ⟨S, cnt, hS, hc, mS⟩ := SI
      have c8 : cnt ≤ 8 := Nat.le_trans hc (Nat.le_trans List.countP_le_length (by rw [List.length_range]; exact Nat.le_refl _))
      refine ⟨D, S, cnt, rfl, hS, by omega, fun ns l h1 h2 h3 hl => ?_⟩
      refine ⟨l, _, rfl, .inl ⟨SqL.of upd_same, fun t ht => ?_⟩⟩
      refine h _ t ?_ (((s12.trans s3).trans (same_upd hl)).trans (same_upd ht))
      rw [upd_same, rise_lot (n := n) (p := stepP n E ps p) h1 fun k => (h2 k).trans ((mS k).trans (exists_congr fun b => and_congr_right fun _ => and_congr_right fun _ => ?_))]
      show (∃ a, a ∈ (lotP n p).take (lotP n p).length ∧ _) ↔ _
      rw [List.take_length]
      exact exists_congr fun a => by rw [mem_lotP, and_assoc]
end
end RL
/-! Spans by closing over middle places: plain mathematics. -/
namespace RLM
/-- a walk whose inner places are below m -/
inductive Wm (E : List (Nat × Nat)) (m : Nat) : Nat → Nat → Nat → Prop where
  | z (a : Nat) : Wm E m 0 a a
  | o {a b : Nat} : (a, b) ∈ E → Wm E m 1 a b
  | s {k a b c : Nat} : Wm E m k a b → b < m → (b, c) ∈ E → Wm E m (k + 1) a c
theorem Wm.split {E : List (Nat × Nat)} {m k a b : Nat} (w : Wm E (m + 1) k a b) : Wm E m k a b ∨ ∃ k1 k2, k1 + k2 ≤ k ∧ Wm E m k1 a m ∧ Wm E m k2 m b := by
  induction w with
  | z a => exact .inl (.z a)
  | o e => exact .inl (.o e)
  | @s k a b c w hb e ih =>
    rcases ih with w' | ⟨k1, k2, hk, w1, w2⟩
    · by_cases h : b < m
      · exact .inl (.s w' h e)
      · have : b = m := by omega
        subst this
        exact .inr ⟨k, 1, Nat.le_refl _, w', .o e⟩
    · by_cases h : b < m
      · exact .inr ⟨k1, k2 + 1, by omega, w1, .s w2 h e⟩
      · have : b = m := by omega
        subst this
        exact .inr ⟨k1, 1, by omega, w1, .o e⟩
theorem Wk.wm {n : Nat} {E : List (Nat × Nat)} (h : On n E) {k a b : Nat} (w : Wk E k a b) (ha : a < n) : Wm E n k a b := by
  induction w with
  | z a => exact .z a
  | s w e ih => exact .s (ih ha) (w.lt h ha) e
theorem Wk.app {E : List (Nat × Nat)} {k a b : Nat} (w : Wk E k a b) {l c : Nat} (v : Wk E l b c) : Wk E (k + l) a c := by
  induction v with
  | z _ => exact w
  | s v e ih => exact .s (ih w) e
/-- no entry says too little -/
structure Sound (n : Nat) (E : List (Nat × Nat)) (M : Nat → Nat → Nat) : Prop where
  hi : ∀ a b, a < n → b < n → M a b ≤ 99
  wk : ∀ a b, a < n → b < n → M a b < 99 → Wk E (M a b) a b
/-- no entry says too much -/
def Full (n : Nat) (E : List (Nat × Nat)) (m : Nat) (M : Nat → Nat → Nat) : Prop := ∀ k a b, a < n → b < n → Wm E m k a b → M a b ≤ k
/-- a table with one entry put -/
def put (M : Nat → Nat → Nat) (a b v : Nat) : Nat → Nat → Nat := fun x y => if x = a ∧ y = b then v else M x y
theorem put_at (M : Nat → Nat → Nat) (a b v : Nat) : put M a b v a b = v := if_pos ⟨rfl, rfl⟩
theorem put_ne (M : Nat → Nat → Nat) {a b v x y : Nat} (h : ¬ (x = a ∧ y = b)) : put M a b v x y = M x y := if_neg h
/-- within the pass of the middle m: the pairs that are done -/
structure Pass (n : Nat) (E : List (Nat × Nat)) (m : Nat) (M0 : Nat → Nat → Nat) (done : Nat → Nat → Prop) (M : Nat → Nat → Nat) : Prop where
  sn : Sound n E M
  le : ∀ a b, a < n → b < n → M a b ≤ M0 a b
  dn : ∀ a b, a < n → b < n → done a b → M a b ≤ M0 a m + M0 m b
theorem Pass.start {n m : Nat} {E : List (Nat × Nat)} {M : Nat → Nat → Nat} (s : Sound n E M) : Pass n E m M (fun _ _ => False) M :=
  ⟨s, fun _ _ _ _ => Nat.le_refl _, fun _ _ _ _ h => h.elim⟩
theorem Pass.weak {n m : Nat} {E : List (Nat × Nat)} {M0 M : Nat → Nat → Nat} {d d' : Nat → Nat → Prop} (p : Pass n E m M0 d M) (h : ∀ a b, a < n → b < n → d' a b → d a b) : Pass n E m M0 d' M :=
  ⟨p.sn, p.le, fun a b ha hb x => p.dn a b ha hb (h a b ha hb x)⟩
theorem Pass.one {n m : Nat} {E : List (Nat × Nat)} {M0 M : Nat → Nat → Nat} {d : Nat → Nat → Prop} (p : Pass n E m M0 d M) {a b : Nat} (ha : a < n) (hb : b < n) (hm : m < n) :
    Pass n E m M0 (fun x y => d x y ∨ (x = a ∧ y = b)) (put M a b (min (min (M a b) (M a m + M m b)) 99)) := by
  have lo : min (min (M a b) (M a m + M m b)) 99 ≤ M a b := by omega
  refine ⟨⟨fun x y hx hy => ?_, fun x y hx hy h => ?_⟩, fun x y hx hy => ?_, fun x y hx hy h => ?_⟩
  · by_cases e : x = a ∧ y = b
    · obtain ⟨rfl, rfl⟩ := e
      rw [put_at]; omega
    · rw [put_ne _ e]; exact p.sn.hi x y hx hy
  · by_cases e : x = a ∧ y = b
    · obtain ⟨rfl, rfl⟩ := e
      rw [put_at] at h ⊢
      by_cases c : M x y ≤ M x m + M m y
      · have e : min (min (M x y) (M x m + M m y)) 99 = M x y := by
          have := p.sn.hi x y hx hy
          omega
        rw [e] at h ⊢
        exact p.sn.wk x y hx hy h
      · have e : min (min (M x y) (M x m + M m y)) 99 = M x m + M m y := by omega
        rw [e] at h ⊢
        exact (p.sn.wk x m hx hm (by omega)).app (p.sn.wk m y hm hy (by omega))
    · rw [put_ne _ e] at h ⊢
      exact p.sn.wk x y hx hy h
  · by_cases e : x = a ∧ y = b
    · obtain ⟨rfl, rfl⟩ := e
      rw [put_at]
      exact Nat.le_trans lo (p.le x y hx hy)
    · rw [put_ne _ e]; exact p.le x y hx hy
  · by_cases e : x = a ∧ y = b
    · obtain ⟨rfl, rfl⟩ := e
      rw [put_at]
      have := p.le x m hx hm
      have := p.le m y hm hy
      omega
    · rw [put_ne _ e]
      rcases h with h | h
      · exact p.dn x y hx hy h
      · exact absurd h e
theorem Pass.full {n m : Nat} {E : List (Nat × Nat)} {M0 M : Nat → Nat → Nat} {d : Nat → Nat → Prop} (p : Pass n E m M0 d M) (h : ∀ a b, a < n → b < n → d a b) (f : Full n E m M0) (hm : m < n) : Full n E (m + 1) M := by
  intro k a b ha hb w
  rcases w.split with w | ⟨k1, k2, hk, w1, w2⟩
  · exact Nat.le_trans (p.le a b ha hb) (f k a b ha hb w)
  · have := p.dn a b ha hb (h a b ha hb)
    have := f _ _ _ ha hm w1
    have := f _ _ _ hm hb w2
    omega
/-- how far places are, 99 and above for never -/
structure Spans (n : Nat) (E : List (Nat × Nat)) (M : Nat → Nat → Nat) : Prop where
  hi : ∀ a b, a < n → b < n → M a b ≤ 99
  nr : ∀ (a b : Nat) (m : Int), a < n → b < n → m < 99 → ((M a b : Int) ≤ m ↔ Near E m a b)
theorem Spans.of {n : Nat} {E : List (Nat × Nat)} {M : Nat → Nat → Nat} (h : On n E) (s : Sound n E M) (f : Full n E n M) : Spans n E M := by
  refine ⟨s.hi, fun a b m ha hb hm => ⟨fun l => ?_, fun ⟨k, hk, w⟩ => ?_⟩⟩
  · exact ⟨M a b, l, s.wk a b ha hb (by omega)⟩
  · have := f k a b ha hb (w.wm h ha)
    omega
/-- before the first pass: the ways that are put so far -/
def first (W : List (Nat × Nat)) : Nat → Nat → Nat := fun a b => if (a, b) ∈ W then 1 else if a = b then 0 else 99
theorem first_nil (a b : Nat) : first [] a b = 99 * (if a ≠ b then 1 else 0) := by
  unfold first
  by_cases h : a = b <;> simp [h]
theorem first_put {W : List (Nat × Nat)} {a b : Nat} : put (first W) a b 1 = first (W ++ [(a, b)]) := by
  funext x y
  by_cases e : x = a ∧ y = b
  · obtain ⟨rfl, rfl⟩ := e
    rw [put_at]
    unfold first
    rw [if_pos (by simp)]
  · rw [put_ne _ e]
    unfold first
    by_cases h : (x, y) ∈ W
    · rw [if_pos h, if_pos (List.mem_append_left _ h)]
    · have g : (x, y) ∉ W ++ [(a, b)] := fun z => by
        rcases List.mem_append.mp z with z | z
        · exact h z
        · exact e (by simpa using z)
      rw [if_neg h, if_neg g]
theorem first_sound {n : Nat} {E : List (Nat × Nat)} (h : On n E) : Sound n E (first E) := by
  refine ⟨fun a b _ _ => ?_, fun a b _ _ l => ?_⟩
  · unfold first
    split
    · omega
    · split <;> omega
  · unfold first at l ⊢
    by_cases e : (a, b) ∈ E
    · rw [if_pos e] at l ⊢
      exact .s (.z a) e
    · rw [if_neg e] at l ⊢
      by_cases c : a = b
      · rw [if_pos c]
        subst c
        exact .z a
      · rw [if_neg c] at l
        omega
theorem first_full {n : Nat} {E : List (Nat × Nat)} (h : On n E) : Full n E 0 (first E) := by
  intro k a b _ _ w
  cases w with
  | z => 
    unfold first
    rw [if_neg fun z => (h _ z).2.2 rfl, if_pos rfl]
    omega
  | o e =>
    unfold first
    rw [if_pos e]
    omega
  | s w hb e => omega
end RLM
namespace RL
open PySem PySem.Spec PyProof.Rows L2 RLM
theorem yesT {σ : L2.St} {H : Hp} {A B : Hp → Prop} (h : A H) : tYes σ H (fun b H3 => if b = true then A H3 else B H3) := by
  unfold tYes
  exact iteT h
theorem nuMin2_int (i j : Int) : nuMin2 (.int i) (.int j) = some (.int (min i j)) := by
  have e : nuMin2 (.int i) (.int j) = some (if decide (j < i) = true then V.int j else V.int i) := rfl
  rw [e]
  by_cases h : j < i
  · rw [if_pos (decide_eq_true h), Int.min_eq_right (by omega)]
  · rw [if_neg (by simpa using h), Int.min_eq_left (by omega)]
theorem nuMin3_int (i j k : Int) : nuMin3 (.int i) (.int j) (.int k) = some (.int (min (min i j) k)) := by
  unfold nuMin3
  rw [nuMin2_int]
  exact nuMin2_int _ _
theorem cmul99 (b : Bool) : CMul 99 (if b = true then 1 else 0) := by
  exact .inl ⟨by decide, by decide⟩
theorem at0 {xs : List V} {j : Nat} {x : V} (h : xs[j]? = some x) : atI xs (0 + (j : Int)) = some x := by
  rw [Int.zero_add]
  exact atI_nat h
theorem ix0 {n j : Nat} (h : j < n) : ixN n (0 + (j : Int)) = some j := by
  rw [Int.zero_add]
  exact ixN_nat h
/-- a table of numbers: a list of lists -/
structure TabAt (c : Addr) (H : Hp) (D : Addr) (n : Nat) (rs : List Addr) (M : Nat → Nat → Nat) : Prop where
  at_ : H D = some (.lst (rs.map V.ref))
  len : rs.length = n
  nd : rs.Nodup
  nD : D ∉ rs
  nc : D ≠ c ∧ c ∉ rs
  row : ∀ (i : Nat) (r : Addr), rs[i]? = some r → H r = some (.lst ((List.range n).map fun j => vI (M i j)))
theorem TabAt.same {c : Addr} {H H' : Hp} {D : Addr} {n : Nat} {rs : List Addr} {M : Nat → Nat → Nat} (s : Same H H') (h : TabAt c H D n rs M) : TabAt c H' D n rs M :=
  ⟨s _ _ h.at_, h.len, h.nd, h.nD, h.nc, fun i r e => s _ _ (h.row i r e)⟩
theorem TabAt.keep {c : Addr} {H H' : Hp} {D : Addr} {n : Nat} {rs : List Addr} {M : Nat → Nat → Nat} (k : Kc c H H') (h : TabAt c H D n rs M) : TabAt c H' D n rs M :=
  ⟨k _ _ h.nc.1 (fun _ z => by cases z) h.at_, h.len, h.nd, h.nD, h.nc, fun i r e => k _ _ (fun z => h.nc.2 (z ▸ List.mem_of_getElem? e)) (fun _ z => by cases z) (h.row i r e)⟩
theorem TabAt.get {c : Addr} {H : Hp} {D : Addr} {n : Nat} {rs : List Addr} {M : Nat → Nat → Nat} (h : TabAt c H D n rs M) {a : Nat} (ha : a < n) : ∃ r, rs[a]? = some r ∧ H r = some (.lst ((List.range n).map fun j => vI (M a j))) := by
  have e : a < rs.length := by rw [h.len]; exact ha
  exact ⟨rs[a], List.getElem?_eq_getElem e, h.row a _ (List.getElem?_eq_getElem e)⟩
theorem row_get {n b : Nat} {f : Nat → V} (h : b < n) : ((List.range n).map f)[b]? = some (f b) := by
  rw [List.getElem?_map, List.getElem?_range h]
  rfl
theorem TabAt.put {c : Addr} {H : Hp} {D : Addr} {n : Nat} {rs : List Addr} {M : Nat → Nat → Nat} (h : TabAt c H D n rs M) {a b v : Nat} {r : Addr} (hr : rs[a]? = some r) :
    TabAt c (upd H r (.lst (((List.range n).map fun j => vI (M a j)).set b (vI v)))) D n rs (RLM.put M a b v) := by
  have mr : r ∈ rs := List.mem_of_getElem? hr
  refine ⟨?_, h.len, h.nd, h.nD, h.nc, fun i r' e => ?_⟩
  · rw [upd_ne (fun z => h.nD (by rw [z]; exact mr))]
    exact h.at_
  · by_cases ei : i = a
    · subst ei
      rw [hr] at e
      cases e
      rw [upd_same]
      congr 2
      apply List.ext_getElem
      · simp
      · intro j h1 h2
        have hj : j < n := by simpa using h2
        rw [List.getElem_set]
        simp only [List.getElem_map, List.getElem_range]
        by_cases eb : b = j
        · subst eb
          rw [if_pos rfl, put_at]
        · rw [if_neg eb, put_ne _ (fun z => eb z.2.symm)]
    · have ne : r' ≠ r := fun z => by
        subst z
        obtain ⟨h1, e1⟩ := List.getElem?_eq_some_iff.mp e
        obtain ⟨h2, e2⟩ := List.getElem?_eq_some_iff.mp hr
        exact ei ((List.getElem_inj h.nd).mp (e1.trans e2.symm))
      rw [upd_ne ne, h.row i r' e]
      congr 2
      refine List.map_congr_left fun j _ => ?_
      rw [put_ne _ (fun z => ei z.1)]
section
variable {P : Program} {w : World} {K : PySem.W.Frag} {mg : Str → Option Value} {base : Heap}
def spSpans : Sp := fun vs H Q _ => ∃ (c t l : Addr) (n : Nat) (L : List (Addr × Nat × Nat)), vs = [.ref t] ∧ H t = some (.tup [vI n, .ref l]) ∧ PairsAt c H l L ∧ WaysOk n L ∧ 1 ≤ n ∧ n ≤ 8 ∧ (∃ ys, H c = some (.lst ys)) ∧
  ∀ (H' : Hp) (D : Addr) (rs : List Addr) (M : Nat → Nat → Nat), TabAt c H' D n rs M → Spans n (L.map (·.2)) M → Same H H' → Q (.ref D) H'
theorem sc__law_spans : FnScope ["_law_board_here", "_law_many", "_law_ways_here", "_law_spans_here", "_law_one", "_law_other", "_law_middle"] ["_law_board_here"] (defScope s__law_spans) := ⟨rfl, rfl, rfl, by decide +kernel, rfl, by decide +kernel, by decide +kernel⟩
theorem ok_spans (T : Tx K mg) : Has P w K mg base (He.ga K "_law_spans") 1 ["_law_board_here"] spSpans := by
  obtain ⟨fd, F⟩ := T.d__law_spans
  refine ⟨⟨fd, F.ok sc__law_spans (fun vs H Q E h => ?_) (fun cdv A outer s H vs Q E hr h => ?_), F.bindsN fun _ _ _ _ _ _ us hl => match us, hl with | [_], _ => rfl⟩, F.kp⟩
  · obtain ⟨c, t, l, n, L, rfl, _⟩ := h
    rfl
  · obtain ⟨c, t, l, n, L, rfl, ht, PL, WO, n1, n8, ⟨ys, hc⟩, h⟩ := h
    have hE : On n (L.map (·.2)) := fun p hp => by
      obtain ⟨q, hq, rfl⟩ := List.mem_map.mp hp
      exact WO.2.1 q hq
    refine ⟨_, PSs.nox (pss_cons (ps_asg (pv 0) (pgT (K := K) (n := 2) rfl (pgs_cons (pg_name (i := 1) sc__law_spans.nd rfl (Or.inr rfl)) (pgs_cons (pg_name (i := 2) sc__law_spans.nd rfl (Or.inl rfl)) pgs_nil))))
      (pss_cons (ps_setLc (i := 3) (own := [("_law_one", 4)]) (g := (gName 4)) (tt := tYes) rfl sc__law_spans.nd rfl rfl (sw_true rfl rfl rfl (by decide +kernel)) (pi_range1 (by rfl) T.free_range (pa_cons (pv 1) pa_nil)) (blkOk_by (by kernel_rfl)) (fun _ _ _ _ _ => (pg_name (i := 4) sc__law_spans.nd rfl (Or.inr rfl))) (fun _ _ _ _ _ => pts_nil) (fun _ _ _ _ _ => (pe_lc (own := [("_law_other", 5)]) (g := (gName 5)) (tt := tYes) rfl sc__law_spans.nd (pi_range1 (by rfl) T.free_range (pa_cons (pv 1) pa_nil)) (blkOk_by (by kernel_rfl)) (fun _ _ _ _ _ => (pg_name (i := 5) sc__law_spans.nd rfl (Or.inl rfl))) (fun _ _ _ _ _ => pts_nil) (fun _ _ _ _ _ => (pe_op op_mul pe_int (pe_callTy call_int1 (by rfl) T.free_int (by decide +kernel) (pa_cons (pe_cmpR op_ne (pv 4) (pv 5) (nomark _)) pa_nil)))))))
      (pss_cons (ps_for PassesOwn.never rfl (piL (K := K) (pv 2)) (pgT (K := K) (n := 2) rfl (pgs_cons (pg_name (i := 4) sc__law_spans.nd rfl (Or.inl rfl)) (pgs_cons (pg_name (i := 5) sc__law_spans.nd rfl (Or.inl rfl)) pgs_nil))) (pss_one (ps_asg pe_int (pg_sub (pe_ix (ixL (K := K)) (pv 3) (pv 4) (fun _ _ => rfl)) (pv 5) set_list))))
      (pss_cons (ps_for PassesOwn.never rfl (pi_range1 (by rfl) T.free_range (pa_cons (pv 1) pa_nil)) (pg_name (i := 6) sc__law_spans.nd rfl (Or.inl rfl)) (pss_one (ps_for PassesOwn.never rfl (pi_range1 (by rfl) T.free_range (pa_cons (pv 1) pa_nil)) (pg_name (i := 4) sc__law_spans.nd rfl (Or.inl rfl)) (pss_one (ps_for PassesOwn.never rfl (pi_range1 (by rfl) T.free_range (pa_cons (pv 1) pa_nil)) (pg_name (i := 5) sc__law_spans.nd rfl (Or.inl rfl)) (pss_one (ps_asg (pe_callB (call_min3Nu rfl) (by rfl) T.free_min (by decide +kernel) (pa_cons (pe_ix (ixL (K := K)) (pe_ix (ixL (K := K)) (pv 3) (pv 4) (fun _ _ => rfl)) (pv 5) (fun _ _ => rfl)) (pa_cons (pe_op op_add (pe_ix (ixL (K := K)) (pe_ix (ixL (K := K)) (pv 3) (pv 4) (fun _ _ => rfl)) (pv 6) (fun _ _ => rfl)) (pe_ix (ixL (K := K)) (pe_ix (ixL (K := K)) (pv 3) (pv 6) (fun _ _ => rfl)) (pv 5) (fun _ _ => rfl))) (pa_cons pe_int pa_nil)))) (pg_sub (pe_ix (ixL (K := K)) (pv 3) (pv 4) (fun _ _ => rfl)) (pv 5) set_list))))))))
      (pss_one (ps_ret (pv 3))))))), ?_⟩
    refine ⟨_, rfl, t, _, rfl, SqT.of ht, rfl, _, _, rfl, _, _, rfl, rfl, ?_⟩
    refine ⟨_, rfl, (n : Int), rfl, by omega, by omega, fun D hD => ?_⟩
    have Dc : D ≠ c := fun z => by rw [z, hc] at hD; cases hD
    refine lc_range (lo := 0) (n := ((n : Nat) : Int).toNat) (fun i H1 => ∃ rs : List Addr, H1 D = some (.lst (rs.map V.ref)) ∧ rs.length = i ∧ rs.Nodup ∧ (∀ r ∈ rs, H r = none) ∧ D ∉ rs ∧ (∀ (k : Nat) (r : Addr), rs[k]? = some r → H1 r = some (.lst ((List.range n).map fun j => vI (first [] k j)))) ∧ Same H H1)
      ⟨[], upd_same, rfl, List.nodup_nil, by simp, by simp, fun k r e => (by simp at e), same_upd hD⟩ ?_ ?_
    · rintro i H1 hi ⟨rs, hrs, lrs, ndr, Hr, nD, row, s1⟩
      have hin : i < n := by omega
      refine ⟨rfl, yesT ?_⟩
      refine ⟨_, rfl, (n : Int), rfl, by omega, by omega, fun D2 hD2 => ?_⟩
      have D2D : D ≠ D2 := fun z => by rw [← z, hrs] at hD2; cases hD2
      refine lc_range (lo := 0) (n := ((n : Nat) : Int).toNat) (fun j H2 => H2 D2 = some (.lst ((List.range j).map fun j => vI (first [] i j))) ∧ Same H1 H2)
        ⟨upd_same, same_upd hD2⟩ ?_ ?_
      · rintro j H2 hj ⟨h2, s2⟩
        refine ⟨rfl, yesT ?_⟩
        refine ⟨_, rfl, _, rfl, ?_⟩
        refine ⟨rfl, .inr ⟨_, rfl, _, _, rfl, rfl, ?_, ?_⟩⟩
        · exact cmul99 _
        refine ⟨_, h2, ?_, ?_, same_mut s2 hD2⟩
        · rw [List.length_map, List.length_range]
          exact Nat.lt_of_le_of_lt (show j ≤ 8 by omega) (by decide)
        · rw [upd_same, List.range_succ, List.map_append]
          congr 3
          show [V.int (99 * _)] = [vI (first [] i j)]
          rw [first_nil]
          have zi : (0 : Int) + (i : Int) = (i : Nat) := Int.zero_add _
          have zj : (0 : Int) + (j : Int) = (j : Nat) := Int.zero_add _
          rw [zi, zj]
          by_cases e : i = j
          · subst e
            simp [vI]
          · have : ¬ ((i : Int) = (j : Int)) := by omega
            simp [e, this, vI]
      · rintro H2 ⟨h2, s2⟩
        rw [Int.toNat_natCast] at h2
        have Hd2 : H D2 = none := s1.free hD2
        have rD2 : D2 ∉ rs := fun z => by
          obtain ⟨k, hk, e⟩ := List.getElem_of_mem z
          have := row k D2 (by rw [List.getElem?_eq_getElem hk, e])
          rw [this] at hD2
          cases hD2
        refine ⟨_, s2 _ _ hrs, ?_, rs ++ [D2], ?_, by simp [lrs], ?_, ?_, ?_, ?_, same_mut (s1.trans s2) hD⟩
        · rw [List.length_map]
          exact Nat.lt_of_le_of_lt (show rs.length ≤ 8 by omega) (by decide)
        · rw [upd_same, List.map_append]
          rfl
        · rw [List.nodup_append]
          refine ⟨ndr, by simp, fun x hx y hy z => ?_⟩
          rw [z, List.mem_singleton.mp hy] at hx
          exact rD2 hx
        · intro r hr
          rcases List.mem_append.mp hr with hr | hr
          · exact Hr r hr
          · rw [List.mem_singleton.mp hr]
            exact Hd2
        · intro z
          rcases List.mem_append.mp z with z | z
          · exact nD z
          · exact D2D (List.mem_singleton.mp z)
        · intro k r e
          by_cases hk : k < rs.length
          · rw [List.getElem?_append_left hk] at e
            have mr : r ∈ rs := List.mem_of_getElem? e
            rw [upd_ne (fun z : r = D => nD (z ▸ mr))]
            exact s2 _ _ (row k r e)
          · rw [List.getElem?_append_right (by omega)] at e
            have ek : k = rs.length := by
              obtain ⟨h1, _⟩ := List.getElem?_eq_some_iff.mp e
              simp at h1
              omega
            rw [ek, Nat.sub_self] at e
            cases e
            rw [upd_ne (Ne.symm D2D), h2, ek, lrs]
    · rintro H1 ⟨rs, hrs, lrs, ndr, Hr, nD, row, s1⟩
      rw [Int.toNat_natCast] at lrs
      have cr : c ∉ rs := fun z => by
        have := Hr c z
        rw [hc] at this
        cases this
      have T1 : TabAt c H1 D n rs (first []) := ⟨hrs, lrs, ndr, nD, ⟨Dc, cr⟩, row⟩
      refine ⟨_, rfl, l, rfl, ⟨_, SqL.of (s1 _ _ PL.at_)⟩, for_list (K := K) (a := l) (xs := L.map fun q => V.ref q.1) (fun i σ H2 => ∃ (v4 v5 : Option V), σ = [some (.ref t), some (vI n), some (.ref l), some (.ref D), v4, v5, none] ∧ TabAt c H2 D n rs (first ((L.take i).map (·.2))) ∧ Same H H2)
        ⟨none, none, rfl, T1, s1⟩ (fun i σ H2 _ ⟨_, _, _, _, s2⟩ => SqL.of (s2 _ _ PL.at_)) ?_ ?_⟩
      · rintro i x σ H2 hx ⟨v4, v5, rfl, T2, s2⟩
        rw [List.getElem?_map] at hx
        obtain ⟨q, hq, rfl⟩ : ∃ q, L[i]? = some q ∧ V.ref q.1 = x := by
          cases e : L[i]? with
          | none => rw [e] at hx; cases hx
          | some q => rw [e] at hx; exact ⟨q, rfl, Option.some.inj hx⟩
        have mq := List.mem_of_getElem? hq
        have et : L.take (i + 1) = L.take i ++ [q] := by
          rw [List.take_add_one, hq]
          rfl
        obtain ⟨a1, b1, _⟩ := WO.2.1 q mq
        obtain ⟨r, hr1, hr2⟩ := T2.get a1
        refine ⟨q.1, _, rfl, SqT.of (s2 _ _ (PL.tup q mq)), rfl, _, _, rfl, _, _, rfl, rfl, ?_⟩
        refine ⟨_, rfl, _, rfl, D, _, _, _, rfl, rfl, SqL.of T2.at_, atI_nat (get_map hr1), ?_⟩
        refine ⟨_, rfl, r, _, _, q.2.2, rfl, rfl, hr2, ixN_nat (by simp [b1]), ?_⟩
        refine ⟨_, _, rfl, ?_, same_mut s2 (Hr r (List.mem_of_getElem? hr1))⟩
        rw [et, List.map_append, List.map_singleton, ← first_put]
        exact T2.put hr1
      · rintro σ H2 ⟨v4, v5, rfl, T2, s2⟩
        rw [List.length_map, List.take_length] at T2
        refine ⟨_, rfl, (n : Int), rfl, by omega, by omega, for_range (lo := 0) (n := ((n : Nat) : Int).toNat) (fun m σ H3 => ∃ (M : Nat → Nat → Nat) (v4 v5 v6 : Option V), σ = [some (.ref t), some (vI n), some (.ref l), some (.ref D), v4, v5, v6] ∧ TabAt c H3 D n rs M ∧ Sound n (L.map (·.2)) M ∧ Full n (L.map (·.2)) m M ∧ Same H H3)
          ⟨_, v4, v5, none, rfl, T2, first_sound hE, first_full hE, s2⟩ ?_ ?_⟩
        · rintro m σ H3 hm ⟨M0, v4, v5, v6, rfl, T3, S3, F3, s3⟩
          have hmn : m < n := by omega
          refine ⟨_, rfl, (n : Int), rfl, by omega, by omega, for_range (lo := 0) (n := ((n : Nat) : Int).toNat) (fun a σ H4 => ∃ (M : Nat → Nat → Nat) (v4 v5 : Option V), σ = [some (.ref t), some (vI n), some (.ref l), some (.ref D), v4, v5, some (.int (0 + (m : Int)))] ∧ TabAt c H4 D n rs M ∧ Pass n (L.map (·.2)) m M0 (fun x _ => x < a) M ∧ Same H H4)
            ⟨M0, v4, v5, rfl, T3, (Pass.start S3).weak (fun x y _ _ z => absurd z (Nat.not_lt_zero _)), s3⟩ ?_ ?_⟩
          · rintro a σ H4 ha ⟨M1, v4, v5, rfl, T4, P4, s4⟩
            have han : a < n := by omega
            refine ⟨_, rfl, (n : Int), rfl, by omega, by omega, for_range (lo := 0) (n := ((n : Nat) : Int).toNat) (fun b σ H5 => ∃ (M : Nat → Nat → Nat) (v5 : Option V), σ = [some (.ref t), some (vI n), some (.ref l), some (.ref D), some (.int (0 + (a : Int))), v5, some (.int (0 + (m : Int)))] ∧ TabAt c H5 D n rs M ∧ Pass n (L.map (·.2)) m M0 (fun x y => x < a ∨ (x = a ∧ y < b)) M ∧ Same H H5)
              ⟨M1, v5, rfl, T4, P4.weak (fun x y _ _ z => z.elim id fun z => absurd z.2 (Nat.not_lt_zero _)), s4⟩ ?_ ?_⟩
            · rintro b σ H5 hb ⟨M, v5, rfl, T5, P5, s5⟩
              have hbn : b < n := by omega
              obtain ⟨ra, ha1, ha2⟩ := T5.get han
              obtain ⟨rm, hm1, hm2⟩ := T5.get hmn
              refine ⟨_, rfl, _, rfl, D, _, _, _, rfl, rfl, SqL.of T5.at_, at0 (get_map ha1), _, rfl, ra, _, _, _, rfl, rfl, SqL.of ha2, at0 (row_get hbn), ?_⟩
              refine ⟨_, rfl, _, rfl, D, _, _, _, rfl, rfl, SqL.of T5.at_, at0 (get_map ha1), _, rfl, ra, _, _, _, rfl, rfl, SqL.of ha2, at0 (row_get hmn), ?_⟩
              refine ⟨_, rfl, _, rfl, D, _, _, _, rfl, rfl, SqL.of T5.at_, at0 (get_map hm1), _, rfl, rm, _, _, _, rfl, rfl, SqL.of hm2, at0 (row_get hbn), ?_⟩
              refine ⟨_, _, rfl, rfl, ?_⟩
              refine ⟨_, _, _, _, rfl, nuMin3_int _ _ _, ?_⟩
              refine ⟨_, rfl, _, rfl, D, _, _, _, rfl, rfl, SqL.of T5.at_, at0 (get_map ha1), ?_⟩
              refine ⟨_, rfl, ra, _, _, b, rfl, rfl, ha2, ix0 (by simp [hbn]), ?_⟩
              refine ⟨RLM.put M a b (min (min (M a b) (M a m + M m b)) 99), _, rfl, ?_, ?_, same_mut s5 (Hr ra (List.mem_of_getElem? ha1))⟩
              · have ev : V.int (min (min ((M a b : Nat) : Int) ((M a m : Nat) + (M m b : Nat))) 99) = vI (min (min (M a b) (M a m + M m b)) 99) := by
                  unfold vI
                  congr 1
                  omega
                rw [ev]
                exact T5.put ha1
              · refine (P5.one han hbn hmn).weak fun x y _ _ z => ?_
                omega
            · rintro σ H5 ⟨M, v5, rfl, T5, P5, s5⟩
              rw [Int.toNat_natCast] at P5
              refine ⟨M, _, _, rfl, T5, P5.weak (fun x y _ hy z => ?_), s5⟩
              omega
          · rintro σ H4 ⟨M, v4, v5, rfl, T4, P4, s4⟩
            rw [Int.toNat_natCast] at P4
            exact ⟨M, _, _, _, rfl, T4, P4.sn, P4.full (fun x y hx _ => hx) F3 hmn, s4⟩
        · rintro σ H3 ⟨M, v4, v5, v6, rfl, T3, S3, F3, s3⟩
          rw [Int.toNat_natCast] at F3
          exact ⟨_, rfl, h H3 D rs M T3 (Spans.of hE S3 F3) s3⟩
end
end RL
namespace RL
open PySem PySem.Spec PyProof.Rows L2 RLM
section
variable {P : Program} {w : World} {K : PySem.W.Frag} {mg : Str → Option Value} {base : Heap}
/-- [b for b in range(n) if t(b)]: the places of which t holds -/
theorem reach_any {n : Nat} {E : List (Nat × Nat)} {M : Nat → Nat → Nat} {ps : List Nat} {p : Nat → Prop} (S : Spans n E M) (PO : PaceOk n ps) {b : Nat} (hb : b < n) :
    (((lotP n p).map fun a => decide (M a b ≤ ps.getD a 0)).any id = true) ↔ stepP n E ps p b := by
  have key : ∀ a, a < n → (M a b ≤ ps.getD a 0 ↔ Near E ((ps.getD a 0 : Nat) : Int) a b) := fun a ha => by
    have h7 : ps.getD a 0 ≤ 7 := PO.2 _ (List.mem_of_getElem? (pace_get PO ha))
    rw [← S.nr a b _ ha hb (by omega)]
    omega
  rw [List.any_eq_true]
  constructor
  · rintro ⟨v, hv, ev⟩
    obtain ⟨a, ha, rfl⟩ := List.mem_map.mp hv
    have m := mem_lotP.mp ha
    exact ⟨a, m.1, m.2, (key a m.1).1 (of_decide_eq_true ev)⟩
  · rintro ⟨a, h1, h2, h3⟩
    exact ⟨true, List.mem_map.mpr ⟨a, mem_lotP.mpr ⟨h1, h2⟩, decide_eq_true ((key a h1).2 h3)⟩, rfl⟩
def spReached (K : PySem.W.Frag) : Sp := fun vs H Q _ => ∃ (c D tp tl : Addr) (rs : List Addr) (M : Nat → Nat → Nat) (n : Nat) (E : List (Nat × Nat)) (ps : List Nat) (p : Nat → Prop), vs = [.ref D, .ref tp, .ref tl] ∧ TabAt c H D n rs M ∧ Spans n E M ∧ n ≤ 8 ∧ H tp = some (.tup (ps.map vI)) ∧ PaceOk n ps ∧ H tl = some (.tup ((lotP n p).map vI)) ∧
  ∀ H' t, H' t = some (.tup ((lotP n (stepP n E ps p)).map vI)) → Same H H' → Q (.ref t) H'
theorem sc__law_reached : FnScope ["_law_spans_here", "_law_pace_here", "_law_lot_here", "_law_to", "_law_one"] ["_law_spans_here", "_law_pace_here", "_law_lot_here"] (defScope s__law_reached) := ⟨rfl, rfl, rfl, by decide +kernel, rfl, by decide +kernel, by decide +kernel⟩
theorem ok_reached (T : Tx K mg) : Has P w K mg base (He.ga K "_law_reached") 1 ["_law_spans_here", "_law_pace_here", "_law_lot_here"] (spReached K) := by
  obtain ⟨fd, F⟩ := T.d__law_reached
  refine ⟨⟨fd, F.ok sc__law_reached (fun vs H Q E h => ?_) (fun cdv A outer s H vs Q E hr h => ?_), F.bindsN fun _ _ _ _ _ _ us hl => match us, hl with | [_, _, _], _ => rfl⟩, F.kp⟩
  · obtain ⟨c, D, tp, tl, rs, M, n, E, ps, p, rfl, _⟩ := h
    rfl
  · obtain ⟨c, D, tp, tl, rs, M, n, E, ps, p, rfl, TA, S, n8, htp, PO, htl, h⟩ := h
    refine ⟨_, PSs.nox (pss_one (ps_ret (pe_callTy (tupK (K := K)) (by rfl) T.free_tuple (by decide +kernel) (pa_cons (pe_lc (own := [("_law_to", 3)]) (g := (gName 3)) rfl sc__law_reached.nd (pi_range1 (by rfl) T.free_range (pa_cons (pe_callB (lenK (K := K)) (by rfl) T.free_len (by decide +kernel) (pa_cons (pv 0) pa_nil)) pa_nil)) (blkOk_by (by kernel_rfl)) (fun _ _ _ _ _ => (pg_name (i := 3) sc__law_reached.nd rfl (Or.inr rfl))) (fun _ _ _ _ _ => (pts_one (pt_val (pe_callB (anyK (K := K)) (by rfl) T.free_any (by decide +kernel) (pa_cons (pe_lc (own := [("_law_one", 4)]) (g := (gName 4)) (tt := tYes) rfl sc__law_reached.nd (piT (K := K) (pv 2)) (blkOk_by (by kernel_rfl)) (fun _ _ _ _ _ => (pg_name (i := 4) sc__law_reached.nd rfl (Or.inl rfl))) (fun _ _ _ _ _ => pts_nil) (fun _ _ _ _ _ => (pe_cmpR op_le (pe_ix (ixL (K := K)) (pe_ix (ixL (K := K)) (pv 0) (pv 4) (fun _ _ => rfl)) (pv 3) (fun _ _ => rfl)) (pe_ix (ixT (K := K)) (pv 1) (pv 4) (fun _ _ => rfl)) (nomark _)))) pa_nil))))) (fun _ _ _ _ _ => (pv 3))) pa_nil)))), ?_⟩
    refine ⟨_, rfl, D, _, rfl, .inl (SqL.of TA.at_), _, rfl, ?_⟩
    rw [List.length_map, TA.len]
    refine ⟨by omega, by omega, fun D1 hD1 => ?_⟩
    refine lc_range (lo := 0) (n := ((n : Nat) : Int).toNat) (fun j H1 => ∃ qs : List Nat, H1 D1 = some (.lst (qs.map vI)) ∧ qs.Pairwise (· < ·) ∧ (∀ b, b ∈ qs ↔ b < j ∧ stepP n E ps p b) ∧ qs.length ≤ j ∧ Same H H1)
      ⟨[], upd_same, List.Pairwise.nil, fun b => (by simp), Nat.zero_le _, same_upd hD1⟩ ?_ ?_
    · rintro j H1 hj ⟨qs, hq, sq, mq, lq, s1⟩
      have hjn : j < n := by omega
      refine ⟨rfl, ?_⟩
      refine ⟨_, rfl, tl, rfl, ⟨_, SqT.of (s1 _ _ htl)⟩, fun D2 hD2 => ?_⟩
      have lW : (lotP n p).length ≤ n := lotP_len _ _
      refine lc_tup (K := K) (a := tl) (xs := (lotP n p).map vI) (fun k H2 => H2 D2 = some (.lst ((((lotP n p).take k).map fun a => decide (M a j ≤ ps.getD a 0)).map V.bl)) ∧ Same H1 H2)
        ⟨upd_same, same_upd hD2⟩ (fun k H2 _ ⟨_, s2⟩ => SqT.of (s2 _ _ (s1 _ _ htl))) ?_ ?_
      · rintro k z H2 hz ⟨hb, s2⟩
        obtain ⟨a, ha, rfl⟩ : ∃ a, (lotP n p)[k]? = some a ∧ vI a = z := by
          rw [List.getElem?_map] at hz
          cases e : (lotP n p)[k]? with
          | none => rw [e] at hz; cases hz
          | some b => rw [e] at hz; exact ⟨b, rfl, Option.some.inj hz⟩
        have kl : k < (lotP n p).length := (List.getElem?_eq_some_iff.mp ha).1
        have an := (mem_lotP.mp (List.mem_of_getElem? ha)).1
        have s12 := s1.trans s2
        obtain ⟨r, hr1, hr2⟩ := (TA.same s12).get an
        refine ⟨rfl, yesT ?_⟩
        refine ⟨_, rfl, _, rfl, D, _, _, _, rfl, rfl, SqL.of (s12 _ _ TA.at_), atI_nat (get_map hr1), _, rfl, r, _, _, _, rfl, rfl, SqL.of hr2, at0 (row_get hjn), ?_⟩
        refine ⟨_, rfl, _, rfl, tp, _, _, _, rfl, rfl, SqT.of (s12 _ _ htp), atI_nat (get_map (pace_get PO an)), ?_⟩
        refine ⟨_, _, rfl, rfl, _, hb, ?_, ?_, same_mut s2 hD2⟩
        · rw [List.length_map, List.length_map, List.length_take]
          exact Nat.lt_of_le_of_lt (show min k (lotP n p).length ≤ 8 by omega) (by decide)
        · rw [upd_same, List.take_add_one, ha, List.map_append, List.map_append]
          have e : decide (((M a j : Nat) : Int) ≤ ((ps.getD a 0 : Nat) : Int)) = decide (M a j ≤ ps.getD a 0) := decide_eq_decide.mpr Int.ofNat_le
          show some (HO.lst (_ ++ [V.bl (decide (((M a j : Nat) : Int) ≤ ((ps.getD a 0 : Nat) : Int)))])) = _
          rw [e]
          rfl
      · rintro H2 ⟨hb, s2⟩
        rw [List.length_map, List.take_length] at hb
        refine ⟨D2, _, rfl, SqL.of hb, _, rfl, ?_⟩
        have s12 := s1.trans s2
        have key := reach_any (p := p) S PO hjn
        have hq2 := s2 _ _ hq
        refine ite2 (fun z => ?_) (fun z => ?_)
        · have bp := key.1 z
          refine ⟨_, rfl, _, hq2, ?_, qs ++ [j], ?_, ?_, fun b => ?_, ?_, same_mut s12 hD1⟩
          · rw [List.length_map]
            exact Nat.lt_of_le_of_lt (show qs.length ≤ 8 by omega) (by decide)
          · rw [upd_same, List.map_append, Int.zero_add]
            rfl
          · rw [List.pairwise_append]
            refine ⟨sq, List.pairwise_singleton _ _, fun x hx y hy => ?_⟩
            rw [List.mem_singleton.mp hy]
            exact ((mq x).1 hx).1
          · rw [List.mem_append, mq b, List.mem_singleton]
            constructor
            · rintro (⟨z1, z2⟩ | z1)
              · exact ⟨by omega, z2⟩
              · rw [z1]
                exact ⟨by omega, bp⟩
            · rintro ⟨z1, z2⟩
              rcases Nat.lt_or_ge b j with k | k
              · exact .inl ⟨k, z2⟩
              · exact .inr (by omega)
          · rw [List.length_append]
            simp
            omega
        · refine ⟨qs, hq2, sq, fun b => ?_, by omega, s12⟩
          rw [mq b]
          constructor
          · rintro ⟨z1, z2⟩
            exact ⟨by omega, z2⟩
          · rintro ⟨z1, z2⟩
            refine ⟨?_, z2⟩
            rcases Nat.lt_or_ge b j with k | k
            · exact k
            · exfalso
              have e : b = j := by omega
              rw [e] at z2
              exact z (key.2 z2)
    · rintro H1 ⟨qs, hq, sq, mq, lq, s1⟩
      rw [Int.toNat_natCast] at mq
      refine ⟨D1, _, rfl, .inl ⟨SqL.of hq, fun t ht => ?_⟩⟩
      refine h _ t ?_ (s1.trans (same_upd ht))
      rw [upd_same, lotP_of sq mq]
/-! ### a board, its spans, the program's own board -/
def spGround (K : PySem.W.Frag) : Sp := fun vs H Q _ => ∃ (b c : Addr), vs = [.ref b, vI 8] ∧ Box b c H ∧ ∀ (H' : Hp) (u t l D x n : Nat) (L : List (Addr × Nat × Nat)) (rs : List Addr) (M : Nat → Nat → Nat) (E : List (Nat × Nat)), 1 ≤ n → n ≤ 8 → H' u = some (.tup [.ref t, .ref D, .ref x]) → H' t = some (.tup [vI n, .ref l]) → PairsAt c H' l L → WaysOk n L → (∀ e, e ∈ E ↔ e ∈ L.map (·.2)) → TabAt c H' D n rs M → Spans n E M → BoardAt K c H' x n E → Kc c H H' → Box b c H' → Q (.ref u) H'
theorem spans_congr {n : Nat} {E E' : List (Nat × Nat)} {M : Nat → Nat → Nat} (h : ∀ e, e ∈ E' ↔ e ∈ E) (S : Spans n E M) : Spans n E' M :=
  ⟨S.hi, fun a b m ha hb hm => (S.nr a b m ha hb hm).trans ⟨fun ⟨k, h1, h2⟩ => ⟨k, h1, h2.mono fun p hp => (h p).2 hp⟩, fun ⟨k, h1, h2⟩ => ⟨k, h1, h2.mono fun p hp => (h p).1 hp⟩⟩⟩
theorem sc__law_ground : FnScope ["_law_box_here", "_law_most", "_law_board_here"] ["_law_box_here", "_law_most"] (defScope s__law_ground) := ⟨rfl, rfl, rfl, by decide +kernel, rfl, by decide +kernel, by decide +kernel⟩
theorem ok_ground (T : Tx K mg) : Has P w K mg base (He.ga K "_law_ground") 7 ["_law_box_here", "_law_most"] (spGround K) := by
  obtain ⟨⟨fd_law_board, F_law_board, b_law_board⟩, kp_law_board⟩ := ok_board (P := P) (w := w) (base := base) T
  obtain ⟨⟨fd_law_spans, F_law_spans, b_law_spans⟩, kp_law_spans⟩ := ok_spans (P := P) (w := w) (base := base) T
  obtain ⟨⟨fd_law_made, F_law_made, b_law_made⟩, kp_law_made⟩ := ok_made (P := P) (w := w) (base := base) T
  obtain ⟨fd, F⟩ := T.d__law_ground
  refine ⟨⟨fd, F.ok sc__law_ground (fun vs H Q E h => ?_) (fun cdv A outer s H vs Q E hr h => ?_), F.bindsN fun _ _ _ _ _ _ us hl => match us, hl with | [_, _], _ => rfl⟩, F.kp⟩
  · obtain ⟨b, c, rfl, _⟩ := h
    rfl
  · obtain ⟨b, c, rfl, B, h⟩ := h
    have hr_law_board : Room 4 _ := hr.mono (by decide)
    have hr_law_spans : Room 1 _ := hr.mono (by decide)
    have hr_law_made : Room 6 _ := hr.mono (by decide)
    refine ⟨_, PSs.nox (pss_cons (ps_set (i := 2) sc__law_ground.nd rfl (Or.inl rfl) (pe_call F_law_board hr_law_board rfl T.glo_law_board kp_law_board b_law_board .nil pass0 (pa_cons (pv 0) (pa_cons (pv 1) pa_nil))))
      (pss_one (ps_ret (pe_tup (pa_cons (pv 2) (pa_cons (pe_call F_law_spans hr_law_spans rfl T.glo_law_spans kp_law_spans b_law_spans .nil pass0 (pa_cons (pv 2) pa_nil)) (pa_cons (pe_call F_law_made hr_law_made rfl T.glo_law_made kp_law_made b_law_made .nil pass0 (pa_cons (pv 2) pa_nil)) pa_nil))))))), ?_⟩
    refine ⟨_, rfl, _, rfl, b, c, rfl, B, fun H1 t n l L n1 n8 ht PL WO k1 B1 => ?_⟩
    refine ⟨_, rfl, _, rfl, c, t, l, n, L, rfl, ht, PL, WO, n1, n8, B1.lst, fun H2 D rs M TA S s2 => ?_⟩
    refine ⟨_, rfl, c, t, l, n, L, rfl, s2 _ _ ht, PL.same s2, WO, n1, n8, (B1.same s2).lst, fun H3 x E Bd mE _ s3 => ?_⟩
    refine ⟨(by show 3 ≤ sizeLine; decide), fun u hu => ?_⟩
    have s4 := same_upd (o := HO.tup [V.ref t, V.ref D, V.ref x]) hu
    have s24 := (s2.trans s3).trans s4
    exact h _ u t l D x n L rs M E n1 n8 upd_same (s24 _ _ ht) (PL.same s24) WO mE (TA.same (s3.trans s4)) (spans_congr mE S) (Bd.same s4) (k1.trans (kc_same s24)) (B1.same s24)
end
end RL
namespace RL
open PySem PySem.Spec PyProof.Rows L2 RLM
/-! ### looks -/
inductive Look where
  | lot (p : Nat → Prop)
  | parts (ps : List (Nat → Prop))
  | near (b k : Nat)
/-- a look as it stands -/
def LookAt (n : Nat) (H : Hp) (v : V) : Look → Prop
  | .lot p => ∃ t u : Addr, v = .ref t ∧ H t = some (.tup [.str "in", .ref u]) ∧ H u = some (.tup ((lotP n p).map vI))
  | .parts ps => ∃ (t u : Addr) (us : List Addr), v = .ref t ∧ H t = some (.tup [.str "parts", .ref u]) ∧ H u = some (.tup (us.map V.ref)) ∧ us.length = ps.length ∧ ∀ (k : Nat) (a : Addr) (p : Nat → Prop), us[k]? = some a → ps[k]? = some p → H a = some (.tup ((lotP n p).map vI))
  | .near b k => ∃ t : Addr, v = .ref t ∧ H t = some (.tup [.str "near", vI b, vI k])
/-- a look of a board -/
def LookOk (n : Nat) : Look → Prop
  | .lot _ => True
  | .parts ps => ps.length ≤ n ∧ (∀ b, b < n → ∃ (k : Nat) (p : Nat → Prop), ps[k]? = some p ∧ p b) ∧ (∀ (i j : Nat) (p q : Nat → Prop) (b : Nat), ps[i]? = some p → ps[j]? = some q → b < n → p b → q b → i = j) ∧ ∀ p ∈ ps, ∃ b, b < n ∧ p b
  | .near b k => b < n ∧ k ≤ 7
theorem LookAt.same {n : Nat} {H H' : Hp} {v : V} (s : Same H H') : ∀ {L : Look}, LookAt n H v L → LookAt n H' v L
  | .lot _, ⟨t, u, e, h1, h2⟩ => ⟨t, u, e, s _ _ h1, s _ _ h2⟩
  | .parts _, ⟨t, u, us, e, h1, h2, l, h3⟩ => ⟨t, u, us, e, s _ _ h1, s _ _ h2, l, fun k a p e1 e2 => s _ _ (h3 k a p e1 e2)⟩
  | .near _ _, ⟨t, e, h1⟩ => ⟨t, e, s _ _ h1⟩
theorem LookAt.keep {n : Nat} {c : Addr} {H H' : Hp} {v : V} (k : Kc c H H') (hc : ∃ ys, H c = some (.lst ys)) : ∀ {L : Look}, LookAt n H v L → LookAt n H' v L
  | .lot _, ⟨t, u, e, h1, h2⟩ => ⟨t, u, e, k.tup hc h1, k.tup hc h2⟩
  | .parts _, ⟨t, u, us, e, h1, h2, l, h3⟩ => ⟨t, u, us, e, k.tup hc h1, k.tup hc h2, l, fun i a p e1 e2 => k.tup hc (h3 i a p e1 e2)⟩
  | .near _ _, ⟨t, e, h1⟩ => ⟨t, e, k.tup hc h1⟩
open Classical in
noncomputable def decB (p : Prop) : Bool := decide p
open Classical in
theorem dec_lot {n b : Nat} {p : Nat → Prop} (bn : b < n) : decide (b ∈ lotP n p) = decB (p b) := by
  unfold decB
  rw [decide_eq_decide, mem_lotP]
  exact ⟨fun h => h.2, fun h => ⟨bn, h⟩⟩
open Classical in
/-- what a place answers -/
noncomputable def ans (M : Nat → Nat → Nat) : Look → Nat → Nat
  | .lot p, b => if p b then 1 else 0
  | .parts ps, b => ps.findIdx fun p => decB (p b)
  | .near c k, b => min (M b c) (k + 1)
open Classical in
theorem decB_true {p : Prop} : decB p = true ↔ p := by
  unfold decB
  exact decide_eq_true_iff
theorem ans_near {M : Nat → Nat → Nat} {c k b : Nat} : ans M (.near c k) b = min (M b c) (k + 1) := rfl
theorem ans_in {M : Nat → Nat → Nat} {p : Nat → Prop} {b : Nat} (h : p b) : ans M (.lot p) b = 1 := if_pos h
theorem ans_out {M : Nat → Nat → Nat} {p : Nat → Prop} {b : Nat} (h : ¬ p b) : ans M (.lot p) b = 0 := if_neg h
section
variable {P : Program} {w : World} {K : PySem.W.Frag} {mg : Str → Option Value} {base : Heap}
def spBoth : Sp := fun vs H Q _ => ∃ (s t : Addr) (n : Nat) (p q : Nat → Prop), vs = [.ref s, .ref t] ∧ n ≤ 8 ∧ H s = some (.tup ((lotP n p).map vI)) ∧ H t = some (.tup ((lotP n q).map vI)) ∧
  ∀ H' u, H' u = some (.tup ((lotP n fun b => p b ∧ q b).map vI)) → Same H H' → Q (.ref u) H'
def spAnswer : Sp := fun vs H Q _ => ∃ (c D : Addr) (v : V) (n b : Nat) (rs : List Addr) (M : Nat → Nat → Nat) (L : Look), vs = [.ref D, v, vI b] ∧ n ≤ 8 ∧ TabAt c H D n rs M ∧ LookAt n H v L ∧ LookOk n L ∧ b < n ∧ ∀ H', Same H H' → Q (vI (ans M L b)) H'
theorem sc__law_answer : FnScope ["_law_spans_here", "_law_look_here", "_law_place", "_law_lot_here"] ["_law_spans_here", "_law_look_here", "_law_place"] (defScope s__law_answer) := ⟨rfl, rfl, rfl, by decide +kernel, rfl, by decide +kernel, by decide +kernel⟩
theorem ok_answer (T : Tx K mg) : Has P w K mg base (He.ga K "_law_answer") 1 ["_law_spans_here", "_law_look_here", "_law_place"] spAnswer := by
  obtain ⟨fd, F⟩ := T.d__law_answer
  refine ⟨⟨fd, F.ok sc__law_answer (fun vs H Q E h => ?_) (fun cdv A outer s H vs Q E hr h => ?_), F.bindsN fun _ _ _ _ _ _ us hl => match us, hl with | [_, _, _], _ => rfl⟩, F.kp⟩
  · obtain ⟨c, D, v, n, b, rs, M, L, rfl, _⟩ := h
    rfl
  · obtain ⟨c, D, v, n, b, rs, M, L, rfl, n8, TA, LA, LO, bn, h⟩ := h
    refine ⟨_, PSs.nox (pss_cons (ps_if (pt_cmpR op_eq (pe_ix (ixT (K := K)) (pv 1) pe_int (fun _ _ => rfl)) pe_str (nomark _)) (pss_one (ps_ret (pe_callTy call_int1 (by rfl) T.free_int (by decide +kernel) (pa_cons (pe_cmpR (inSq (K := K)) (pv 2) (pe_ix (ixT (K := K)) (pv 1) pe_int (fun _ _ => rfl)) (by rfl)) pa_nil)))) pss_nil)
      (pss_cons (ps_if (pt_cmpR op_eq (pe_ix (ixT (K := K)) (pv 1) pe_int (fun _ _ => rfl)) pe_str (nomark _)) (pss_one (ps_ret (bmK (K := K) PySem.F.plainAttrs_list PySem.F.slot_list_index PySem.F.type_list_index mt_index (pe_lc (own := [("_law_lot_here", 3)]) (g := (gName 3)) (tt := tYes) rfl sc__law_answer.nd (piT (K := K) (pe_ix (ixT (K := K)) (pv 1) pe_int (fun _ _ => rfl))) (blkOk_by (by kernel_rfl)) (fun _ _ _ _ _ => (pg_name (i := 3) sc__law_answer.nd rfl (Or.inl rfl))) (fun _ _ _ _ _ => pts_nil) (fun _ _ _ _ _ => (pe_cmpR (inSq (K := K)) (pv 2) (pv 3) (by rfl)))) (pa_cons pe_bl pa_nil)))) pss_nil)
      (pss_one (ps_ret (pe_callB (call_min2 rfl) (by rfl) T.free_min (by decide +kernel) (pa_cons (pe_ix (ixL (K := K)) (pe_ix (ixL (K := K)) (pv 0) (pv 2) (fun _ _ => rfl)) (pe_ix (ixT (K := K)) (pv 1) pe_int (fun _ _ => rfl)) (fun _ _ => rfl)) (pa_cons (pe_op op_add (pe_ix (ixT (K := K)) (pv 1) pe_int (fun _ _ => rfl)) pe_int) pa_nil))))))), ?_⟩
    cases L with
    | lot p =>
      obtain ⟨t, u, rfl, ht, hu⟩ := LA
      refine ⟨_, rfl, t, _, 0, _, rfl, rfl, SqT.of ht, rfl, rfl, _, rfl, iteT ?_⟩
      refine ⟨_, rfl, _, rfl, t, _, 1, _, rfl, rfl, SqT.of ht, rfl, u, _, rfl, .inr (SqT.of hu), rfl, flat_vI _, .inr ⟨_, rfl, ?_⟩⟩
      have e : V.int (if inV (vI b) ((lotP n p).map vI) = true then 1 else 0) = vI (ans M (.lot p) b) := by
        rw [in_lot]
        by_cases z : p b
        · rw [if_pos (decide_eq_true (mem_lotP.mpr ⟨bn, z⟩)), ans_in z]
          rfl
        · rw [if_neg (fun y => z (mem_lotP.mp (of_decide_eq_true y)).2), ans_out z]
          rfl
      show Q (V.int (if inV (vI b) ((lotP n p).map vI) = true then 1 else 0)) H
      rw [e]
      exact h H fun _ _ e => e
    | parts ps =>
      obtain ⟨t, u, us, rfl, ht, hu, lu, hus⟩ := LA
      refine ⟨_, rfl, t, _, 0, _, rfl, rfl, SqT.of ht, rfl, rfl, _, rfl, iteF ?_⟩
      refine ⟨_, rfl, t, _, 0, _, rfl, rfl, SqT.of ht, rfl, rfl, _, rfl, iteT ?_⟩
      refine ⟨_, rfl, t, _, 1, _, rfl, rfl, SqT.of ht, rfl, u, rfl, ⟨_, SqT.of hu⟩, fun D1 hD1 => ?_⟩
      obtain ⟨lps, cov, dis, non⟩ := LO
      refine lc_tup (K := K) (a := u) (xs := us.map V.ref) (fun k H1 => H1 D1 = some (.lst (((ps.take k).map fun p => decB (p b)).map V.bl)) ∧ Same H H1)
        ⟨upd_same, same_upd hD1⟩ (fun k H1 _ ⟨_, s1⟩ => SqT.of (s1 _ _ hu)) ?_ ?_
      · rintro k z H1 hz ⟨h1, s1⟩
        rw [List.getElem?_map] at hz
        obtain ⟨a, ha, rfl⟩ : ∃ a, us[k]? = some a ∧ V.ref a = z := by
          cases e : us[k]? with
          | none => rw [e] at hz; cases hz
          | some a => rw [e] at hz; exact ⟨a, rfl, Option.some.inj hz⟩
        have kl : k < ps.length := by
          have := (List.getElem?_eq_some_iff.mp ha).1
          omega
        have hp : ps[k]? = some ps[k] := List.getElem?_eq_getElem kl
        have hl := s1 _ _ (hus k a _ ha hp)
        refine ⟨rfl, yesT ?_⟩
        refine ⟨_, rfl, _, rfl, a, _, rfl, .inr (SqT.of hl), rfl, flat_vI _, _, h1, ?_, ?_, same_mut s1 hD1⟩
        · rw [List.length_map, List.length_map, List.length_take]
          exact Nat.lt_of_le_of_lt (show min k ps.length ≤ 8 by omega) (by decide)
        · rw [upd_same, List.take_add_one, hp, List.map_append, List.map_append]
          show some (HO.lst (_ ++ [V.bl (inV (vI b) ((lotP n ps[k]).map vI))])) = _
          rw [in_lot, show decide (b ∈ lotP n ps[k]) = decB (ps[k] b) from dec_lot bn]
          rfl
      · rintro H1 ⟨h1, s1⟩
        rw [List.length_map, lu, List.take_length] at h1
        obtain ⟨k0, p0, hk0, pb⟩ := cov b bn
        have fl : ps.findIdx (fun p => decB (p b)) < ps.length := List.findIdx_lt_length_of_exists ⟨p0, List.mem_of_getElem? hk0, decB_true.mpr pb⟩
        have ft := List.findIdx_getElem (p := fun p : Nat → Prop => decB (p b)) (w := fl)
        refine ⟨.inl ⟨rfl, _, SqL.of h1⟩, D1, _, .bl true, ps.findIdx (fun p : Nat → Prop => decB (p b)), .bl true, rfl, rfl, SqL.of h1, rfl, ?_, ?_, rfl, ?_, h H1 s1⟩
        · rw [List.all_eq_true]
          intro z hz
          obtain ⟨y, _, rfl⟩ := List.mem_map.mp hz
          rfl
        · rw [List.getElem?_map, List.getElem?_map, List.getElem?_eq_getElem fl]
          show some (V.bl (decB (ps[ps.findIdx fun p => decB (p b)] b))) = _
          rw [ft]
        · intro i z hi hz
          have il : i < ps.length := Nat.lt_trans hi fl
          rw [List.getElem?_map, List.getElem?_map, List.getElem?_eq_getElem il] at hz
          cases hz
          have nb := List.not_of_lt_findIdx hi
          show (decB (ps[i] b) == true) = false
          cases e : decB (ps[i] b) with
          | false => rfl
          | true => exact absurd e (by simpa using nb)
    | near d k =>
      obtain ⟨t, rfl, ht⟩ := LA
      refine ⟨_, rfl, t, _, 0, _, rfl, rfl, SqT.of ht, rfl, rfl, _, rfl, iteF ?_⟩
      refine ⟨_, rfl, t, _, 0, _, rfl, rfl, SqT.of ht, rfl, rfl, _, rfl, iteF ?_⟩
      obtain ⟨r, hr1, hr2⟩ := TA.get bn
      refine ⟨_, rfl, _, rfl, D, _, _, _, rfl, rfl, SqL.of TA.at_, atI_nat (get_map hr1), _, rfl, t, _, 1, _, rfl, rfl, SqT.of ht, rfl, r, _, _, _, rfl, rfl, SqL.of hr2, atI_nat (row_get LO.1), ?_⟩
      refine ⟨_, rfl, t, _, 2, _, rfl, rfl, SqT.of ht, rfl, _, _, rfl, rfl, _, _, rfl, ?_⟩
      have e : V.int (if ((k : Nat) : Int) + 1 < ((M b d : Nat) : Int) then ((k : Nat) : Int) + 1 else ((M b d : Nat) : Int)) = vI (ans M (.near d k) b) := by
        rw [ans_near]
        unfold vI
        congr 1
        split <;> omega
      show Q (V.int (if ((k : Nat) : Int) + 1 < ((M b d : Nat) : Int) then ((k : Nat) : Int) + 1 else ((M b d : Nat) : Int))) H
      rw [e]
      exact h H fun _ _ e => e
end
end RL
namespace RL
open PySem PySem.Spec PyProof.Rows L2 RLM
/-- a triple that was seen: beat, look, answer -/
structure Triple where
  beat : Nat
  look : Look
  told : Nat
/-- triples as they stand, in a tuple or a list: where each is, where its look is -/
def TripAt (n : Nat) (H : Hp) (q : Addr × V × Triple) : Prop := H q.1 = some (.tup [vI q.2.2.beat, q.2.1, vI q.2.2.told]) ∧ LookAt n H q.2.1 q.2.2.look ∧ LookOk n q.2.2.look
/-- a story as it stands -/
structure StoryAt (n : Nat) (H : Hp) (s : Addr) (p : Nat → Prop) (PS : List (Addr × List Nat)) (SN : List (Addr × V × Triple)) : Prop where
  ex : ∃ tl tp ts : Addr, H s = some (.tup [.ref tl, .ref tp, .ref ts]) ∧ H tl = some (.tup ((lotP n p).map vI)) ∧ H tp = some (.tup (PS.map fun q => V.ref q.1)) ∧ H ts = some (.tup (SN.map fun q => V.ref q.1))
  pc : ∀ q ∈ PS, H q.1 = some (.tup (q.2.map vI)) ∧ PaceOk n q.2
  sn : ∀ q ∈ SN, TripAt n H q ∧ q.2.2.beat ≤ PS.length
  lp : PS.length ≤ 12
  ls : SN.length ≤ 24
theorem TripAt.same {n : Nat} {H H' : Hp} {q : Addr × V × Triple} (s : Same H H') (h : TripAt n H q) : TripAt n H' q := ⟨s _ _ h.1, h.2.1.same s, h.2.2⟩
theorem StoryAt.same {n : Nat} {H H' : Hp} {a : Addr} {p : Nat → Prop} {PS : List (Addr × List Nat)} {SN : List (Addr × V × Triple)} (s : Same H H') (h : StoryAt n H a p PS SN) : StoryAt n H' a p PS SN := by
  obtain ⟨tl, tp, ts, h1, h2, h3, h4⟩ := h.ex
  exact ⟨⟨tl, tp, ts, s _ _ h1, s _ _ h2, s _ _ h3, s _ _ h4⟩, fun q hq => ⟨s _ _ (h.pc q hq).1, (h.pc q hq).2⟩, fun q hq => ⟨(h.sn q hq).1.same s, (h.sn q hq).2⟩, h.lp, h.ls⟩
/-- what was seen lets a place be -/
def openP (M : Nat → Nat → Nat) (SN : List (Addr × V × Triple)) (i b : Nat) : Prop := ∀ q ∈ SN, q.2.2.beat = i → ans M q.2.2.look b = q.2.2.told
/-- a list of lots, as tuples -/
structure LotsAt (n : Nat) (H : Hp) (D : Addr) (m : Nat) (p : Nat → Nat → Prop) : Prop where
  ex : ∃ us : List Addr, H D = some (.lst (us.map V.ref)) ∧ us.length = m ∧ ∀ (i : Nat) (u : Addr), us[i]? = some u → H u = some (.tup ((lotP n (p i)).map vI))
section
variable {P : Program} {w : World} {K : PySem.W.Frag} {mg : Str → Option Value} {base : Heap}
def spOpen : Sp := fun vs H Q _ => ∃ (c D s : Addr) (n : Nat) (rs : List Addr) (M : Nat → Nat → Nat) (p : Nat → Prop) (PS : List (Addr × List Nat)) (SN : List (Addr × V × Triple)), vs = [.ref D, .ref s] ∧ n ≤ 8 ∧ TabAt c H D n rs M ∧ StoryAt n H s p PS SN ∧
  ∀ H' l, LotsAt n H' l (PS.length + 1) (openP M SN) → H l = none → Same H H' → Q (.ref l) H'
end
end RL
/-! Stories: walks that fit, the lots forth, back and known; how many walks there are. Plain mathematics.
    n places, m paces, S the lot of the beginning, R i a b: a step from a to b is let by pace i, O i b: what was seen at beat i lets b be. -/
namespace RLM
section
variable (n m : Nat) (S : Nat → Prop) (R : Nat → Nat → Nat → Prop) (O : Nat → Nat → Prop)
/-- from a on, at beat i: what a walk has behind a -/
inductive Tail : Nat → Nat → List Nat → Prop where
  | stop (a : Nat) : Tail m a []
  | go {i a b : Nat} {w : List Nat} : i < m → b < n → R i a b → O (i + 1) b → Tail (i + 1) b w → Tail i a (b :: w)
/-- a walk that fits -/
def Fit : List Nat → Prop
  | [] => False
  | a :: w => a < n ∧ S a ∧ O 0 a ∧ Tail n m R O 0 a w
/-- the lots forth -/
def ForthP : Nat → Nat → Prop
  | 0, b => b < n ∧ S b ∧ O 0 b
  | i + 1, b => b < n ∧ O (i + 1) b ∧ ∃ a, ForthP i a ∧ R i a b
/-- the lots back: k beats before the last -/
def BackP : Nat → Nat → Prop
  | 0, b => b < n ∧ O m b
  | k + 1, b => b < n ∧ O (m - (k + 1)) b ∧ ∃ c, BackP k c ∧ R (m - (k + 1)) b c
end
variable {n m : Nat} {S : Nat → Prop} {R : Nat → Nat → Nat → Prop} {O : Nat → Nat → Prop}
theorem Tail.len {i a : Nat} {w : List Nat} (h : Tail n m R O i a w) : i + w.length = m := by
  induction h with
  | stop a => simp
  | go _ _ _ _ _ ih => simp only [List.length_cons]; omega
theorem Tail.get {i a : Nat} {w : List Nat} (h : Tail n m R O i a w) : ∀ {j b : Nat}, w[j]? = some b → b < n ∧ O (i + 1 + j) b := by
  induction h with
  | stop a => intro j b e; simp at e
  | @go i a b w hi hb r o t ih =>
    intro j c e
    cases j with
    | zero => simp at e; subst e; exact ⟨hb, o⟩
    | succ j =>
      have := ih (j := j) (b := c) (by simpa using e)
      exact ⟨this.1, by have e : i + 1 + (j + 1) = i + 1 + 1 + j := by omega
                        rw [e]; exact this.2⟩
theorem Fit.len {w : List Nat} (h : Fit n m S R O w) : w.length = m + 1 := by
  cases w with
  | nil => exact h.elim
  | cons a w =>
    have := h.2.2.2.len
    simp only [List.length_cons]
    omega
/-- what a walk has behind a place leads on: the place is in the lot back -/
theorem Tail.back {i a : Nat} {w : List Nat} (h : Tail n m R O i a w) (ha : a < n) (o : O i a) : BackP n m R O (m - i) a := by
  induction h with
  | stop a =>
    rw [Nat.sub_self]
    exact ⟨ha, o⟩
  | @go i a b w hi hb r o2 t ih =>
    have e : m - i = (m - (i + 1)) + 1 := by omega
    have e2 : m - (m - (i + 1) + 1) = i := by omega
    rw [e]
    refine ⟨ha, ?_, b, ih hb o2, ?_⟩ <;> rw [e2] <;> assumption
/-- from a place of the lot back some walk leads on -/
theorem BackP.tail : ∀ {k a : Nat}, BackP n m R O k a → k ≤ m → ∃ w, Tail n m R O (m - k) a w
  | 0, a, _, _ => ⟨[], .stop a⟩
  | k + 1, a, h, hk => by
    obtain ⟨ha, o, c, hc, r⟩ := h
    obtain ⟨w, t⟩ := hc.tail (by omega)
    have e : m - k = m - (k + 1) + 1 := by omega
    have oc : O (m - k) c := by
      cases k with
      | zero => exact hc.2
      | succ k => exact hc.2.1
    have cn : c < n := by
      cases k with
      | zero => exact hc.1
      | succ k => exact hc.1
    rw [e] at t oc
    exact ⟨c :: w, .go (by omega) cn r oc t⟩
theorem ForthP.lt {i a : Nat} (h : ForthP n S R O i a) : a < n := by
  cases i with
  | zero => exact h.1
  | succ i => exact h.1
theorem ForthP.op {i a : Nat} (h : ForthP n S R O i a) : O i a := by
  cases i with
  | zero => exact h.2.2
  | succ i => exact h.2.1
theorem BackP.lt {k a : Nat} (h : BackP n m R O k a) : a < n := by
  cases k with
  | zero => exact h.1
  | succ i => exact h.1
/-- what a fitting walk passes is in the lots forth -/
theorem Tail.forth {i a : Nat} {w : List Nat} (h : Tail n m R O i a w) : ForthP n S R O i a → ∀ {j b : Nat}, (a :: w)[j]? = some b → ForthP n S R O (i + j) b ∧ BackP n m R O (m - (i + j)) b := by
  induction h with
  | stop a =>
    intro f j b e
    cases j with
    | zero =>
      simp at e
      subst e
      exact ⟨f, (Tail.stop (n := n) (m := m) (R := R) (O := O) _).back f.lt f.op⟩
    | succ j => simp at e
  | @go i a c w hi hb r o t ih =>
    intro f j b e
    cases j with
    | zero =>
      simp at e
      subst e
      exact ⟨f, (Tail.go hi hb r o t).back f.lt f.op⟩
    | succ j =>
      have := ih ⟨hb, o, a, f, r⟩ (j := j) (b := b) (by simpa using e)
      have e2 : i + (j + 1) = i + 1 + j := by omega
      rw [e2]
      exact this
/-- a walk to a place of the lot forth can be put before one that leads on -/
theorem ForthP.walk : ∀ {i a : Nat} {w : List Nat}, ForthP n S R O i a → Tail n m R O i a w → ∃ v, Fit n m S R O (v ++ a :: w) ∧ v.length = i
  | 0, a, w, f, t => ⟨[], ⟨f.1, f.2.1, f.2.2, t⟩, rfl⟩
  | i + 1, a, w, f, t => by
    obtain ⟨an, o, b, fb, r⟩ := f
    have hi : i < m := by
      have := t.len
      omega
    obtain ⟨v, fv, lv⟩ := fb.walk (.go hi an r o t)
    exact ⟨v ++ [b], by simpa using fv, by simp [lv]⟩
/-- known: where some fitting walk is; both forth and back -/
theorem known_iff {i b : Nat} (hi : i ≤ m) : (∃ w, Fit n m S R O w ∧ w[i]? = some b) ↔ ForthP n S R O i b ∧ BackP n m R O (m - i) b := by
  constructor
  · rintro ⟨w, f, e⟩
    cases w with
    | nil => exact f.elim
    | cons a w =>
      have := f.2.2.2.forth (S := S) (i := 0) ⟨f.1, f.2.1, f.2.2.1⟩ e
      simpa using this
  · rintro ⟨f, b'⟩
    obtain ⟨w, t⟩ := b'.tail (by omega)
    have e : m - (m - i) = i := by omega
    rw [e] at t
    obtain ⟨v, fv, lv⟩ := f.walk t
    refine ⟨_, fv, ?_⟩
    rw [List.getElem?_append_right (by omega), lv, Nat.sub_self]
    rfl
/-- no walk fits just where some lot forth is empty; where one is, all later ones are -/
theorem forth_none {i : Nat} (h : ∀ b, ¬ ForthP n S R O i b) : ∀ j, i ≤ j → ∀ b, ¬ ForthP n S R O j b
  | 0, hj, b => by
    have : i = 0 := by omega
    subst this
    exact h b
  | j + 1, hj, b => by
    rcases Nat.lt_or_ge j i with k | k
    · have : i = j + 1 := by omega
      subst this
      exact h b
    · rintro ⟨_, _, a, fa, _⟩
      exact forth_none h j k a fa
end RLM
/-! The walks that fit, as a list in their order; how many. Plain mathematics. -/
namespace RLM
/-- tuples of one length, in order -/
def lexL : List Nat → List Nat → Prop
  | a :: v, b :: w => a < b ∨ (a = b ∧ lexL v w)
  | _, _ => False
theorem lexL_irr : ∀ v, ¬ lexL v v
  | [] => id
  | a :: v => by
    rintro (h | ⟨_, h⟩)
    · omega
    · exact lexL_irr v h
theorem lexL_asym : ∀ {v w : List Nat}, lexL v w → ¬ lexL w v
  | [], _, h => fun _ => h.elim
  | _ :: _, [], h => fun _ => h.elim
  | a :: v, b :: w, h => by
    intro g
    rcases h with h | ⟨e, h⟩ <;> rcases g with g | ⟨e', g⟩
    · omega
    · omega
    · omega
    · exact lexL_asym h g
theorem lexL_trans : ∀ {u v w : List Nat}, lexL u v → lexL v w → lexL u w
  | [], _, _, h, _ => h.elim
  | _ :: _, [], _, h, _ => h.elim
  | _ :: _, _ :: _, [], _, g => g.elim
  | a :: u, b :: v, c :: w, h, g => by
    rcases h with h | ⟨e, h⟩ <;> rcases g with g | ⟨e', g⟩
    · exact .inl (by omega)
    · exact .inl (by omega)
    · exact .inl (by omega)
    · exact .inr ⟨by omega, lexL_trans h g⟩
theorem lexL_total : ∀ {v w : List Nat}, v.length = w.length → v ≠ w → lexL v w ∨ lexL w v
  | [], [], _, h => absurd rfl h
  | [], _ :: _, e, _ => by simp at e
  | _ :: _, [], e, _ => by simp at e
  | a :: v, b :: w, e, h => by
    rcases Nat.lt_trichotomy a b with k | k | k
    · exact .inl (.inl k)
    · subst k
      have h2 : v ≠ w := fun z => h (by rw [z])
      rcases lexL_total (by simpa using e) h2 with g | g
      · exact .inl (.inr ⟨rfl, g⟩)
      · exact .inr (.inr ⟨rfl, g⟩)
    · exact .inr (.inl k)
/-- rising lists with the same members are the same -/
theorem pw_eq {α : Type} {r : α → α → Prop} (irr : ∀ a, ¬ r a a) (asym : ∀ {a b}, r a b → ¬ r b a) : ∀ {xs ys : List α}, xs.Pairwise r → ys.Pairwise r → (∀ a, a ∈ xs ↔ a ∈ ys) → xs = ys
  | [], [], _, _, _ => rfl
  | [], y :: ys, _, _, h => absurd ((h y).2 List.mem_cons_self) (by simp)
  | x :: xs, [], _, _, h => absurd ((h x).1 List.mem_cons_self) (by simp)
  | x :: xs, y :: ys, hx, hy, h => by
    obtain ⟨hx1, hx2⟩ := List.pairwise_cons.mp hx
    obtain ⟨hy1, hy2⟩ := List.pairwise_cons.mp hy
    have e : x = y := by
      rcases List.mem_cons.mp ((h x).1 List.mem_cons_self) with e | m1
      · exact e
      · rcases List.mem_cons.mp ((h y).2 List.mem_cons_self) with e | m2
        · exact e.symm
        · exact absurd (hx1 y m2) (asym (hy1 x m1))
    subst e
    congr 1
    refine pw_eq irr asym hx2 hy2 fun a => ⟨fun m => ?_, fun m => ?_⟩
    · rcases List.mem_cons.mp ((h a).1 (List.mem_cons_of_mem _ m)) with e | k
      · subst e
        exact absurd (hx1 _ m) (irr _)
      · exact k
    · rcases List.mem_cons.mp ((h a).2 (List.mem_cons_of_mem _ m)) with e | k
      · subst e
        exact absurd (hy1 _ m) (irr _)
      · exact k
section
variable (n m : Nat) (S : Nat → Prop) (R : Nat → Nat → Nat → Prop) (O : Nat → Nat → Prop)
/-- what walks have behind a, k beats before the last -/
noncomputable def tails : Nat → Nat → List (List Nat)
  | 0, _ => [[]]
  | k + 1, a => (lotP n fun b => R (m - (k + 1)) a b ∧ O (m - k) b).flatMap fun b => (tails k b).map (b :: ·)
/-- the walks that fit, in their order -/
noncomputable def walks : List (List Nat) := (lotP n fun a => S a ∧ O 0 a).flatMap fun a => (tails n m R O m a).map (a :: ·)
end
variable {n m : Nat} {S : Nat → Prop} {R : Nat → Nat → Nat → Prop} {O : Nat → Nat → Prop}
theorem mem_tails : ∀ {k a : Nat} {w : List Nat}, k ≤ m → (w ∈ tails n m R O k a ↔ Tail n m R O (m - k) a w)
  | 0, a, w, _ => by
    unfold tails
    rw [List.mem_singleton]
    constructor
    · rintro rfl
      exact .stop a
    · intro h
      have := h.len
      have : w.length = 0 := by omega
      exact List.eq_nil_of_length_eq_zero this
  | k + 1, a, w, hk => by
    unfold tails
    have e : m - (k + 1) + 1 = m - k := by omega
    constructor
    · intro h
      obtain ⟨b, hb, hw⟩ := List.mem_flatMap.mp h
      obtain ⟨v, hv, rfl⟩ := List.mem_map.mp hw
      obtain ⟨bn, r, o⟩ := mem_lotP.mp hb
      have t := (mem_tails (by omega)).1 hv
      rw [← e] at o t
      exact .go (by omega) bn r o t
    · intro h
      generalize ei : m - (k + 1) = i at h e
      cases h with
      | stop => omega
      | @go _ _ b v hi hb r o t =>
        refine List.mem_flatMap.mpr ⟨b, mem_lotP.mpr ⟨hb, ?_, ?_⟩, List.mem_map.mpr ⟨v, ?_, rfl⟩⟩
        · exact r
        · rw [← e]; exact o
        · refine (mem_tails (by omega)).2 ?_
          rw [← e]; exact t
theorem mem_walks {w : List Nat} : w ∈ walks n m S R O ↔ Fit n m S R O w := by
  unfold walks
  constructor
  · intro h
    obtain ⟨a, ha, hw⟩ := List.mem_flatMap.mp h
    obtain ⟨v, hv, rfl⟩ := List.mem_map.mp hw
    obtain ⟨an, s, o⟩ := mem_lotP.mp ha
    have t := (mem_tails (Nat.le_refl m)).1 hv
    rw [Nat.sub_self] at t
    exact ⟨an, s, o, t⟩
  · intro h
    cases w with
    | nil => exact h.elim
    | cons a v =>
      refine List.mem_flatMap.mpr ⟨a, mem_lotP.mpr ⟨h.1, h.2.1, h.2.2.1⟩, List.mem_map.mpr ⟨v, (mem_tails (Nat.le_refl m)).2 ?_, rfl⟩⟩
      rw [Nat.sub_self]
      exact h.2.2.2
theorem grow_sorted {xs : List Nat} {f : Nat → List (List Nat)} (hx : xs.Pairwise (· < ·)) (hf : ∀ a ∈ xs, (f a).Pairwise lexL) : (xs.flatMap fun a => (f a).map (a :: ·)).Pairwise lexL := by
  rw [List.pairwise_flatMap]
  refine ⟨fun a ha => ?_, hx.imp fun {a b} hab x hx y hy => ?_⟩
  · rw [List.pairwise_map]
    exact (hf a ha).imp fun h => .inr ⟨rfl, h⟩
  · obtain ⟨v, _, rfl⟩ := List.mem_map.mp hx
    obtain ⟨u, _, rfl⟩ := List.mem_map.mp hy
    exact .inl hab
theorem tails_sorted : ∀ {k a : Nat}, (tails n m R O k a).Pairwise lexL
  | 0, _ => List.pairwise_singleton _ _
  | k + 1, a => grow_sorted (lotP_sorted _ _) fun b _ => tails_sorted
theorem walks_sorted : (walks n m S R O).Pairwise lexL := grow_sorted (lotP_sorted _ _) fun b _ => tails_sorted
/-- any rising list of just the fitting walks is this one -/
theorem walks_of {ws : List (List Nat)} (h : ws.Pairwise lexL) (hm : ∀ w, w ∈ ws ↔ Fit n m S R O w) : ws = walks n m S R O :=
  pw_eq lexL_irr (fun h => lexL_asym h) h walks_sorted fun w => (hm w).trans mem_walks.symm
/-- how many: by the next places -/
theorem tails_many (k a : Nat) : (tails n m R O (k + 1) a).length = ((lotP n fun b => R (m - (k + 1)) a b ∧ O (m - k) b).map fun b => (tails n m R O k b).length).sum := by
  conv => lhs; unfold tails
  rw [List.length_flatMap]
  congr 1
  exact List.map_congr_left fun b _ => List.length_map _
theorem walks_many : (walks n m S R O).length = ((lotP n fun a => S a ∧ O 0 a).map fun a => (tails n m R O m a).length).sum := by
  unfold walks
  rw [List.length_flatMap]
  congr 1
  exact List.map_congr_left fun b _ => List.length_map _
/-- there is none just where the lot back lacks the place -/
theorem tails_none {k a : Nat} (hk : k ≤ m) (ha : a < n) (o : O (m - k) a) : (tails n m R O k a).length = 0 ↔ ¬ BackP n m R O k a := by
  constructor
  · intro h b
    obtain ⟨w, t⟩ := b.tail hk
    have := (mem_tails hk).2 t
    rw [List.eq_nil_of_length_eq_zero h] at this
    cases this
  · intro h
    cases e : tails n m R O k a with
    | nil => rfl
    | cons w ws =>
      exfalso
      have t := (mem_tails hk).1 (show w ∈ tails n m R O k a by rw [e]; exact List.mem_cons_self)
      have := t.back ha o
      have e2 : m - (m - k) = k := by omega
      rw [e2] at this
      exact h this
end RLM
/-! All walks of a story by growing rows at their ends, those that fit taken out of them. Plain mathematics. -/
namespace RLM
theorem lexL_app : ∀ {v w : List Nat} (x y : List Nat), lexL v w → lexL (v ++ x) (w ++ y)
  | [], _, _, _, h => h.elim
  | _ :: _, [], _, _, h => h.elim
  | a :: v, b :: w, x, y, h => by
    rcases h with h | ⟨e, h⟩
    · exact .inl h
    · exact .inr ⟨e, lexL_app x y h⟩
theorem lexL_end : ∀ (v : List Nat) {a b : Nat}, a < b → lexL (v ++ [a]) (v ++ [b])
  | [], _, _, h => .inl h
  | _ :: v, _, _, h => .inr ⟨rfl, lexL_end v h⟩
section
variable (n : Nat) (S : Nat → Prop) (R : Nat → Nat → Nat → Prop)
/-- the rows of i steps -/
noncomputable def rows : Nat → List (List Nat)
  | 0 => (lotP n S).map fun a => [a]
  | i + 1 => (rows i).flatMap fun v => (lotP n (R i (v.getLastD 0))).map fun b => v ++ [b]
/-- such a row: from the beginning on, its steps are let -/
def Goes : Nat → List Nat → Prop
  | 0, w => ∃ a, a < n ∧ S a ∧ w = [a]
  | i + 1, w => ∃ v b, Goes i v ∧ b < n ∧ R i (v.getLastD 0) b ∧ w = v ++ [b]
end
variable {n m : Nat} {S : Nat → Prop} {R : Nat → Nat → Nat → Prop} {O : Nat → Nat → Prop}
theorem Goes.len : ∀ {i : Nat} {w : List Nat}, Goes n S R i w → w.length = i + 1
  | 0, w, ⟨a, _, _, e⟩ => by rw [e]; rfl
  | i + 1, w, ⟨v, b, g, _, _, e⟩ => by rw [e, List.length_append, g.len]; rfl
theorem mem_rows : ∀ {i : Nat} {w : List Nat}, w ∈ rows n S R i ↔ Goes n S R i w
  | 0, w => by
    unfold rows Goes
    rw [List.mem_map]
    constructor
    · rintro ⟨a, ha, rfl⟩
      exact ⟨a, (mem_lotP.mp ha).1, (mem_lotP.mp ha).2, rfl⟩
    · rintro ⟨a, h1, h2, rfl⟩
      exact ⟨a, mem_lotP.mpr ⟨h1, h2⟩, rfl⟩
  | i + 1, w => by
    unfold rows Goes
    rw [List.mem_flatMap]
    constructor
    · rintro ⟨v, hv, hw⟩
      obtain ⟨b, hb, rfl⟩ := List.mem_map.mp hw
      exact ⟨v, b, mem_rows.1 hv, (mem_lotP.mp hb).1, (mem_lotP.mp hb).2, rfl⟩
    · rintro ⟨v, b, g, h1, h2, rfl⟩
      exact ⟨v, mem_rows.2 g, List.mem_map.mpr ⟨b, mem_lotP.mpr ⟨h1, h2⟩, rfl⟩⟩
theorem rows_sorted : ∀ i : Nat, (rows n S R i).Pairwise lexL
  | 0 => by
    unfold rows
    rw [List.pairwise_map]
    exact (lotP_sorted _ _).imp fun h => .inl h
  | i + 1 => by
    unfold rows
    rw [List.pairwise_flatMap]
    refine ⟨fun v _ => ?_, (rows_sorted i).imp fun {v w} h x hx y hy => ?_⟩
    · rw [List.pairwise_map]
      exact (lotP_sorted _ _).imp fun h => lexL_end v h
    · obtain ⟨a, _, rfl⟩ := List.mem_map.mp hx
      obtain ⟨b, _, rfl⟩ := List.mem_map.mp hy
      exact lexL_app _ _ h
/-- a row followed by a tail -/
theorem Goes.fit : ∀ {i : Nat} {v t : List Nat}, Goes n S R i v → (∀ (j b : Nat), v[j]? = some b → O j b) → Tail n m R O i (v.getLastD 0) t → Fit n m S R O (v ++ t)
  | 0, v, t, ⟨a, an, s, e⟩, o, h => by
    subst e
    exact ⟨an, s, o 0 a rfl, h⟩
  | i + 1, w, t, ⟨v, b, g, bn, r, e⟩, o, h => by
    subst e
    have lb : (v ++ [b]).getLastD 0 = b := by simp
    rw [lb] at h
    have ob : O (i + 1) b := o (i + 1) b (by rw [List.getElem?_append_right (by rw [g.len]; omega), g.len, Nat.sub_self]; rfl)
    have hi : i < m := by have := h.len; omega
    have := g.fit (t := b :: t) (fun j c e => o j c (by rw [List.getElem?_append_left ((List.getElem?_eq_some_iff.mp e).1)]; exact e)) (.go hi bn r ob h)
    simpa using this
theorem Tail.goes {i a : Nat} {w : List Nat} (h : Tail n m R O i a w) : ∀ {v : List Nat}, Goes n S R i v → v.getLastD 0 = a → (∀ (j b : Nat), v[j]? = some b → O j b) → Goes n S R m (v ++ w) ∧ ∀ (j b : Nat), (v ++ w)[j]? = some b → O j b := by
  induction h with
  | stop a =>
    intro v g e o
    rw [List.append_nil]
    exact ⟨g, o⟩
  | @go i a b w hi hb r o2 t ih =>
    intro v g e o
    have := ih (v := v ++ [b]) ⟨v, b, g, hb, by rw [e]; exact r, rfl⟩ (by simp) (fun j c ej => by
      by_cases hj : j < v.length
      · rw [List.getElem?_append_left hj] at ej
        exact o j c ej
      · rw [List.getElem?_append_right (by omega)] at ej
        have hj2 : j - v.length = 0 := by
          have := (List.getElem?_eq_some_iff.mp ej).1
          simp at this
          omega
        rw [hj2] at ej
        have ec : b = c := by simpa using ej
        have ejj : j = i + 1 := by have := g.len; omega
        rw [← ec, ejj]
        exact o2)
    simpa using this
/-- those rows that fit what was seen are the walks that fit -/
theorem fit_iff {w : List Nat} : Fit n m S R O w ↔ Goes n S R m w ∧ ∀ (j b : Nat), w[j]? = some b → O j b := by
  constructor
  · intro h
    cases w with
    | nil => exact h.elim
    | cons a w =>
      have := h.2.2.2.goes (S := S) (v := [a]) ⟨a, h.1, h.2.1, rfl⟩ rfl (fun j b e => by
        cases j with
        | zero => have : a = b := by simpa using e
                  rw [← this]; exact h.2.2.1
        | succ j => simp at e)
      simpa using this
  · rintro ⟨g, o⟩
    have := g.fit (t := []) o (.stop _)
    simpa using this
open Classical in
theorem rows_fit : ((rows n S R m).filter fun w => decide (∀ (j b : Nat), w[j]? = some b → O j b)) = walks n m S R O := by
  refine walks_of ((rows_sorted m).filter _) fun w => ?_
  rw [List.mem_filter, mem_rows, decide_eq_true_iff]
  exact fit_iff.symm
end RLM
/-! The numbers of walks: where a walk stands in the list of walks, which stands at a number. Plain mathematics. -/
namespace RLM
/-- lists grown at their beginning by the places xs -/
def grow (xs : List Nat) (f : Nat → List (List Nat)) : List (List Nat) := xs.flatMap fun b => (f b).map (b :: ·)
theorem grow_nil (f : Nat → List (List Nat)) : grow [] f = [] := rfl
theorem grow_cons (x : Nat) (xs : List Nat) (f : Nat → List (List Nat)) : grow (x :: xs) f = (f x).map (x :: ·) ++ grow xs f := rfl
theorem mem_grow {xs : List Nat} {f : Nat → List (List Nat)} {a : Nat} {v : List Nat} : (a :: v) ∈ grow xs f ↔ a ∈ xs ∧ v ∈ f a := by
  unfold grow
  rw [List.mem_flatMap]
  constructor
  · rintro ⟨b, hb, hw⟩
    obtain ⟨u, hu, e⟩ := List.mem_map.mp hw
    cases e
    exact ⟨hb, hu⟩
  · rintro ⟨h1, h2⟩
    exact ⟨a, h1, List.mem_map.mpr ⟨v, h2, rfl⟩⟩
theorem idx_map {a : Nat} {v : List Nat} : ∀ l : List (List Nat), (l.map (a :: ·)).idxOf (a :: v) = l.idxOf v
  | [] => rfl
  | u :: l => by
    rw [List.map_cons, List.idxOf_cons, List.idxOf_cons, idx_map l]
    by_cases e : u = v
    · subst e
      simp
    · have e2 : ¬ (a :: u = a :: v) := fun z => e (List.cons.inj z).2
      simp [e, e2]
/-- the number of a walk: those that begin lower, and where its rest stands among the rests -/
theorem idx_grow {f : Nat → List (List Nat)} {a : Nat} {v : List Nat} (hv : v ∈ f a) : ∀ {xs : List Nat}, xs.Pairwise (· < ·) → a ∈ xs →
    (grow xs f).idxOf (a :: v) = ((xs.filter fun b => decide (b < a)).map fun b => (f b).length).sum + (f a).idxOf v
  | [], _, h => by cases h
  | x :: xs, hx, h => by
    obtain ⟨h1, h2⟩ := List.pairwise_cons.mp hx
    rw [grow_cons, List.idxOf_append]
    by_cases e : x = a
    · subst e
      rw [if_pos (List.mem_map.mpr ⟨v, hv, rfl⟩), idx_map]
      have z : ((x :: xs).filter fun b => decide (b < x)) = [] := by
        rw [List.filter_eq_nil_iff]
        intro b hb
        rcases List.mem_cons.mp hb with e | hb
        · simp [e]
        · have := h1 b hb
          simp
          omega
      rw [z]
      simp
    · have ha : a ∈ xs := by
        rcases List.mem_cons.mp h with e2 | h
        · exact absurd e2.symm e
        · exact h
      have xa := h1 a ha
      rw [if_neg (fun z => by
        obtain ⟨u, _, e2⟩ := List.mem_map.mp z
        exact e (List.cons.inj e2).1), idx_grow hv h2 ha, List.filter_cons, if_pos (decide_eq_true xa), List.map_cons, List.sum_cons, List.length_map]
      omega
/-- the walk at a number: among those of the first place, or further on -/
theorem get_grow (x : Nat) (xs : List Nat) (f : Nat → List (List Nat)) (k : Nat) : (grow (x :: xs) f)[k]? = if k < (f x).length then ((f x)[k]?).map (x :: ·) else (grow xs f)[k - (f x).length]? := by
  rw [grow_cons]
  by_cases h : k < (f x).length
  · rw [if_pos h, List.getElem?_append_left (by rw [List.length_map]; exact h), List.getElem?_map]
  · rw [if_neg h, List.getElem?_append_right (by rw [List.length_map]; omega), List.length_map]
theorem len_grow (xs : List Nat) (f : Nat → List (List Nat)) : (grow xs f).length = (xs.map fun b => (f b).length).sum := by
  unfold grow
  rw [List.length_flatMap]
  congr 1
  exact List.map_congr_left fun b _ => List.length_map _
variable {n m : Nat} {S : Nat → Prop} {R : Nat → Nat → Nat → Prop} {O : Nat → Nat → Prop}
theorem tails_grow (k a : Nat) : tails n m R O (k + 1) a = grow (lotP n fun b => R (m - (k + 1)) a b ∧ O (m - k) b) (tails n m R O k) := by
  conv => lhs; unfold tails
  rfl
theorem walks_grow : walks n m S R O = grow (lotP n fun a => S a ∧ O 0 a) (tails n m R O m) := rfl
/-- numbers are ordered as the walks are -/
theorem num_lt {ws : List (List Nat)} (h : ws.Pairwise lexL) {i j : Nat} {v w : List Nat} (hi : ws[i]? = some v) (hj : ws[j]? = some w) : i < j ↔ lexL v w := by
  obtain ⟨i1, ei⟩ := List.getElem?_eq_some_iff.mp hi
  obtain ⟨j1, ej⟩ := List.getElem?_eq_some_iff.mp hj
  have key : ∀ (a b : Nat) (ha : a < ws.length) (hb : b < ws.length), a < b → lexL ws[a] ws[b] := fun a b ha hb hab => List.pairwise_iff_getElem.mp h a b ha hb hab
  constructor
  · intro k
    rw [← ei, ← ej]
    exact key i j i1 j1 k
  · intro l
    rcases Nat.lt_trichotomy i j with k | k | k
    · exact k
    · subst k
      rw [hi] at hj
      cases hj
      exact absurd l (lexL_irr _)
    · have := key j i j1 i1 k
      rw [ei, ej] at this
      exact absurd l (lexL_asym this)
theorem sorted_nodup {ws : List (List Nat)} (h : ws.Pairwise lexL) : ws.Nodup := h.imp fun {a b} r e => by
  subst e
  exact lexL_irr _ r
end RLM
/-! The fewest misses from a place on. Plain mathematics: c i b is how many triples of beat i place b misses. -/
namespace RLM
/-- misses behind a place at beat i -/
def costT (c : Nat → Nat → Nat) : Nat → List Nat → Nat
  | _, [] => 0
  | i, b :: w => c (i + 1) b + costT c (i + 1) w
section
variable (n m : Nat) (R : Nat → Nat → Nat → Prop) (c : Nat → Nat → Nat)
/-- v is the fewest that a walk misses from b on, at beat i -/
def LeastAt (i b v : Nat) : Prop := (∃ w, Tail n m R (fun _ _ => True) i b w ∧ c i b + costT c i w = v) ∧ ∀ w, Tail n m R (fun _ _ => True) i b w → v ≤ c i b + costT c i w
end
variable {n m : Nat} {R : Nat → Nat → Nat → Prop} {c : Nat → Nat → Nat}
theorem least_last {b : Nat} : LeastAt n m R c m b (c m b) := by
  refine ⟨⟨[], .stop b, rfl⟩, fun w h => ?_⟩
  omega
theorem least_step {i b e0 : Nat} {f : Nat → Nat} (hi : i < m) (hv : ∀ e, e < n → R i b e → LeastAt n m R c (i + 1) e (f e)) (h0 : e0 < n) (r0 : R i b e0) (mn : ∀ e, e < n → R i b e → f e0 ≤ f e) : LeastAt n m R c i b (c i b + f e0) := by
  constructor
  · obtain ⟨⟨w, t, e⟩, _⟩ := hv e0 h0 r0
    refine ⟨e0 :: w, .go hi h0 r0 trivial t, ?_⟩
    show c i b + (c (i + 1) e0 + costT c (i + 1) w) = _
    rw [e]
  · intro w t
    cases t with
    | stop => omega
    | @go _ _ e w _ he re _ t =>
      have h1 := (hv e he re).2 w t
      have h2 := mn e he re
      show c i b + f e0 ≤ c i b + (c (i + 1) e + costT c (i + 1) w)
      omega
theorem LeastAt.uniq {i b v v' : Nat} (h : LeastAt n m R c i b v) (h' : LeastAt n m R c i b v') : v = v' := by
  obtain ⟨⟨w, t, e⟩, l⟩ := h
  obtain ⟨⟨w', t', e'⟩, l'⟩ := h'
  have := l w' t'
  have := l' w t
  omega
end RLM
/-! The first walk that misses the fewest. Plain mathematics. -/
namespace RLM
/-- the least of a list -/
def minL : List Nat → Nat
  | [] => 0
  | a :: xs => match xs with
    | [] => a
    | _ :: _ => min a (minL xs)
theorem minL_mem : ∀ {xs : List Nat}, xs ≠ [] → minL xs ∈ xs
  | [], h => absurd rfl h
  | [a], _ => by simp [minL]
  | a :: b :: xs, _ => by
    have ih := minL_mem (xs := b :: xs) (by simp)
    show min a (minL (b :: xs)) ∈ _
    rcases Nat.le_total a (minL (b :: xs)) with h | h
    · rw [Nat.min_eq_left h]; simp
    · rw [Nat.min_eq_right h]; exact List.mem_cons_of_mem _ ih
theorem minL_le : ∀ {xs : List Nat} {x : Nat}, x ∈ xs → minL xs ≤ x
  | [], _, h => by cases h
  | [a], x, h => by
    have : x = a := by simpa using h
    subst this
    exact Nat.le_refl _
  | a :: b :: xs, x, h => by
    show min a (minL (b :: xs)) ≤ x
    rcases List.mem_cons.mp h with e | h
    · subst e; omega
    · have := minL_le h; omega
theorem minL_of {xs : List Nat} {v : Nat} (h : v ∈ xs) (l : ∀ a ∈ xs, v ≤ a) : v = minL xs := by
  have h1 := minL_le h
  have h2 := l _ (minL_mem (xs := xs) fun e => by rw [e] at h; cases h)
  omega
/-- the first with the least -/
def pickF (f : Nat → Nat) (xs : List Nat) : Nat := (xs.filter fun x => decide (f x = minL (xs.map f))).headD 0
theorem pick_ne {f : Nat → Nat} {xs : List Nat} (h : xs ≠ []) : ∃ ys, (xs.filter fun x => decide (f x = minL (xs.map f))) = pickF f xs :: ys := by
  have hm := minL_mem (xs := xs.map f) (by simpa using h)
  obtain ⟨x, hx, e⟩ := List.mem_map.mp hm
  have : x ∈ xs.filter fun x => decide (f x = minL (xs.map f)) := List.mem_filter.mpr ⟨hx, by simpa using e⟩
  unfold pickF
  cases e2 : xs.filter fun x => decide (f x = minL (xs.map f)) with
  | nil => rw [e2] at this; cases this
  | cons y ys => exact ⟨ys, rfl⟩
theorem pickF_mem {f : Nat → Nat} {xs : List Nat} (h : xs ≠ []) : pickF f xs ∈ xs ∧ f (pickF f xs) = minL (xs.map f) := by
  obtain ⟨ys, e⟩ := pick_ne (f := f) h
  have : pickF f xs ∈ xs.filter fun x => decide (f x = minL (xs.map f)) := by rw [e]; simp
  have := List.mem_filter.mp this
  exact ⟨this.1, by simpa using this.2⟩
theorem pickF_first {f : Nat → Nat} {xs : List Nat} (hs : xs.Pairwise (· < ·)) {x : Nat} (hx : x ∈ xs) (e : f x = minL (xs.map f)) : pickF f xs ≤ x := by
  obtain ⟨ys, e2⟩ := pick_ne (f := f) (xs := xs) fun z => by rw [z] at hx; cases hx
  have hp : (pickF f xs :: ys).Pairwise (· < ·) := by rw [← e2]; exact hs.filter _
  have hm : x ∈ pickF f xs :: ys := by rw [← e2]; exact List.mem_filter.mpr ⟨hx, by simpa using e⟩
  rcases List.mem_cons.mp hm with h | h
  · omega
  · have := (List.pairwise_cons.mp hp).1 x h
    omega
theorem pick_take {f : Nat → Nat} {xs : List Nat} (h : xs ≠ []) : (xs.filter fun x => decide (f x = minL (xs.map f))).take 1 = [pickF f xs] := by
  obtain ⟨ys, e⟩ := pick_ne (f := f) h
  rw [e]; rfl
section
variable (n m : Nat) (S : Nat → Prop) (R : Nat → Nat → Nat → Prop) (c : Nat → Nat → Nat)
/-- the fewest misses from a on, k beats before the last -/
noncomputable def leastN : Nat → Nat → Nat
  | 0, a => c m a
  | k + 1, a => c (m - (k + 1)) a + minL ((lotP n (R (m - (k + 1)) a)).map (leastN k))
/-- the first way on that misses so few -/
noncomputable def bestT : Nat → Nat → List Nat
  | 0, _ => []
  | k + 1, a => pickF (leastN n m R c k) (lotP n (R (m - (k + 1)) a)) :: bestT k (pickF (leastN n m R c k) (lotP n (R (m - (k + 1)) a)))
noncomputable def bestW : List Nat := pickF (leastN n m R c m) (lotP n S) :: bestT n m R c m (pickF (leastN n m R c m) (lotP n S))
/-- misses of a whole walk -/
def costW : List Nat → Nat
  | [] => 0
  | a :: w => c 0 a + costT c 0 w
end
variable {n m : Nat} {S : Nat → Prop} {R : Nat → Nat → Nat → Prop} {c : Nat → Nat → Nat}
theorem best_ok (hR : ∀ i a, i < m → a < n → R i a a) : ∀ {k a : Nat}, k ≤ m → a < n → Tail n m R (fun _ _ => True) (m - k) a (bestT n m R c k a) ∧ c (m - k) a + costT c (m - k) (bestT n m R c k a) = leastN n m R c k a ∧
    ∀ t, Tail n m R (fun _ _ => True) (m - k) a t → leastN n m R c k a ≤ c (m - k) a + costT c (m - k) t ∧ (leastN n m R c k a = c (m - k) a + costT c (m - k) t → t = bestT n m R c k a ∨ lexL (bestT n m R c k a) t)
  | 0, a, _, ha => by
    refine ⟨.stop a, rfl, fun t h => ?_⟩
    have := h.len
    have e : t = [] := List.eq_nil_of_length_eq_zero (by omega)
    subst e
    exact ⟨Nat.le_refl _, fun _ => .inl rfl⟩
  | k + 1, a, hk, ha => by
    have ne : lotP n (R (m - (k + 1)) a) ≠ [] := fun z => by
      have := mem_lotP.mpr ⟨ha, hR (m - (k + 1)) a (by omega) ha⟩
      rw [z] at this; cases this
    obtain ⟨p1, p2⟩ := pickF_mem (f := leastN n m R c k) ne
    obtain ⟨bn, br⟩ := mem_lotP.mp p1
    have first := fun {x : Nat} => pickF_first (f := leastN n m R c k) (x := x) (lotP_sorted n (R (m - (k + 1)) a))
    have e1 : m - k = m - (k + 1) + 1 := by omega
    unfold bestT leastN
    generalize pickF (leastN n m R c k) (lotP n (R (m - (k + 1)) a)) = b at p1 p2 bn br first
    obtain ⟨i1, i2, i3⟩ := best_ok hR (k := k) (a := b) (by omega) bn
    rw [e1] at i1 i2
    refine ⟨.go (by omega) bn br trivial i1, ?_, fun t h => ?_⟩
    · show c (m - (k + 1)) a + (c (m - (k + 1) + 1) b + costT c (m - (k + 1) + 1) (bestT n m R c k b)) = _
      rw [i2, p2]
    · generalize ei : m - (k + 1) = i at h e1 p1 p2 first
      cases h with
      | stop => omega
      | @go _ _ b' t _ hb r _ t' =>
        obtain ⟨j1, j2, j3⟩ := best_ok hR (k := k) (a := b') (by omega) hb
        have hmem : b' ∈ lotP n (R i a) := mem_lotP.mpr ⟨hb, r⟩
        have hle : minL ((lotP n (R i a)).map (leastN n m R c k)) ≤ leastN n m R c k b' := minL_le (List.mem_map.mpr ⟨b', hmem, rfl⟩)
        have j3' := j3 t (by rw [e1]; exact t')
        rw [e1] at j3'
        show c i a + _ ≤ c i a + (c (i + 1) b' + costT c (i + 1) t) ∧ (c i a + _ = c i a + (c (i + 1) b' + costT c (i + 1) t) → _)
        refine ⟨by omega, fun e => ?_⟩
        have e2 : leastN n m R c k b' = minL ((lotP n (R i a)).map (leastN n m R c k)) := by omega
        have le := first hmem e2
        rcases Nat.lt_or_ge b b' with z | z
        · exact .inr (.inl z)
        · have eb : b = b' := by omega
          subst eb
          rcases j3'.2 (by omega) with z | z
          · exact .inl (by rw [z])
          · exact .inr (.inr ⟨rfl, z⟩)
/-- the walk that is told: a walk, none misses fewer, and it is the first of those that miss so few -/
theorem bestW_ok (hR : ∀ i a, i < m → a < n → R i a a) (hS : ∃ a, a < n ∧ S a) : Fit n m S R (fun _ _ => True) (bestW n m S R c) ∧
    ∀ t, Fit n m S R (fun _ _ => True) t → costW c (bestW n m S R c) ≤ costW c t ∧ (costW c (bestW n m S R c) = costW c t → t = bestW n m S R c ∨ lexL (bestW n m S R c) t) := by
  have ne : lotP n S ≠ [] := fun z => by
    obtain ⟨a, h⟩ := hS
    have := mem_lotP.mpr h
    rw [z] at this; cases this
  obtain ⟨p1, p2⟩ := pickF_mem (f := leastN n m R c m) ne
  obtain ⟨bn, bs⟩ := mem_lotP.mp p1
  have first := fun {x : Nat} => pickF_first (f := leastN n m R c m) (x := x) (lotP_sorted n S)
  unfold bestW
  generalize pickF (leastN n m R c m) (lotP n S) = b at p1 p2 bn bs first
  obtain ⟨i1, i2, i3⟩ := best_ok (c := c) hR (k := m) (a := b) (Nat.le_refl _) bn
  rw [Nat.sub_self] at i1 i2 i3
  refine ⟨⟨bn, bs, trivial, i1⟩, fun t h => ?_⟩
  cases t with
  | nil => exact h.elim
  | cons b' t =>
    obtain ⟨hb, hs, _, t'⟩ := h
    have hmem : b' ∈ lotP n S := mem_lotP.mpr ⟨hb, hs⟩
    have hle : minL ((lotP n S).map (leastN n m R c m)) ≤ leastN n m R c m b' := minL_le (List.mem_map.mpr ⟨b', hmem, rfl⟩)
    obtain ⟨j1, j2, j3⟩ := best_ok (c := c) hR (k := m) (a := b') (Nat.le_refl _) hb
    rw [Nat.sub_self] at j1 j2 j3
    have j3' := j3 t t'
    show c 0 b + costT c 0 _ ≤ c 0 b' + costT c 0 t ∧ (c 0 b + costT c 0 _ = c 0 b' + costT c 0 t → _)
    refine ⟨by omega, fun e => ?_⟩
    have e2 : leastN n m R c m b' = minL ((lotP n S).map (leastN n m R c m)) := by omega
    have le := first hmem e2
    rcases Nat.lt_or_ge b b' with z | z
    · exact .inr (.inl z)
    · have eb : b = b' := by omega
      subst eb
      rcases j3'.2 (by omega) with z | z
      · exact .inl (by rw [z])
      · exact .inr (.inr ⟨rfl, z⟩)
/-- its cost, told by the rows of the fewest -/
theorem bestW_cost (hR : ∀ i a, i < m → a < n → R i a a) (hS : ∃ a, a < n ∧ S a) : costW c (bestW n m S R c) = minL ((lotP n S).map (leastN n m R c m)) := by
  have ne : lotP n S ≠ [] := fun z => by
    obtain ⟨a, h⟩ := hS
    have := mem_lotP.mpr h
    rw [z] at this; cases this
  obtain ⟨p1, p2⟩ := pickF_mem (f := leastN n m R c m) ne
  obtain ⟨bn, bs⟩ := mem_lotP.mp p1
  obtain ⟨i1, i2, i3⟩ := best_ok (c := c) hR (k := m) (Nat.le_refl _) bn
  rw [Nat.sub_self] at i1 i2
  unfold bestW
  show c 0 _ + costT c 0 _ = _
  rw [i2, p2]
/-- the first with the least count, of rising walks -/
theorem best_idx {ws : List (List Nat)} {g : List Nat → Nat} {W : List Nat} {i : Nat} (hs : ws.Pairwise lexL) (hW : W ∈ ws) (hb : ∀ t ∈ ws, g W ≤ g t ∧ (g W = g t → t = W ∨ lexL W t)) (hi : i < ws.length) (hv : g (ws[i]'hi) = minL (ws.map g)) (hf : ∀ j (hj : j < i), g (ws[j]'(by omega)) ≠ minL (ws.map g)) : ws[i]'hi = W := by
  have hm : g W = minL (ws.map g) := minL_of (List.mem_map.mpr ⟨W, hW, rfl⟩) fun a ha => by
    obtain ⟨t, ht, e⟩ := List.mem_map.mp ha
    rw [← e]; exact (hb t ht).1
  rcases (hb _ (List.getElem_mem hi)).2 (by rw [hv, hm]) with z | z
  · exact z
  · exfalso
    obtain ⟨j, hj, e⟩ := List.getElem_of_mem hW
    have hjs : ws[j]? = some W := by rw [List.getElem?_eq_getElem hj, e]
    have his : ws[i]? = some ws[i] := List.getElem?_eq_getElem hi
    have lt : j < i := (num_lt hs hjs his).2 z
    exact hf j lt (by rw [e]; exact hm)
section
variable {α : Type} (bt : α → Nat) (ms : α → Nat → Bool)
/-- how many of the rows of beat i miss the place b -/
def missG (l : List α) (i b : Nat) : Nat := (l.filter fun q => decide (bt q = i) && ms q b).length
theorem costT_zero : ∀ (w : List Nat) (i : Nat), costT (fun _ _ => 0) i w = 0
  | [], _ => rfl
  | b :: w, i => by show 0 + costT _ (i + 1) w = 0; rw [costT_zero w (i + 1)]
theorem costT_add {c d : Nat → Nat → Nat} : ∀ (w : List Nat) (i : Nat), costT (fun j b => c j b + d j b) i w = costT c i w + costT d i w
  | [], _ => rfl
  | b :: w, i => by
    show c (i + 1) b + d (i + 1) b + costT _ (i + 1) w = c (i + 1) b + costT c (i + 1) w + (d (i + 1) b + costT d (i + 1) w)
    rw [costT_add w (i + 1)]; omega
theorem costW_add {c d : Nat → Nat → Nat} (w : List Nat) : costW (fun j b => c j b + d j b) w = costW c w + costW d w := by
  cases w with
  | nil => rfl
  | cons a w =>
    show c 0 a + d 0 a + costT _ 0 w = c 0 a + costT c 0 w + (d 0 a + costT d 0 w)
    rw [costT_add]; omega
/-- one row alone -/
theorem costT_one {e : Nat} {t : Nat → Bool} : ∀ (w : List Nat) (i : Nat), costT (fun j b => if decide (e = j) && t b then 1 else 0) i w = if i < e ∧ e ≤ i + w.length ∧ t (w.getD (e - i - 1) 0) = true then 1 else 0
  | [], i => by
    rw [if_neg (by rintro ⟨h1, h2, _⟩; simp at h2; omega)]; rfl
  | b :: w, i => by
    show (if decide (e = i + 1) && t b then 1 else 0) + costT _ (i + 1) w = _
    rw [costT_one w (i + 1)]
    by_cases h : e = i + 1
    · subst h
      rw [if_neg (show ¬ (i + 1 < i + 1 ∧ _) from fun z => absurd z.1 (by omega)), show i + 1 - i - 1 = 0 by omega]
      simp
    · have h1 : decide (e = i + 1) = false := decide_eq_false h
      rw [h1, Bool.false_and, if_neg Bool.false_ne_true, Nat.zero_add]
      by_cases h2 : i + 1 < e
      · rw [show e - i - 1 = (e - (i + 1) - 1) + 1 by omega]
        congr 1
        simp only [List.length_cons, List.getD_cons_succ, eq_iff_iff]
        exact ⟨fun ⟨_, z2, z3⟩ => ⟨by omega, by omega, z3⟩, fun ⟨_, z2, z3⟩ => ⟨by omega, by omega, z3⟩⟩
      · rw [if_neg fun z => h2 z.1, if_neg fun z => by omega]
theorem costW_one {e : Nat} {t : Nat → Bool} {w : List Nat} (he : e < w.length) : costW (fun j b => if decide (e = j) && t b then 1 else 0) w = if t (w.getD e 0) = true then 1 else 0 := by
  cases w with
  | nil => simp at he
  | cons a w =>
    show (if decide (e = 0) && t a then 1 else 0) + costT _ 0 w = _
    rw [costT_one]
    rw [List.length_cons] at he
    cases e with
    | zero => simp
    | succ e =>
      rw [show e + 1 - 0 - 1 = e by omega]
      simp only [List.getD_cons_succ]
      rw [show decide (e + 1 = 0) = false from decide_eq_false (by omega), Bool.false_and, if_neg Bool.false_ne_true, Nat.zero_add]
      congr 1
      simp only [eq_iff_iff]
      exact ⟨fun z => z.2.2, fun z => ⟨by omega, by omega, z⟩⟩
theorem costW_zero (w : List Nat) : costW (fun _ _ => 0) w = 0 := by
  cases w with
  | nil => rfl
  | cons a w => show 0 + costT _ 0 w = 0; rw [costT_zero]
/-- what a walk misses, beat by beat or row by row -/
theorem costW_miss (w : List Nat) : ∀ (l : List α), (∀ q ∈ l, bt q < w.length) → costW (missG bt ms l) w = (l.filter fun q => ms q (w.getD (bt q) 0)).length
  | [], _ => costW_zero w
  | q :: l, h => by
    have e : missG bt ms (q :: l) = fun j b => (if decide (bt q = j) && ms q b then 1 else 0) + missG bt ms l j b := by
      funext j b
      unfold missG
      rw [List.filter_cons]
      split
      · rw [List.length_cons]; omega
      · omega
    rw [e, costW_add, costW_one (h q (by simp)), costW_miss w l fun r hr => h r (List.mem_cons_of_mem _ hr), List.filter_cons]
    split
    · rw [List.length_cons]; omega
    · omega
/-- one row more -/
theorem missG_snoc (l : List α) (q : α) (i b : Nat) : missG bt ms (l ++ [q]) i b = missG bt ms l i b + if decide (bt q = i) && ms q b then 1 else 0 := by
  unfold missG
  rw [List.filter_append, List.length_append]
  congr 1
  rw [List.filter_cons]
  split <;> rfl
theorem range_filt {p : Nat → Bool} {r : α → Bool} {l : List α} (h : ∀ k q, l[k]? = some q → p k = r q) : ((List.range l.length).filter p).length = (l.filter r).length := by
  have key : ∀ n, n ≤ l.length → ((List.range n).filter p).length = ((l.take n).filter r).length := fun n => by
    induction n with
    | zero => intro _; rfl
    | succ n ih =>
      intro hn
      have e : l[n]? = some (l[n]'(by omega)) := List.getElem?_eq_getElem _
      rw [List.range_succ, List.take_add_one, e, List.filter_append, List.filter_append, List.length_append, List.length_append, ih (by omega)]
      congr 1
      show ([n].filter p).length = ([l[n]'(by omega)].filter r).length
      rw [List.filter_cons, List.filter_cons, h n _ e]
      split <;> rfl
  have := key l.length (Nat.le_refl _)
  rwa [List.take_length] at this
end
section
variable {n m : Nat} {S : Nat → Prop} {R : Nat → Nat → Nat → Prop} {c : Nat → Nat → Nat}
theorem bestT_len : ∀ (k a : Nat), (bestT n m R c k a).length = k
  | 0, _ => rfl
  | k + 1, a => by
    unfold bestT
    rw [List.length_cons, bestT_len k]
theorem bestW_len : (bestW n m S R c).length = m + 1 := by
  unfold bestW
  rw [List.length_cons, bestT_len]
theorem bestT_next : ∀ {k a j b : Nat}, k ≤ m → j < k → (a :: bestT n m R c k a)[j]? = some b → (a :: bestT n m R c k a)[j + 1]? = some (pickF (leastN n m R c (k - (j + 1))) (lotP n (R (m - k + j) b)))
  | 0, a, j, b, _, hj, _ => by omega
  | k + 1, a, 0, b, hk, _, e => by
    have : a = b := by simpa using e
    subst this
    unfold bestT
    simp
  | k + 1, a, j + 1, b, hk, hj, e => by
    unfold bestT at e ⊢
    rw [List.getElem?_cons_succ] at e ⊢
    have := bestT_next (k := k) (j := j) (by omega) (by omega) e
    rw [this, show k + 1 - (j + 1 + 1) = k - (j + 1) by omega, show m - (k + 1) + (j + 1) = m - k + j by omega]
/-- place by place -/
theorem bestW_first : (bestW n m S R c)[0]? = some (pickF (leastN n m R c m) (lotP n S)) := rfl
theorem bestW_next {j b : Nat} (hj : j < m) (e : (bestW n m S R c)[j]? = some b) : (bestW n m S R c)[j + 1]? = some (pickF (leastN n m R c (m - (j + 1))) (lotP n (R j b))) := by
  have := bestT_next (Nat.le_refl m) hj e
  rw [Nat.sub_self, Nat.zero_add] at this
  exact this
end
end RLM
/-! Tables: which places are reached with at most so many misses. Plain mathematics. -/
namespace RLM
section
variable (n : Nat) (S : Nat → Prop) (R : Nat → Nat → Nat → Prop) (c : Nat → Nat → Nat)
/-- a walk so far ends in b at beat i and has missed k at most -/
def PreP : Nat → Nat → Nat → Prop
  | 0, k, b => b < n ∧ S b ∧ c 0 b ≤ k
  | i + 1, k, b => b < n ∧ ∃ a k', PreP i k' a ∧ R i a b ∧ k' + c (i + 1) b ≤ k
end
variable {n m : Nat} {S : Nat → Prop} {R : Nat → Nat → Nat → Prop} {c : Nat → Nat → Nat}
theorem PreP.lt {i k b : Nat} (h : PreP n S R c i k b) : b < n := by
  cases i with
  | zero => exact h.1
  | succ i => exact h.1
theorem PreP.mono {i k k' b : Nat} (h : PreP n S R c i k b) (hk : k ≤ k') : PreP n S R c i k' b := by
  cases i with
  | zero => exact ⟨h.1, h.2.1, Nat.le_trans h.2.2 hk⟩
  | succ i =>
    obtain ⟨bn, a, k0, h1, h2, h3⟩ := h
    exact ⟨bn, a, k0, h1, h2, Nat.le_trans h3 hk⟩
/-- misses of a walk, its last place apart -/
theorem costT_end : ∀ (w : List Nat) (i b : Nat), costT c i (w ++ [b]) = costT c i w + c (i + w.length + 1) b
  | [], i, b => by
    show c (i + 1) b + 0 = 0 + c (i + 0 + 1) b
    simp
  | a :: w, i, b => by
    show c (i + 1) a + costT c (i + 1) (w ++ [b]) = c (i + 1) a + costT c (i + 1) w + c (i + (w.length + 1) + 1) b
    rw [costT_end w (i + 1) b, show i + 1 + w.length + 1 = i + (w.length + 1) + 1 by omega]
    omega
theorem costW_end {w : List Nat} {b : Nat} (h : w ≠ []) : costW c (w ++ [b]) = costW c w + c w.length b := by
  cases w with
  | nil => exact absurd rfl h
  | cons a w =>
    show c 0 a + costT c 0 (w ++ [b]) = c 0 a + costT c 0 w + c (w.length + 1) b
    rw [costT_end, Nat.zero_add]
    omega
/-- such places are the ends of walks so far -/
theorem pre_iff : ∀ {i k b : Nat}, PreP n S R c i k b ↔ ∃ w, Goes n S R i w ∧ w.getLastD 0 = b ∧ costW c w ≤ k
  | 0, k, b => by
    constructor
    · rintro ⟨bn, s, h⟩
      refine ⟨[b], ⟨b, bn, s, rfl⟩, rfl, ?_⟩
      show c 0 b + 0 ≤ k
      omega
    · rintro ⟨w, ⟨a, an, s, e⟩, el, h⟩
      subst e
      have : a = b := el
      subst this
      have h : c 0 a + 0 ≤ k := h
      exact ⟨an, s, by omega⟩
  | i + 1, k, b => by
    constructor
    · rintro ⟨bn, a, k', h1, r, h2⟩
      obtain ⟨w, g, el, hc⟩ := pre_iff.1 h1
      have lw := g.len
      refine ⟨w ++ [b], ⟨w, b, g, bn, by rw [el]; exact r, rfl⟩, by simp, ?_⟩
      rw [costW_end (fun e => by rw [e] at lw; simp at lw), lw]
      omega
    · rintro ⟨w, ⟨v, b', g, bn, r, e⟩, el, h⟩
      subst e
      have : b' = b := by simpa using el
      subst this
      have lw := g.len
      rw [costW_end (fun e => by rw [e] at lw; simp at lw), lw] at h
      exact ⟨bn, v.getLastD 0, costW c v, pre_iff.2 ⟨v, g, rfl, Nat.le_refl _⟩, r, by omega⟩
/-- no walk misses k at most just where no place is reached so -/
theorem pre_last {k : Nat} : (∃ b, PreP n S R c m k b) ↔ ∃ w, Fit n m S R (fun _ _ => True) w ∧ costW c w ≤ k := by
  constructor
  · rintro ⟨b, h⟩
    obtain ⟨w, g, _, hc⟩ := pre_iff.1 h
    exact ⟨w, fit_iff.2 ⟨g, fun _ _ _ => trivial⟩, hc⟩
  · rintro ⟨w, f, hc⟩
    exact ⟨w.getLastD 0, pre_iff.2 ⟨w, (fit_iff.1 f).1, rfl, hc⟩⟩
/-- one row after another, by the least number that leads to a place -/
theorem pre_next {i k b : Nat} : PreP n S R c (i + 1) k b ↔ b < n ∧ ∃ k', (∃ a, PreP n S R c i k' a ∧ R i a b) ∧ k' + c (i + 1) b ≤ k :=
  ⟨fun ⟨bn, a, k', h1, h2, h3⟩ => ⟨bn, k', ⟨a, h1, h2⟩, h3⟩, fun ⟨bn, k', ⟨a, h1, h2⟩, h3⟩ => ⟨bn, a, k', h1, h2, h3⟩⟩
end RLM
namespace RL
open PySem PySem.Spec PyProof.Rows L2 RLM
/-- the steps that pace i lets -/
def stepR (E : List (Nat × Nat)) (PS : List (Addr × List Nat)) (i a b : Nat) : Prop := ∃ q, PS[i]? = some q ∧ Near E ((q.2.getD a 0 : Nat) : Int) a b
theorem forth_zero {n : Nat} {p : Nat → Prop} {R : Nat → Nat → Nat → Prop} {O : Nat → Nat → Prop} : lotP n (fun b => p b ∧ O 0 b) = lotP n (ForthP n p R O 0) := lotP_congr fun b hb => ⟨fun h => ⟨hb, h.1, h.2⟩, fun h => h.2⟩
theorem forth_next {n : Nat} {E : List (Nat × Nat)} {PS : List (Addr × List Nat)} {p : Nat → Prop} {O : Nat → Nat → Prop} {i : Nat} {q : Addr × List Nat} (hq : PS[i]? = some q) :
    lotP n (fun b => stepP n E q.2 (ForthP n p (stepR E PS) O i) b ∧ O (i + 1) b) = lotP n (ForthP n p (stepR E PS) O (i + 1)) := lotP_congr fun b hb => by
  constructor
  · rintro ⟨⟨a, an, fa, nr⟩, o⟩
    exact ⟨hb, o, a, fa, q, hq, nr⟩
  · rintro ⟨_, o, a, fa, q', hq', nr⟩
    rw [hq] at hq'
    cases hq'
    exact ⟨⟨a, fa.lt, fa, nr⟩, o⟩
theorem at1 {xs : List V} {j : Nat} {x : V} (h : xs[j + 1]? = some x) : atI xs (0 + (j : Int) + 1) = some x := by
  rw [Int.zero_add]
  exact atI_nat h
theorem at_last {us : List Addr} {u : Addr} : atI ((us ++ [u]).map V.ref) (-1) = some (V.ref u) := by
  rw [List.map_append]
  exact atI_last _ _
section
variable {P : Program} {w : World} {K : PySem.W.Frag} {mg : Str → Option Value} {base : Heap}
def spForth : Sp := fun vs H Q _ => ∃ (c D s : Addr) (n : Nat) (rs : List Addr) (M : Nat → Nat → Nat) (E : List (Nat × Nat)) (p : Nat → Prop) (PS : List (Addr × List Nat)) (SN : List (Addr × V × Triple)), vs = [.ref D, .ref s] ∧ n ≤ 8 ∧ TabAt c H D n rs M ∧ Spans n E M ∧ StoryAt n H s p PS SN ∧
  ∀ H' l, LotsAt n H' l (PS.length + 1) (ForthP n p (stepR E PS) (openP M SN)) → H l = none → Same H H' → Q (.ref l) H'
end
end RL
namespace RL
open PySem PySem.Spec PyProof.Rows L2 RLM
/-- any turns over a walk, whatever is done in a turn -/
theorem it_any {J : It} {n : Nat} {G : Hp → Prop} {Y : Nat → Hp → V → Hp → Prop} (w : Walk J n G Y) {B : (Hp → Prop) → V → Hp → Prop} {H0 : Hp} {Qd : Hp → Prop} (Pv : Nat → Hp → Prop) (h0 : Pv 0 H0) (hG : ∀ i H, i ≤ n → Pv i H → G H)
    (hs : ∀ i x H H', i < n → Pv i H → Y i H x H' → B (Pv (i + 1)) x H') (hd : ∀ H, Pv n H → Qd H) :
    ∃ W : Nat → Nat → Hp → Prop, (∃ m, W 0 m H0) ∧ ∀ i m H, W i m H → (J.stop i H ∧ Qd H) ∨ (J.go i H ∧ ∃ Nx : Hp → Prop, (∀ H', Nx H' → ∃ m', m' < m ∧ W (i + 1) m' H') ∧ ∀ x H', J.yld i H x H' → B Nx x H') := by
  refine ⟨fun i m H => m = n - i ∧ i ≤ n ∧ Pv i H, ⟨n, by simp, Nat.zero_le _, h0⟩, ?_⟩
  rintro i m H ⟨rfl, hi, p⟩
  have q := hG i H hi p
  by_cases lt : i < n
  · exact .inr ⟨w.goes i H lt q, Pv (i + 1), fun H' p' => ⟨n - (i + 1), by omega, rfl, lt, p'⟩, fun x H' y => hs i x H H' lt p (w.yields i H x H' lt q y)⟩
  · have e : i = n := by omega
    subst e
    exact .inl ⟨w.stops H q, hd H p⟩
theorem bf_far (n : Nat) (lp ll lf : Addr) : (bf n lp ll lf).lookup ("far" : Str) = none := by rfl
/-- spans and how far are one up to 8 -/
theorem min_far {n : Nat} {E : List (Nat × Nat)} {M : Nat → Nat → Nat} (S : Spans n E M) {a b k : Nat} (ha : a < n) (hb : b < n) (k7 : k ≤ 7) {d : Option Nat} (h : ∀ m : Int, (∃ j : Nat, d = some j ∧ (j : Int) ≤ m) ↔ Near E m a b) :
    min (M a b) (k + 1) = match d with
      | none => k + 1
      | some j => min j (k + 1) := by
  have key : ∀ m : Nat, m < 99 → (M a b ≤ m ↔ ∃ j, d = some j ∧ j ≤ m) := fun m hm => by
    have h1 := h (m : Int)
    have h2 := S.nr a b m ha hb (by omega)
    constructor
    · intro z
      obtain ⟨j, e, q⟩ := h1.2 (h2.1 (by omega))
      exact ⟨j, e, by omega⟩
    · rintro ⟨j, e, q⟩
      have := h2.2 (h1.1 ⟨j, e, by omega⟩)
      omega
  cases d with
  | none =>
    have : ¬ M a b ≤ k := fun z => by
      obtain ⟨j, e, _⟩ := (key k (by omega)).1 z
      cases e
    show min (M a b) (k + 1) = k + 1
    omega
  | some j =>
    show min (M a b) (k + 1) = min j (k + 1)
    have key2 : ∀ m : Nat, m < 99 → (M a b ≤ m ↔ j ≤ m) := fun m hm => by
      rw [key m hm]
      constructor
      · rintro ⟨i, e, q⟩
        cases e
        exact q
      · exact fun q => ⟨j, rfl, q⟩
    by_cases z : j ≤ k
    · have h1 := (key2 j (by omega)).2 (Nat.le_refl _)
      have h2 := (key2 (M a b) (by omega)).1 (Nat.le_refl _)
      omega
    · have h1 : ¬ M a b ≤ k := fun y => z ((key2 k (by omega)).1 y)
      omega
section
variable {P : Program} {w : World} {K : PySem.W.Frag} {mg : Str → Option Value} {base : Heap}
def spFar (K : PySem.W.Frag) : Sp := fun vs H Q _ => ∃ (c x : Addr) (n a b : Nat) (E : List (Nat × Nat)), vs = [.ref x, vI a, vI b] ∧ BoardAt K c H x n E ∧ a < n ∧ b < n ∧ ∀ d : Option Nat, (∀ m : Int, (∃ j : Nat, d = some j ∧ (j : Int) ≤ m) ↔ Near E m a b) → Q (vO d) H
theorem sc_Board_far : FnScope ["self", "one", "other"] ["self", "one", "other"] (defScope s_Board_far) := ⟨rfl, rfl, rfl, by decide +kernel, rfl, by decide +kernel, by decide +kernel⟩
theorem ok_far (T : Tx K mg) : Has P w K mg base (mB K "far") 4 ["self", "one", "other"] (spFar K) := by
  obtain ⟨⟨fd_check_place, F_check_place, b_check_place⟩, kp_check_place⟩ := ok_check (P := P) (w := w) (base := base) T
  obtain ⟨fd, F⟩ := T.d_Board_far
  refine ⟨⟨fd, F.ok sc_Board_far (fun vs H Q E h => ?_) (fun cdv A outer s H vs Q E hr h => ?_), F.bindsN fun _ _ _ _ _ _ us hl => match us, hl with | [_, _, _], _ => rfl⟩, F.kp⟩
  · obtain ⟨c, x, n, a, b, E, rfl, _⟩ := h
    rfl
  · obtain ⟨c, x, n, a, b, E, rfl, B, an, bn, h⟩ := h
    have hr_check_place : Room 3 _ := hr.mono (by decide)
    refine ⟨_, PSs.nox (pss_cons (ps_expr (pe_meth (pv 0) T.cl T.m_check_place F_check_place hr_check_place b_check_place .nil pass0 (pa_cons (pv 1) pa_nil)))
      (pss_cons (ps_expr (pe_meth (pv 0) T.cl T.m_check_place F_check_place hr_check_place b_check_place .nil pass0 (pa_cons (pv 2) pa_nil)))
      (pss_one (ps_ret (pe_ix (ixL (K := K)) (pe_ix (ixL (K := K)) (fldK (K := K) (pv 0) rfl) (pv 1) (fun _ _ => rfl)) (pv 2) (fun _ _ => rfl)))))), ?_⟩
    obtain ⟨dx, lp, ll, lf, L, ls, U, hx, h2, h3, h4, h5, h6, hlf, lfc, lU, eU⟩ := B.ex
    refine ⟨_, rfl, x, dx, _, rfl, hx, bf_check _ _ _ _, _, rfl, c, x, n, a, E, rfl, B, an, ?_⟩
    refine ⟨_, rfl, x, dx, _, rfl, hx, bf_check _ _ _ _, _, rfl, c, x, n, b, E, rfl, B, bn, ?_⟩
    obtain ⟨u, hu⟩ : ∃ u, U[a]? = some u := ⟨_, List.getElem?_eq_getElem (by rw [lU]; exact an)⟩
    obtain ⟨hul, uc, FF⟩ := eU a u hu
    have hb : u.2[b]? = some (u.2[b]'(by rw [FF.1]; exact bn)) := List.getElem?_eq_getElem _
    refine ⟨_, rfl, x, _, dx, _, _, rfl, hx, T.cl, T.n_fars, bf_fars _ _ _ _, _, rfl, lf, _, _, _, rfl, rfl, SqL.of hlf, atI_nat (get_map hu), ?_⟩
    exact ⟨_, rfl, u.1, _, _, _, rfl, rfl, SqL.of hul, atI_nat (get_map hb), h _ fun m => FF.2 b _ hb m⟩
def spNear (K : PySem.W.Frag) : Sp := fun vs H Q _ => ∃ (c x : Addr) (n a b k : Nat) (E : List (Nat × Nat)) (M : Nat → Nat → Nat), vs = [.ref x, vI a, vI b, vI k] ∧ BoardAt K c H x n E ∧ Spans n E M ∧ a < n ∧ b < n ∧ k ≤ 7 ∧ Q (vI (min (M a b) (k + 1))) H
theorem sc_near_answer : FnScope ["board", "place", "goal", "most", "far"] ["board", "place", "goal", "most"] (defScope s_near_answer) := ⟨rfl, rfl, rfl, by decide +kernel, rfl, by decide +kernel, by decide +kernel⟩
theorem ok_near (T : Tx K mg) : Has P w K mg base (He.ga K "near_answer") 5 ["board", "place", "goal", "most"] (spNear K) := by
  obtain ⟨⟨fd_far, F_far, b_far⟩, kp_far⟩ := ok_far (P := P) (w := w) (base := base) T
  obtain ⟨fd, F⟩ := T.d_near_answer
  refine ⟨⟨fd, F.ok sc_near_answer (fun vs H Q E h => ?_) (fun cdv A outer s H vs Q E hr h => ?_), F.bindsN fun _ _ _ _ _ _ us hl => match us, hl with | [_, _, _, _], _ => rfl⟩, F.kp⟩
  · obtain ⟨c, x, n, a, b, k, E, M, rfl, _⟩ := h
    rfl
  · obtain ⟨c, x, n, a, b, k, E, M, rfl, B, S, an, bn, k7, h⟩ := h
    have hr_far : Room 4 _ := hr.mono (by decide)
    refine ⟨_, PSs.nox (pss_cons (ps_set (i := 4) sc_near_answer.nd rfl (Or.inl rfl) (pe_meth (pv 0) T.cl T.m_far F_far hr_far b_far .nil pass0 (pa_cons (pv 1) (pa_cons (pv 2) pa_nil))))
      (pss_one (ps_ret (pe_ifExp (pt_cmpR op_isN (pv 4) pe_non (nomark _)) (pe_op op_add (pv 3) pe_int) (pe_callB (call_min2 rfl) (by rfl) T.free_min (by decide +kernel) (pa_cons (pv 4) (pa_cons (pe_op op_add (pv 3) pe_int) pa_nil))))))), ?_⟩
    obtain ⟨dx, lp, ll, lf, hx⟩ := B.obj
    refine ⟨_, rfl, x, dx, _, rfl, hx, bf_far _ _ _ _, _, rfl, _, rfl, c, x, n, a, b, E, rfl, B, an, bn, fun d hd => ?_⟩
    have e := min_far S an bn k7 hd
    rw [e] at h
    cases d with
    | none =>
      refine ⟨_, rfl, rfl, _, rfl, iteT ?_⟩
      exact ⟨_, rfl, _, _, rfl, rfl, h⟩
    | some j =>
      refine ⟨_, rfl, rfl, _, rfl, iteF ?_⟩
      refine ⟨_, rfl, _, rfl, _, _, rfl, rfl, _, _, rfl, ?_⟩
      have e2 : V.int (if ((k : Nat) : Int) + 1 < ((j : Nat) : Int) then ((k : Nat) : Int) + 1 else ((j : Nat) : Int)) = vI (min j (k + 1)) := by
        unfold vI
        congr 1
        split <;> omega
      show Q (V.int (if ((k : Nat) : Int) + 1 < ((j : Nat) : Int) then ((k : Nat) : Int) + 1 else ((j : Nat) : Int))) H
      rw [e2]
      exact h
end
end RL
namespace RL
open PySem PySem.Spec PyProof.Rows L2 RLM
/-- the places of all parts, in a row -/
noncomputable def allP (n : Nat) (ps : List (Nat → Prop)) : List Nat := ps.flatMap (lotP n)
theorem allP_perm {n : Nat} {ps : List (Nat → Prop)} (h : LookOk n (.parts ps)) : (allP n ps).Perm (List.range n) := by
  obtain ⟨_, cov, dis, _⟩ := h
  have nd : (allP n ps).Nodup := by
    unfold allP
    refine List.pairwise_flatMap.mpr ⟨fun p _ => (lotP_sorted n p).imp fun z => Nat.ne_of_lt z, ?_⟩
    rw [List.pairwise_iff_getElem]
    intro i j hi hj ij a ha b hb e
    subst e
    have h1 := mem_lotP.mp ha
    have h2 := mem_lotP.mp hb
    have := dis i j _ _ a (List.getElem?_eq_getElem hi) (List.getElem?_eq_getElem hj) h1.1 h1.2 h2.2
    omega
  refine (List.perm_ext_iff_of_nodup nd List.nodup_range).mpr fun b => ?_
  rw [List.mem_range]
  unfold allP
  rw [List.mem_flatMap]
  constructor
  · rintro ⟨p, _, hb⟩
    exact (mem_lotP.mp hb).1
  · intro bn
    obtain ⟨k, p, e, pb⟩ := cov b bn
    exact ⟨p, List.mem_of_getElem? e, mem_lotP.mpr ⟨bn, pb⟩⟩
theorem allP_take {n : Nat} {ps : List (Nat → Prop)} {i : Nat} {p : Nat → Prop} (h : ps[i]? = some p) : allP n (ps.take (i + 1)) = allP n (ps.take i) ++ lotP n p := by
  rw [List.take_add_one, h]
  unfold allP
  rw [List.flatMap_append]
  simp
theorem allP_len {n : Nat} {ps : List (Nat → Prop)} (h : LookOk n (.parts ps)) (i : Nat) : (allP n (ps.take i)).length ≤ n := by
  have e := (allP_perm h).length_eq
  rw [List.length_range] at e
  have : allP n ps = allP n (ps.take i) ++ allP n (ps.drop i) := by
    unfold allP
    rw [← List.flatMap_append, List.take_append_drop]
  rw [this, List.length_append] at e
  omega
section
variable {P : Program} {w : World} {K : PySem.W.Frag} {mg : Str → Option Value} {base : Heap}
def spFilled (K : PySem.W.Frag) : Sp := fun vs H Q _ => ∃ (c x t : Addr) (n : Nat) (E : List (Nat × Nat)) (p : Nat → Prop), vs = [.ref x, .ref t] ∧ BoardAt K c H x n E ∧ H t = some (.tup ((lotP n p).map vI)) ∧ (∃ b, b < n ∧ p b) ∧ ∀ H', Same H H' → Q (.bl true) H'
theorem sc_is_filled_lot : FnScope ["board", "lot"] ["board", "lot"] (defScope s_is_filled_lot) := ⟨rfl, rfl, rfl, by decide +kernel, rfl, by decide +kernel, by decide +kernel⟩
theorem ok_filled (T : Tx K mg) : Has P w K mg base (He.ga K "is_filled_lot") 4 ["board", "lot"] (spFilled K) := by
  obtain ⟨⟨fd_is_lot, F_is_lot, b_is_lot⟩, kp_is_lot⟩ := ok_is_lot (P := P) (w := w) (base := base) T
  obtain ⟨fd, F⟩ := T.d_is_filled_lot
  refine ⟨⟨fd, F.ok sc_is_filled_lot (fun vs H Q E h => ?_) (fun cdv A outer s H vs Q E hr h => ?_), F.bindsN fun _ _ _ _ _ _ us hl => match us, hl with | [_, _], _ => rfl⟩, F.kp⟩
  · obtain ⟨c, x, t, n, E, p, rfl, _⟩ := h
    rfl
  · obtain ⟨c, x, t, n, E, p, rfl, B, ht, ⟨b, bn, pb⟩, h⟩ := h
    have hr_is_lot : Room 3 _ := hr.mono (by decide)
    refine ⟨_, PSs.nox (pss_one (ps_ret (pe_and (pe_call F_is_lot hr_is_lot rfl T.glo_is_lot kp_is_lot b_is_lot .nil pass0 (pa_cons (pv 0) (pa_cons (pv 1) pa_nil))) (pe_one (pe_cmpR op_gt (pe_callB (lenK (K := K)) (by rfl) T.free_len (by decide +kernel) (pa_cons (pv 1) pa_nil)) pe_int (nomark _)))))), ?_⟩
    refine ⟨_, rfl, _, rfl, c, x, t, n, E, p, rfl, B, ht, fun H1 s1 => ⟨true, rfl, iteT ?_⟩⟩
    refine ⟨_, rfl, t, _, rfl, .inr (SqT.of (s1 _ _ ht)), _, _, rfl, rfl, ?_⟩
    have pos : 0 < ((lotP n p).map vI).length := by
      rw [List.length_map]
      exact List.length_pos_of_mem (mem_lotP.mpr ⟨bn, pb⟩)
    show Q (V.bl (decide ((0 : Int) < _))) H1
    rw [decide_eq_true (by omega)]
    exact h _ s1
def spParts (K : PySem.W.Frag) : Sp := fun vs H Q _ => ∃ (c x u : Addr) (n : Nat) (E : List (Nat × Nat)) (us : List Addr) (ps : List (Nat → Prop)), vs = [.ref x, .ref u] ∧ BoardAt K c H x n E ∧ H u = some (.tup (us.map V.ref)) ∧ us.length = ps.length ∧ (∀ (k : Nat) (a : Addr) (p : Nat → Prop), us[k]? = some a → ps[k]? = some p → H a = some (.tup ((lotP n p).map vI))) ∧ LookOk n (.parts ps) ∧ ∀ H', Same H H' → Q (.bl true) H'
theorem sc_are_parts : FnScope ["board", "lots", "lot", "place"] ["board", "lots"] (defScope s_are_parts) := ⟨rfl, rfl, rfl, by decide +kernel, rfl, by decide +kernel, by decide +kernel⟩
theorem ok_parts (T : Tx K mg) : Has P w K mg base (He.ga K "are_parts") 5 ["board", "lots"] (spParts K) := by
  obtain ⟨⟨fd_is_filled_lot, F_is_filled_lot, b_is_filled_lot⟩, kp_is_filled_lot⟩ := ok_filled (P := P) (w := w) (base := base) T
  obtain ⟨⟨fd_len, F_len, b_len⟩, kp_len⟩ := ok_len (P := P) (w := w) (base := base) T
  obtain ⟨fd, F⟩ := T.d_are_parts
  refine ⟨⟨fd, F.ok sc_are_parts (fun vs H Q E h => ?_) (fun cdv A outer s H vs Q E hr h => ?_), F.bindsN fun _ _ _ _ _ _ us hl => match us, hl with | [_, _], _ => rfl⟩, F.kp⟩
  · obtain ⟨c, x, u, n, E, us, ps, rfl, _⟩ := h
    rfl
  · obtain ⟨c, x, u, n, E, us, ps, rfl, B, hu, lu, hus, LO, h⟩ := h
    have hr_is_filled_lot : Room 4 _ := hr.mono (by decide)
    have hr_len : Room 2 _ := hr.mono (by decide)
    refine ⟨_, PSs.nox (pss_cons (ps_if (pt_not (pt_val (pe_callB (isiK (K := K)) (by rfl) T.free_isinstance (by decide +kernel) (pa_cons (pv 1) (pa_cons (pe_bltn (v := .ty "tuple") (u := .type "tuple") (by rfl) T.free_tuple (by decide +kernel) rfl) pa_nil))))) (pss_one (ps_ret pe_bl)) pss_nil)
      (pss_cons (ps_if (pt_not (pt_val (pe_callB (allK (K := K)) (by rfl) T.free_all (by decide +kernel) (pa_cons (pe_lc (own := [("lot", 2)]) (g := (gName 2)) (tt := tYes) rfl sc_are_parts.nd (piT (K := K) (pv 1)) (blkOk_by (by kernel_rfl)) (fun _ _ _ _ _ => (pg_name (i := 2) sc_are_parts.nd rfl (Or.inl rfl))) (fun _ _ _ _ _ => pts_nil) (fun _ _ _ _ _ => (pe_call F_is_filled_lot hr_is_filled_lot rfl T.glo_is_filled_lot kp_is_filled_lot b_is_filled_lot .nil pass0 (pa_cons (pv 0) (pa_cons (pv 2) pa_nil))))) pa_nil)))) (pss_one (ps_ret pe_bl)) pss_nil)
      (pss_one (ps_ret (pe_cmpR (eqD (K := K) hr.units) (pe_callB (sortLK (K := K)) (by rfl) T.free_sorted (by decide +kernel) (pa_cons (pe_lc2 (own := [("lot", 2), ("place", 3)]) (vs1 := [3]) (g := (gName 2)) (tt := tYes) (g1 := (gName 3)) (tt1 := tYes) rfl sc_are_parts.nd (piT (K := K) (pv 1)) (blkOk_by (by kernel_rfl)) (by decide) (fun _ _ _ _ _ => (pg_name (i := 2) sc_are_parts.nd rfl (Or.inl rfl))) (fun _ _ _ _ _ => pts_nil) (fun _ _ _ _ _ => (piT (K := K) (pv 2))) (fun _ _ _ _ _ => (pg_name (i := 3) sc_are_parts.nd rfl (Or.inl rfl))) (fun _ _ _ _ _ => pts_nil) (fun _ _ _ _ _ => (pv 3))) pa_nil)) (pe_listRg rfl (by rfl) T.free_list (prg_1 (by rfl) T.free_range (pe_callB (call_lenOwn T.m_len F_len b_len hr_len) (by rfl) T.free_len (by decide +kernel) (pa_cons (pv 0) pa_nil)))) (nomark _)))))), ?_⟩
    have n8 := B.hi
    obtain ⟨lps, cov, dis, non⟩ := id LO
    refine ⟨_, rfl, _, _, _, _, true, rfl, .ty _, .base (.tup hu), kit_ty (by decide +kernel), true, rfl, iteF ?_⟩
    refine ⟨_, rfl, u, rfl, ⟨_, SqT.of hu⟩, fun D hD => ?_⟩
    refine lc_val (walk_tup (K := K) (a := u) (xs := us.map V.ref)) (fun _ => .bl true) (by rw [List.length_map]; omega) hD (fun H1 s1 => SqT.of (s1 _ _ hu)) ?_ ?_
    · rintro i y H1 H2 Nx hi s1 ⟨rfl, hy⟩ k
      obtain ⟨a, ha, rfl⟩ := get_mapV hy
      have il : i < ps.length := by
        have := (List.getElem?_eq_some_iff.mp ha).1
        omega
      have hp : ps[i]? = some ps[i] := List.getElem?_eq_getElem il
      have hl := s1 _ _ (hus i a _ ha hp)
      obtain ⟨b, bn, pb⟩ := non _ (List.mem_of_getElem? hp)
      exact ⟨rfl, _, rfl, _, rfl, c, x, a, n, E, _, rfl, B.same s1, hl, ⟨b, bn, pb⟩, fun H3 s3 => k _ s3⟩
    · intro H1 h1 s1
      refine ⟨D, (List.range (us.map V.ref).length).map fun _ => true, rfl, SqL.of (by rw [h1, List.map_map]; rfl), _, rfl, ?_⟩
      rw [all_true (by simp)]
      refine iteF ?_
      have hu1 := s1 _ _ hu
      refine ⟨_, rfl, u, rfl, ⟨_, SqT.of hu1⟩, fun D2 hD2 => ?_⟩
      refine it_any (walk_tup (K := K) (a := u) (xs := us.map V.ref)) (fun i H2 => H2 D2 = some (.lst ((allP n (ps.take i)).map vI)) ∧ Same H1 H2) ⟨upd_same, same_upd hD2⟩ (fun i H2 _ ⟨_, s2⟩ => SqT.of (s2 _ _ hu1)) ?_ ?_
      · rintro i y H2 _ hi ⟨h2, s2⟩ ⟨rfl, hy⟩
        obtain ⟨a, ha, rfl⟩ := get_mapV hy
        have il : i < ps.length := by
          have := (List.getElem?_eq_some_iff.mp ha).1
          omega
        have hp : ps[i]? = some ps[i] := List.getElem?_eq_getElem il
        have s12 := s1.trans s2
        have hl := s12 _ _ (hus i a _ ha hp)
        refine ⟨rfl, yesT ?_⟩
        refine ⟨_, rfl, a, rfl, ⟨_, SqT.of hl⟩, ?_⟩
        refine it_any (walk_tup (K := K) (a := a) (xs := (lotP n ps[i]).map vI)) (fun j H3 => H3 D2 = some (.lst ((allP n (ps.take i) ++ (lotP n ps[i]).take j).map vI)) ∧ Same H1 H3 ∧ H3 a = some (.tup ((lotP n ps[i]).map vI))) ⟨by rw [List.take_zero, List.append_nil]; exact h2, s2, hl⟩ (fun j H3 _ z => SqT.of z.2.2) ?_ ?_
        · rintro j z H3 _ hj ⟨h3, s3, ha3⟩ ⟨rfl, hz⟩
          obtain ⟨b, hb, rfl⟩ := get_vI hz
          refine ⟨rfl, yesT ?_⟩
          have le := allP_len LO (i + 1)
          rw [allP_take hp, List.length_append] at le
          refine ⟨_, rfl, _, h3, ?_, ?_, same_mut s3 hD2, ?_⟩
          · rw [List.length_map, List.length_append, List.length_take]
            exact Nat.lt_of_le_of_lt (show _ ≤ 16 by omega) (by decide)
          · rw [upd_same, List.take_add_one, hb, ← List.append_assoc, List.map_append (l₁ := allP n (ps.take i) ++ (lotP n ps[i]).take j)]
            rfl
          · rw [upd_ne (ne_of ha3 h3 (by intro z; cases z))]
            exact ha3
        · rintro H3 ⟨h3, s3, _⟩
          rw [List.length_map, List.take_length, ← allP_take hp] at h3
          exact ⟨h3, s3⟩
      · rintro H2 ⟨h2, s2⟩
        rw [List.length_map, lu, List.take_length] at h2
        have pm := allP_perm LO
        have lp : (allP n ps).length = n := by rw [pm.length_eq, List.length_range]
        refine ⟨D2, (allP n ps).map nI, rfl, SqL.of (by rw [← vI_map]; exact h2), by rw [List.length_map]; omega, fun ms q pm2 so hq => ?_⟩
        have em := sorted_order pm pm2 so
        subst em
        have s3 := same_upd (o := HO.lst (((List.range n).map nI).map V.int)) hq
        have hq3 : (upd H2 q (.lst (((List.range n).map nI).map V.int))) q = some (.lst (((List.range n).map nI).map V.int)) := upd_same
        generalize upd H2 q (.lst (((List.range n).map nI).map V.int)) = H3 at s3 hq3
        have s13 := (s1.trans s2).trans s3
        have B3 := B.same s13
        obtain ⟨dx, q1, q2, q3, hx⟩ := B3.obj
        refine ⟨_, rfl, x, dx, _, rfl, hx, c, x, n, E, rfl, B3, (n : Int), rfl, by omega, by omega, (n : Int), rfl, RgOk.of_le (by decide) (by omega) (by decide) (by omega), fun r hr => ?_⟩
        have s4 := same_upd (o := HO.lst (rgV 0 (n : Int))) hr
        have er : rgV 0 (n : Int) = ((List.range n).map nI).map V.int := by rw [rg_range, vI_map]
        refine ⟨.list (((List.range n).map nI).map .int), .list (((List.range n).map nI).map .int), .lst (SqL.of (s4 _ _ hq3)) (dp_ints _), .lst (SqL.of (by rw [upd_same, er])) (dp_ints _), shaped_ints _, shaped_ints _, ?_⟩
        rw [SeqAt.eqv_refl _ (SeqAt.canLay_of_shaped (shaped_ints _))]
        exact h _ (s13.trans s4)
end
end RL
namespace RL
open PySem PySem.Spec PyProof.Rows L2 RLM
section
variable {P : Program} {w : World} {K : PySem.W.Frag} {mg : Str → Option Value} {base : Heap}
def spIsLook (K : PySem.W.Frag) : Sp := fun vs H Q _ => ∃ (c x : Addr) (v : V) (n : Nat) (E : List (Nat × Nat)) (L : Look), vs = [.ref x, v] ∧ BoardAt K c H x n E ∧ LookAt n H v L ∧ LookOk n L ∧ ∀ H', Same H H' → Q (.bl true) H'
theorem sc_is_look : FnScope ["board", "look"] ["board", "look"] (defScope s_is_look) := ⟨rfl, rfl, rfl, by decide +kernel, rfl, by decide +kernel, by decide +kernel⟩
theorem ok_is_look (T : Tx K mg) : Has P w K mg base (He.ga K "is_look") 6 ["board", "look"] (spIsLook K) := by
  obtain ⟨⟨fd_is_lot, F_is_lot, b_is_lot⟩, kp_is_lot⟩ := ok_is_lot (P := P) (w := w) (base := base) T
  obtain ⟨⟨fd_are_parts, F_are_parts, b_are_parts⟩, kp_are_parts⟩ := ok_parts (P := P) (w := w) (base := base) T
  obtain ⟨⟨fd_is_between, F_is_between, b_is_between⟩, kp_is_between⟩ := ok_is_between (P := P) (w := w) (base := base) T
  obtain ⟨⟨fd_len, F_len, b_len⟩, kp_len⟩ := ok_len (P := P) (w := w) (base := base) T
  obtain ⟨fd, F⟩ := T.d_is_look
  refine ⟨⟨fd, F.ok sc_is_look (fun vs H Q E h => ?_) (fun cdv A outer s H vs Q E hr h => ?_), F.bindsN fun _ _ _ _ _ _ us hl => match us, hl with | [_, _], _ => rfl⟩, F.kp⟩
  · obtain ⟨c, x, v, n, E, L, rfl, _⟩ := h
    rfl
  · obtain ⟨c, x, v, n, E, L, rfl, B, LA, LO, h⟩ := h
    have hr_is_lot : Room 3 _ := hr.mono (by decide)
    have hr_are_parts : Room 5 _ := hr.mono (by decide)
    have hr_is_between : Room 2 _ := hr.mono (by decide)
    have hr_len : Room 2 _ := hr.mono (by decide)
    refine ⟨_, PSs.nox (pss_cons (ps_if (PW.pt (pw_or (pt_not (pt_val (pe_callB (isiK (K := K)) (by rfl) T.free_isinstance (by decide +kernel) (pa_cons (pv 1) (pa_cons (pe_bltn (v := .ty "tuple") (u := .type "tuple") (by rfl) T.free_tuple (by decide +kernel) rfl) pa_nil))))) (pw_or1 (pt_cmpR op_eq (pe_callB (lenK (K := K)) (by rfl) T.free_len (by decide +kernel) (pa_cons (pv 1) pa_nil)) pe_int (nomark _))))) (pss_one (ps_ret pe_bl)) pss_nil)
      (pss_cons (ps_if (pt_cmpR op_eq (pe_ix (ixT (K := K)) (pv 1) pe_int (fun _ _ => rfl)) pe_str (nomark _)) (pss_one (ps_ret (pe_and (pe_cmpR op_eq (pe_callB (lenK (K := K)) (by rfl) T.free_len (by decide +kernel) (pa_cons (pv 1) pa_nil)) pe_int (nomark _)) (pe_one (pe_call F_is_lot hr_is_lot rfl T.glo_is_lot kp_is_lot b_is_lot .nil pass0 (pa_cons (pv 0) (pa_cons (pe_ix (ixT (K := K)) (pv 1) pe_int (fun _ _ => rfl)) pa_nil))))))) pss_nil)
      (pss_cons (ps_if (pt_cmpR op_eq (pe_ix (ixT (K := K)) (pv 1) pe_int (fun _ _ => rfl)) pe_str (nomark _)) (pss_one (ps_ret (pe_and (pe_cmpR op_eq (pe_callB (lenK (K := K)) (by rfl) T.free_len (by decide +kernel) (pa_cons (pv 1) pa_nil)) pe_int (nomark _)) (pe_one (pe_call F_are_parts hr_are_parts rfl T.glo_are_parts kp_are_parts b_are_parts .nil pass0 (pa_cons (pv 0) (pa_cons (pe_ix (ixT (K := K)) (pv 1) pe_int (fun _ _ => rfl)) pa_nil))))))) pss_nil)
      (pss_cons (ps_if (pt_cmpR op_eq (pe_ix (ixT (K := K)) (pv 1) pe_int (fun _ _ => rfl)) pe_str (nomark _)) (pss_one (ps_ret (pe_and (pe_cmpR op_eq (pe_callB (lenK (K := K)) (by rfl) T.free_len (by decide +kernel) (pa_cons (pv 1) pa_nil)) pe_int (nomark _)) (pe_and (pe_call F_is_between hr_is_between rfl T.glo_is_between kp_is_between b_is_between .nil pass0 (pa_cons (pe_ix (ixT (K := K)) (pv 1) pe_int (fun _ _ => rfl)) (pa_cons pe_int (pa_cons (pe_op op_sub (pe_callB (call_lenOwn T.m_len F_len b_len hr_len) (by rfl) T.free_len (by decide +kernel) (pa_cons (pv 0) pa_nil)) pe_int) pa_nil)))) (pe_one (pe_call F_is_between hr_is_between rfl T.glo_is_between kp_is_between b_is_between .nil pass0 (pa_cons (pe_ix (ixT (K := K)) (pv 1) pe_int (fun _ _ => rfl)) (pa_cons pe_int (pa_cons (pe_glob (v := .int 7) rfl T.glob_MOST_NEAR.choose_spec ⟨_, rfl⟩) pa_nil))))))))) pss_nil)
      (pss_one (ps_ret pe_bl)))))), ?_⟩
    have n8 := B.hi
    have n1 := B.lo
    cases L with
    | lot p =>
      obtain ⟨t, u, rfl, ht, hu⟩ := LA
      refine ⟨_, rfl, _, _, _, _, true, rfl, .ty _, .base (.tup ht), kit_ty (by decide +kernel), true, rfl, iteF ?_⟩
      refine ⟨_, rfl, t, _, rfl, .inr (SqT.of ht), rfl, _, rfl, iteF ?_⟩
      refine ⟨_, rfl, t, _, 0, _, rfl, rfl, SqT.of ht, rfl, rfl, _, rfl, iteT ?_⟩
      refine ⟨_, rfl, t, _, rfl, .inr (SqT.of ht), rfl, _, rfl, iteT ?_⟩
      exact ⟨_, rfl, _, rfl, t, _, 1, _, rfl, rfl, SqT.of ht, rfl, c, x, u, n, E, p, rfl, B, hu, h⟩
    | parts ps =>
      obtain ⟨t, u, us, rfl, ht, hu, lu, hus⟩ := LA
      refine ⟨_, rfl, _, _, _, _, true, rfl, .ty _, .base (.tup ht), kit_ty (by decide +kernel), true, rfl, iteF ?_⟩
      refine ⟨_, rfl, t, _, rfl, .inr (SqT.of ht), rfl, _, rfl, iteF ?_⟩
      refine ⟨_, rfl, t, _, 0, _, rfl, rfl, SqT.of ht, rfl, rfl, _, rfl, iteF ?_⟩
      refine ⟨_, rfl, t, _, 0, _, rfl, rfl, SqT.of ht, rfl, rfl, _, rfl, iteT ?_⟩
      refine ⟨_, rfl, t, _, rfl, .inr (SqT.of ht), rfl, _, rfl, iteT ?_⟩
      exact ⟨_, rfl, _, rfl, t, _, 1, _, rfl, rfl, SqT.of ht, rfl, c, x, u, n, E, us, ps, rfl, B, hu, lu, hus, LO, h⟩
    | near d k =>
      obtain ⟨t, rfl, ht⟩ := LA
      refine ⟨_, rfl, _, _, _, _, true, rfl, .ty _, .base (.tup ht), kit_ty (by decide +kernel), true, rfl, iteF ?_⟩
      refine ⟨_, rfl, t, _, rfl, .inr (SqT.of ht), rfl, _, rfl, iteF ?_⟩
      refine ⟨_, rfl, t, _, 0, _, rfl, rfl, SqT.of ht, rfl, rfl, _, rfl, iteF ?_⟩
      refine ⟨_, rfl, t, _, 0, _, rfl, rfl, SqT.of ht, rfl, rfl, _, rfl, iteF ?_⟩
      refine ⟨_, rfl, t, _, 0, _, rfl, rfl, SqT.of ht, rfl, rfl, _, rfl, iteT ?_⟩
      refine ⟨_, rfl, t, _, rfl, .inr (SqT.of ht), rfl, _, rfl, iteT ?_⟩
      obtain ⟨dx, q1, q2, q3, hx⟩ := B.obj
      have k1 := LO.1
      have k2 := LO.2
      refine ⟨_, rfl, t, _, 1, _, rfl, rfl, SqT.of ht, rfl, _, rfl, x, dx, _, rfl, hx, c, x, n, E, rfl, B, (n : Int), rfl, by omega, by omega, _, _, rfl, rfl, _, _, _, rfl, _, rfl, ?_⟩
      show if decide ((0 : Int) ≤ (d : Nat) ∧ ((d : Nat) : Int) ≤ (n : Int) - 1) = true then _ else _
      rw [decide_eq_true (show (0 : Int) ≤ (d : Nat) ∧ ((d : Nat) : Int) ≤ (n : Int) - 1 from ⟨by omega, by omega⟩)]
      refine iteT ?_
      refine ⟨_, rfl, t, _, 2, _, rfl, rfl, SqT.of ht, rfl, _, _, _, rfl, ?_⟩
      rw [decide_eq_true (show (0 : Int) ≤ (k : Nat) ∧ ((k : Nat) : Int) ≤ 7 from ⟨by omega, by omega⟩)]
      exact h H fun _ _ e => e
def spAnswers (K : PySem.W.Frag) : Sp := fun vs H Q _ => ∃ (c x : Addr) (v : V) (n : Nat) (E : List (Nat × Nat)) (M : Nat → Nat → Nat) (L : Look), vs = [.ref x, v] ∧ BoardAt K c H x n E ∧ Spans n E M ∧ LookAt n H v L ∧ LookOk n L ∧ ∀ H' t, H' t = some (.tup (((List.range n).map (ans M L)).map vI)) → Same H H' → Q (.ref t) H'
theorem sc_answers : FnScope ["board", "look", "places", "place", "number", "lot"] ["board", "look"] (defScope s_answers) := ⟨rfl, rfl, rfl, by decide +kernel, rfl, by decide +kernel, by decide +kernel⟩
theorem ok_answers (T : Tx K mg) : Has P w K mg base (He.ga K "answers") 7 ["board", "look"] (spAnswers K) := by
  obtain ⟨⟨fd_is_look, F_is_look, b_is_look⟩, kp_is_look⟩ := ok_is_look (P := P) (w := w) (base := base) T
  obtain ⟨⟨fd_near_answer, F_near_answer, b_near_answer⟩, kp_near_answer⟩ := ok_near (P := P) (w := w) (base := base) T
  obtain ⟨⟨fd_len, F_len, b_len⟩, kp_len⟩ := ok_len (P := P) (w := w) (base := base) T
  obtain ⟨fd, F⟩ := T.d_answers
  refine ⟨⟨fd, F.ok sc_answers (fun vs H Q E h => ?_) (fun cdv A outer s H vs Q E hr h => ?_), F.bindsN fun _ _ _ _ _ _ us hl => match us, hl with | [_, _], _ => rfl⟩, F.kp⟩
  · obtain ⟨c, x, v, n, E, M, L, rfl, _⟩ := h
    rfl
  · obtain ⟨c, x, v, n, E, M, L, rfl, B0, S, LA0, LO, h0⟩ := h
    have hr_is_look : Room 6 _ := hr.mono (by decide)
    have hr_near_answer : Room 5 _ := hr.mono (by decide)
    have hr_len : Room 2 _ := hr.mono (by decide)
    refine ⟨_, PSs.nox (pss_cons (ps_if (pt_not (pt_val (pe_call F_is_look hr_is_look rfl T.glo_is_look kp_is_look b_is_look .nil pass0 (pa_cons (pv 0) (pa_cons (pv 1) pa_nil))))) (pss_one ps_never) pss_nil)
      (pss_cons (ps_set (i := 2) sc_answers.nd rfl (Or.inl rfl) (pe_listRg rfl (by rfl) T.free_list (prg_1 (by rfl) T.free_range (pe_callB (call_lenOwn T.m_len F_len b_len hr_len) (by rfl) T.free_len (by decide +kernel) (pa_cons (pv 0) pa_nil)))))
      (pss_cons (ps_if (pt_cmpR op_eq (pe_ix (ixT (K := K)) (pv 1) pe_int (fun _ _ => rfl)) pe_str (nomark _)) (pss_one (ps_ret (pe_callTy (tupK (K := K)) (by rfl) T.free_tuple (by decide +kernel) (pa_cons (pe_lc (own := [("place", 3)]) (g := (gName 3)) (tt := tYes) rfl sc_answers.nd (piL (K := K) (pv 2)) (blkOk_by (by kernel_rfl)) (fun _ _ _ _ _ => (pg_name (i := 3) sc_answers.nd rfl (Or.inl rfl))) (fun _ _ _ _ _ => pts_nil) (fun _ _ _ _ _ => (pe_ifExp (pt_cmpR (inSq (K := K)) (pv 3) (pe_ix (ixT (K := K)) (pv 1) pe_int (fun _ _ => rfl)) (by rfl)) pe_int pe_int))) pa_nil)))) pss_nil)
      (pss_cons (ps_if (pt_cmpR op_eq (pe_ix (ixT (K := K)) (pv 1) pe_int (fun _ _ => rfl)) pe_str (nomark _)) (pss_one (ps_ret (pe_callTy (tupK (K := K)) (by rfl) T.free_tuple (by decide +kernel) (pa_cons (pe_lc2 (own := [("place", 3), ("number", 4), ("lot", 5)]) (vs1 := [4, 5]) (g := (gName 3)) (tt := tYes) rfl sc_answers.nd (piL (K := K) (pv 2)) (blkOk_by (by kernel_rfl)) (by decide) (fun _ _ _ _ _ => (pg_name (i := 3) sc_answers.nd rfl (Or.inl rfl))) (fun _ _ _ _ _ => pts_nil) (fun _ _ _ _ _ => (piEnumT (K := K) (by rfl) T.free_enumerate (pa_cons (pe_ix (ixT (K := K)) (pv 1) pe_int (fun _ _ => rfl)) pa_nil))) (fun _ _ _ _ _ => (pgT (K := K) (n := 2) rfl (pgs_cons (pg_name (i := 4) sc_answers.nd rfl (Or.inl rfl)) (pgs_cons (pg_name (i := 5) sc_answers.nd rfl (Or.inl rfl)) pgs_nil)))) (fun _ _ _ _ _ => (pts_one (pt_cmpR (inSq (K := K)) (pv 3) (pv 5) (by rfl)))) (fun _ _ _ _ _ => (pv 4))) pa_nil)))) pss_nil)
      (pss_one (ps_ret (pe_callTy (tupK (K := K)) (by rfl) T.free_tuple (by decide +kernel) (pa_cons (pe_lc (own := [("place", 3)]) (g := (gName 3)) (tt := tYes) rfl sc_answers.nd (piL (K := K) (pv 2)) (blkOk_by (by kernel_rfl)) (fun _ _ _ _ _ => (pg_name (i := 3) sc_answers.nd rfl (Or.inl rfl))) (fun _ _ _ _ _ => pts_nil) (fun _ _ _ _ _ => (pe_call F_near_answer hr_near_answer rfl T.glo_near_answer kp_near_answer b_near_answer .nil pass0 (pa_cons (pv 0) (pa_cons (pv 3) (pa_cons (pe_ix (ixT (K := K)) (pv 1) pe_int (fun _ _ => rfl)) (pa_cons (pe_ix (ixT (K := K)) (pv 1) pe_int (fun _ _ => rfl)) pa_nil))))))) pa_nil)))))))), ?_⟩
    refine ⟨_, rfl, _, rfl, c, x, v, n, E, L, rfl, B0, LA0, LO, fun H1 s1 => ⟨_, rfl, iteF ?_⟩⟩
    have n8 := B0.hi
    have n1 := B0.lo
    have B1 := B0.same s1
    obtain ⟨dx, q1, q2, q3, hx⟩ := B1.obj
    refine ⟨_, rfl, x, dx, _, rfl, hx, c, x, n, E, rfl, B1, (n : Int), rfl, by omega, by omega, (n : Int), rfl, RgOk.of_le (by decide) (by omega) (by decide) (by omega), fun r hr => ?_⟩
    have s2 := same_upd (o := HO.lst (rgV 0 (n : Int))) hr
    have hr2 : (upd H1 r (.lst (rgV 0 (n : Int)))) r = some (.lst ((List.range n).map vI)) := by rw [upd_same, rg_range]
    generalize upd H1 r (.lst (rgV 0 (n : Int))) = H2 at s2 hr2
    have s12 := s1.trans s2
    have B := B0.same s12
    have LA := LA0.same s12
    have h : ∀ H' t, H' t = some (.tup (((List.range n).map (ans M L)).map vI)) → Same H2 H' → Q (.ref t) H' := fun H' t e s => h0 H' t e (s12.trans s)
    clear hx B1 h0
    cases L with
    | lot p =>
      obtain ⟨t, u, rfl, ht, hu⟩ := LA
      refine ⟨_, rfl, t, _, 0, _, rfl, rfl, SqT.of ht, rfl, rfl, _, rfl, iteT ?_⟩
      refine ⟨_, rfl, r, rfl, ⟨_, SqL.of hr2⟩, fun D hD => ?_⟩
      refine lc_val (walk_list (K := K) (a := r) (xs := (List.range n).map vI)) (fun i => vI (ans M (.lot p) i)) (by simp; omega) hD (fun H3 s3 => SqL.of (s3 _ _ hr2)) ?_ ?_
      · rintro i y H3 H4 Nx hi s3 ⟨rfl, hy⟩ k
        obtain ⟨b, hb, rfl⟩ := get_vI hy
        obtain ⟨bn, rfl⟩ : i < n ∧ b = i := by
          have := List.getElem?_eq_some_iff.mp hb
          obtain ⟨z1, z2⟩ := this
          rw [List.getElem_range] at z2
          rw [List.length_range] at z1
          exact ⟨z1, z2.symm⟩
        refine ⟨rfl, _, rfl, _, rfl, t, _, 1, _, rfl, rfl, SqT.of (s3 _ _ ht), rfl, u, _, rfl, .inr (SqT.of (s3 _ _ hu)), rfl, flat_vI _, _, rfl, ?_⟩
        show if inV (vI b) ((lotP n p).map vI) = true then _ else _
        rw [in_lot]
        refine ite2 (fun z => ?_) (fun z => ?_)
        · have := k H4 fun _ _ e => e
          rw [ans_in (mem_lotP.mp (of_decide_eq_true z)).2] at this
          exact this
        · have := k H4 fun _ _ e => e
          rw [ans_out fun pb => z (decide_eq_true (mem_lotP.mpr ⟨bn, pb⟩))] at this
          exact this
      · intro H3 h3 s3
        rw [List.length_map, List.length_range] at h3
        refine ⟨D, _, rfl, .inl ⟨SqL.of h3, fun q hq => ?_⟩⟩
        exact h _ q (by rw [upd_same, range_vI]) (s3.trans (same_upd hq))
    | parts ps =>
      obtain ⟨t, u, us, rfl, ht, hu, lu, hus⟩ := LA
      refine ⟨_, rfl, t, _, 0, _, rfl, rfl, SqT.of ht, rfl, rfl, _, rfl, iteF ?_⟩
      refine ⟨_, rfl, t, _, 0, _, rfl, rfl, SqT.of ht, rfl, rfl, _, rfl, iteT ?_⟩
      refine ⟨_, rfl, r, rfl, ⟨_, SqL.of hr2⟩, fun D hD => ?_⟩
      obtain ⟨lps, cov, dis, non⟩ := id LO
      refine it_any (walk_list (K := K) (a := r) (xs := (List.range n).map vI)) (fun i H3 => H3 D = some (.lst (((List.range i).map (ans M (.parts ps))).map vI)) ∧ Same H2 H3) ⟨upd_same, same_upd hD⟩ (fun i H3 _ ⟨_, s3⟩ => SqL.of (s3 _ _ hr2)) ?_ ?_
      · rintro i y H3 _ hi ⟨h3, s3⟩ ⟨rfl, hy⟩
        obtain ⟨b, hb, rfl⟩ := get_vI hy
        obtain ⟨bn, rfl⟩ : i < n ∧ b = i := by
          have := List.getElem?_eq_some_iff.mp hb
          obtain ⟨z1, z2⟩ := this
          rw [List.getElem_range] at z2
          rw [List.length_range] at z1
          exact ⟨z1, z2.symm⟩
        obtain ⟨k0, p0, e0, pb0⟩ := cov b bn
        have fe : ps.findIdx (fun p => decB (p b)) = k0 := by
          have k0l : k0 < ps.length := (List.getElem?_eq_some_iff.mp e0).1
          have fl : ps.findIdx (fun p => decB (p b)) < ps.length := List.findIdx_lt_length_of_exists ⟨p0, List.mem_of_getElem? e0, decB_true.mpr pb0⟩
          have ft := List.findIdx_getElem (p := fun p : Nat → Prop => decB (p b)) (w := fl)
          exact dis _ _ _ _ b (List.getElem?_eq_getElem fl) e0 bn (decB_true.mp ft) pb0
        refine ⟨rfl, yesT ?_⟩
        refine ⟨_, rfl, t, _, 1, _, rfl, rfl, SqT.of (s3 _ _ ht), rfl, u, _, rfl, SqT.of (s3 _ _ hu), ?_⟩
        refine it_any (walk_enumT (K := K) (a := u) (xs := us.map V.ref)) (fun j H4 => H4 D = some (.lst (((List.range b).map (ans M (.parts ps)) ++ (if k0 < j then [k0] else [])).map vI)) ∧ Same H2 H4) ⟨by rw [if_neg (Nat.not_lt_zero _), List.append_nil]; exact h3, s3⟩ (fun j H4 _ z => SqT.of (z.2 _ _ hu)) ?_ ?_
        · rintro j z H4 H5 hj ⟨h4, s4⟩ ⟨T1, y1, y2, rfl, hT, rfl, e1, e2⟩
          cases (Option.some.inj e1)
          obtain ⟨a, ha, rfl⟩ := get_mapV (show (us.map V.ref)[j]? = some y2 from e2)
          have jl : j < ps.length := by
            have := (List.getElem?_eq_some_iff.mp ha).1
            omega
          have hp : ps[j]? = some ps[j] := List.getElem?_eq_getElem jl
          have s5 : Same H4 (upd H4 T1 (.tup [.int (j : Nat), .ref a])) := same_upd hT
          have h5 := s5 _ _ h4
          have s25 := s4.trans s5
          have hT5 : (upd H4 T1 (.tup [.int (j : Nat), .ref a])) T1 = some (.tup [.int (j : Nat), .ref a]) := upd_same
          generalize upd H4 T1 (.tup [.int (j : Nat), .ref a]) = H5 at h5 s25 hT5
          refine ⟨T1, _, rfl, SqT.of hT5, rfl, _, _, rfl, _, _, rfl, rfl, rfl, ?_⟩
          refine ⟨_, rfl, _, rfl, a, _, rfl, .inr (SqT.of (s25 _ _ (hus j a _ ha hp))), rfl, flat_vI _, _, rfl, ?_⟩
          show if inV (vI b) ((lotP n ps[j]).map vI) = true then _ else _
          rw [in_lot]
          refine ite2 (fun z => ?_) (fun z => ?_)
          · have ej : j = k0 := dis _ _ _ _ b hp e0 bn (mem_lotP.mp (of_decide_eq_true z)).2 pb0
            subst ej
            rw [if_neg (Nat.lt_irrefl _), List.append_nil] at h5
            refine ⟨_, rfl, _, h5, ?_, ?_, same_mut s25 hD⟩
            · rw [List.length_map, List.length_map, List.length_range]
              exact Nat.lt_of_le_of_lt (show b ≤ 8 by omega) (by decide)
            · rw [upd_same, if_pos (Nat.lt_succ_self _), List.map_append]
              rfl
          · have nj : j ≠ k0 := fun e => z (decide_eq_true (mem_lotP.mpr ⟨bn, by
              subst e
              rw [hp] at e0
              cases e0
              exact pb0⟩))
            refine ⟨?_, s25⟩
            rw [h5]
            by_cases lt : k0 < j
            · rw [if_pos lt, if_pos (by omega)]
            · rw [if_neg lt, if_neg (by omega)]
        · rintro H4 ⟨h4, s4⟩
          have k0l : k0 < ps.length := (List.getElem?_eq_some_iff.mp e0).1
          rw [List.length_map, if_pos (by omega)] at h4
          refine ⟨?_, s4⟩
          rw [h4, List.range_succ, List.map_append (f := ans M (.parts ps)), ← fe]
          rfl
      · rintro H3 ⟨h3, s3⟩
        rw [List.length_map, List.length_range] at h3
        refine ⟨D, _, rfl, .inl ⟨SqL.of h3, fun q hq => ?_⟩⟩
        exact h _ q upd_same (s3.trans (same_upd hq))
    | near d k =>
      obtain ⟨t, rfl, ht⟩ := LA
      refine ⟨_, rfl, t, _, 0, _, rfl, rfl, SqT.of ht, rfl, rfl, _, rfl, iteF ?_⟩
      refine ⟨_, rfl, t, _, 0, _, rfl, rfl, SqT.of ht, rfl, rfl, _, rfl, iteF ?_⟩
      refine ⟨_, rfl, r, rfl, ⟨_, SqL.of hr2⟩, fun D hD => ?_⟩
      refine lc_val (walk_list (K := K) (a := r) (xs := (List.range n).map vI)) (fun i => vI (ans M (.near d k) i)) (by simp; omega) hD (fun H3 s3 => SqL.of (s3 _ _ hr2)) ?_ ?_
      · rintro i y H3 H4 Nx hi s3 ⟨rfl, hy⟩ kk
        obtain ⟨b, hb, rfl⟩ := get_vI hy
        obtain ⟨bn, rfl⟩ : i < n ∧ b = i := by
          have := List.getElem?_eq_some_iff.mp hb
          obtain ⟨z1, z2⟩ := this
          rw [List.getElem_range] at z2
          rw [List.length_range] at z1
          exact ⟨z1, z2.symm⟩
        refine ⟨rfl, _, rfl, _, rfl, _, rfl, t, _, 1, _, rfl, rfl, SqT.of (s3 _ _ ht), rfl, _, rfl, t, _, 2, _, rfl, rfl, SqT.of (s3 _ _ ht), rfl, ?_⟩
        exact ⟨c, x, n, b, d, k, E, M, rfl, B.same s3, S, bn, LO.1, LO.2, kk _ fun _ _ e => e⟩
      · intro H3 h3 s3
        rw [List.length_map, List.length_range] at h3
        refine ⟨D, _, rfl, .inl ⟨SqL.of h3, fun q hq => ?_⟩⟩
        exact h _ q (by rw [upd_same, range_vI]) (s3.trans (same_upd hq))
def spLotOf (K : PySem.W.Frag) : Sp := fun vs H Q _ => ∃ (c x : Addr) (v : V) (n a : Nat) (E : List (Nat × Nat)) (M : Nat → Nat → Nat) (L : Look), vs = [.ref x, v, vI a] ∧ BoardAt K c H x n E ∧ Spans n E M ∧ LookAt n H v L ∧ LookOk n L ∧ ∀ H' t, H' t = some (.tup ((lotP n fun b => ans M L b = a).map vI)) → Same H H' → Q (.ref t) H'
end
end RL
namespace RL
open PySem PySem.Spec PyProof.Rows L2 RLM
section
variable {P : Program} {w : World} {K : PySem.W.Frag} {mg : Str → Option Value} {base : Heap}
def spPaces (K : PySem.W.Frag) : Sp := fun vs H Q _ => ∃ (c x t : Addr) (n : Nat) (E : List (Nat × Nat)) (PS : List (Addr × List Nat)), vs = [.ref x, .ref t] ∧ BoardAt K c H x n E ∧ H t = some (.tup (PS.map fun q => V.ref q.1)) ∧ (∀ q ∈ PS, H q.1 = some (.tup (q.2.map vI)) ∧ PaceOk n q.2) ∧ PS.length ≤ 12 ∧ ∀ H', Same H H' → Q (.bl true) H'
theorem sc_are_paces : FnScope ["board", "paces", "pace"] ["board", "paces"] (defScope s_are_paces) := ⟨rfl, rfl, rfl, by decide +kernel, rfl, by decide +kernel, by decide +kernel⟩
theorem ok_paces (T : Tx K mg) : Has P w K mg base (He.ga K "are_paces") 4 ["board", "paces"] (spPaces K) := by
  obtain ⟨⟨fd_is_pace, F_is_pace, b_is_pace⟩, kp_is_pace⟩ := ok_is_pace (P := P) (w := w) (base := base) T
  obtain ⟨fd, F⟩ := T.d_are_paces
  refine ⟨⟨fd, F.ok sc_are_paces (fun vs H Q E h => ?_) (fun cdv A outer s H vs Q E hr h => ?_), F.bindsN fun _ _ _ _ _ _ us hl => match us, hl with | [_, _], _ => rfl⟩, F.kp⟩
  · obtain ⟨c, x, t, n, E, PS, rfl, _⟩ := h
    rfl
  · obtain ⟨c, x, t, n, E, PS, rfl, B, ht, hp, lp, h⟩ := h
    have hr_is_pace : Room 3 _ := hr.mono (by decide)
    refine ⟨_, PSs.nox (pss_cons (ps_if (PW.pt (pw_or (pt_not (pt_val (pe_callB (isiK (K := K)) (by rfl) T.free_isinstance (by decide +kernel) (pa_cons (pv 1) (pa_cons (pe_bltn (v := .ty "tuple") (u := .type "tuple") (by rfl) T.free_tuple (by decide +kernel) rfl) pa_nil))))) (pw_or1 (pt_cmpR op_gt (pe_callB (lenK (K := K)) (by rfl) T.free_len (by decide +kernel) (pa_cons (pv 1) pa_nil)) (pe_glob (v := .int 12) rfl T.glob_MOST_BEATS.choose_spec ⟨_, rfl⟩) (nomark _))))) (pss_one (ps_ret pe_bl)) pss_nil)
      (pss_one (ps_ret (pe_callB (allK (K := K)) (by rfl) T.free_all (by decide +kernel) (pa_cons (pe_lc (own := [("pace", 2)]) (g := (gName 2)) (tt := tYes) rfl sc_are_paces.nd (piT (K := K) (pv 1)) (blkOk_by (by kernel_rfl)) (fun _ _ _ _ _ => (pg_name (i := 2) sc_are_paces.nd rfl (Or.inl rfl))) (fun _ _ _ _ _ => pts_nil) (fun _ _ _ _ _ => (pe_call F_is_pace hr_is_pace rfl T.glo_is_pace kp_is_pace b_is_pace .nil pass0 (pa_cons (pv 0) (pa_cons (pv 2) pa_nil))))) pa_nil))))), ?_⟩
    refine ⟨_, rfl, _, _, _, _, true, rfl, .ty _, .base (.tup ht), kit_ty (by decide +kernel), true, rfl, iteF ?_⟩
    refine ⟨_, rfl, t, _, rfl, .inr (SqT.of ht), _, _, rfl, rfl, _, rfl, ?_⟩
    show if decide ((12 : Int) < (((PS.map fun q => V.ref q.1).length : Nat) : Int)) = true then _ else _
    rw [decide_eq_false (by rw [List.length_map]; omega)]
    refine iteF ?_
    refine ⟨_, rfl, t, rfl, ⟨_, SqT.of ht⟩, fun D hD => ?_⟩
    refine lc_val (walk_tup (K := K) (a := t) (xs := PS.map fun q => V.ref q.1)) (fun _ => .bl true) (by rw [List.length_map]; omega) hD (fun H1 s1 => SqT.of (s1 _ _ ht)) ?_ ?_
    · rintro i y H1 H2 Nx hi s1 ⟨rfl, hy⟩ k
      obtain ⟨q, hq, rfl⟩ := get_mapV hy
      have hm := hp q (List.mem_of_getElem? hq)
      exact ⟨rfl, _, rfl, _, rfl, c, x, q.1, n, E, q.2, rfl, B.same s1, s1 _ _ hm.1, hm.2, k⟩
    · intro H1 h1 s1
      refine ⟨D, (List.range (PS.map fun q => V.ref q.1).length).map fun _ => true, rfl, SqL.of (by rw [h1, List.map_map]; rfl), ?_⟩
      rw [all_true (by simp)]
      exact h H1 s1
def spTriple (K : PySem.W.Frag) : Sp := fun vs H Q _ => ∃ (c x : Addr) (n m : Nat) (E : List (Nat × Nat)) (q : Addr × V × Triple), vs = [.ref x, vI m, .ref q.1] ∧ BoardAt K c H x n E ∧ TripAt n H q ∧ q.2.2.beat ≤ m ∧ ∀ H', Same H H' → Q (.bl true) H'
theorem sc_is_triple : FnScope ["board", "last", "triple", "beat", "look", "answer"] ["board", "last", "triple"] (defScope s_is_triple) := ⟨rfl, rfl, rfl, by decide +kernel, rfl, by decide +kernel, by decide +kernel⟩
theorem ok_triple (T : Tx K mg) : Has P w K mg base (He.ga K "is_triple") 7 ["board", "last", "triple"] (spTriple K) := by
  obtain ⟨⟨fd_is_between, F_is_between, b_is_between⟩, kp_is_between⟩ := ok_is_between (P := P) (w := w) (base := base) T
  obtain ⟨⟨fd_is_look, F_is_look, b_is_look⟩, kp_is_look⟩ := ok_is_look (P := P) (w := w) (base := base) T
  obtain ⟨⟨fd_is_number, F_is_number, b_is_number⟩, kp_is_number⟩ := ok_is_number (P := P) (w := w) (base := base) T
  obtain ⟨fd, F⟩ := T.d_is_triple
  refine ⟨⟨fd, F.ok sc_is_triple (fun vs H Q E h => ?_) (fun cdv A outer s H vs Q E hr h => ?_), F.bindsN fun _ _ _ _ _ _ us hl => match us, hl with | [_, _, _], _ => rfl⟩, F.kp⟩
  · obtain ⟨c, x, n, m, E, q, rfl, _⟩ := h
    rfl
  · obtain ⟨c, x, n, m, E, q, rfl, B, TR, le, h⟩ := h
    have hr_is_between : Room 2 _ := hr.mono (by decide)
    have hr_is_look : Room 6 _ := hr.mono (by decide)
    have hr_is_number : Room 1 _ := hr.mono (by decide)
    refine ⟨_, PSs.nox (pss_cons (ps_if (PW.pt (pw_or (pt_not (pt_val (pe_callB (isiK (K := K)) (by rfl) T.free_isinstance (by decide +kernel) (pa_cons (pv 2) (pa_cons (pe_bltn (v := .ty "tuple") (u := .type "tuple") (by rfl) T.free_tuple (by decide +kernel) rfl) pa_nil))))) (pw_or1 (pt_cmpR op_ne (pe_callB (lenK (K := K)) (by rfl) T.free_len (by decide +kernel) (pa_cons (pv 2) pa_nil)) pe_int (nomark _))))) (pss_one (ps_ret pe_bl)) pss_nil)
      (pss_cons (ps_asg (pv 2) (pgT (K := K) (n := 3) rfl (pgs_cons (pg_name (i := 3) sc_is_triple.nd rfl (Or.inl rfl)) (pgs_cons (pg_name (i := 4) sc_is_triple.nd rfl (Or.inl rfl)) (pgs_cons (pg_name (i := 5) sc_is_triple.nd rfl (Or.inl rfl)) pgs_nil)))))
      (pss_one (ps_ret (pe_and (pe_call F_is_between hr_is_between rfl T.glo_is_between kp_is_between b_is_between .nil pass0 (pa_cons (pv 3) (pa_cons pe_int (pa_cons (pv 1) pa_nil)))) (pe_and (pe_call F_is_look hr_is_look rfl T.glo_is_look kp_is_look b_is_look .nil pass0 (pa_cons (pv 0) (pa_cons (pv 4) pa_nil))) (pe_one (pe_call F_is_number hr_is_number rfl T.glo_is_number kp_is_number b_is_number .nil pass0 (pa_cons (pv 5) pa_nil))))))))), ?_⟩
    refine ⟨_, rfl, _, _, _, _, true, rfl, .ty _, .base (.tup TR.1), kit_ty (by decide +kernel), true, rfl, iteF ?_⟩
    refine ⟨_, rfl, q.1, _, rfl, .inr (SqT.of TR.1), rfl, _, rfl, iteF ?_⟩
    refine ⟨_, rfl, q.1, _, rfl, SqT.of TR.1, rfl, _, _, rfl, _, _, rfl, _, _, rfl, rfl, ?_⟩
    refine ⟨_, rfl, _, rfl, _, _, _, rfl, _, rfl, ?_⟩
    show if decide ((0 : Int) ≤ (q.2.2.beat : Nat) ∧ ((q.2.2.beat : Nat) : Int) ≤ (m : Int)) = true then _ else _
    rw [decide_eq_true (show (0 : Int) ≤ (q.2.2.beat : Nat) ∧ ((q.2.2.beat : Nat) : Int) ≤ (m : Int) from ⟨by omega, by omega⟩)]
    refine iteT ?_
    refine ⟨_, rfl, _, rfl, c, x, q.2.1, n, E, _, rfl, B, TR.2.1, TR.2.2, fun H1 s1 => ⟨true, rfl, iteT ?_⟩⟩
    exact ⟨_, rfl, _, rfl, h H1 s1⟩
def spTriples (K : PySem.W.Frag) : Sp := fun vs H Q _ => ∃ (c x t : Addr) (n m : Nat) (E : List (Nat × Nat)) (SN : List (Addr × V × Triple)), vs = [.ref x, vI m, .ref t] ∧ BoardAt K c H x n E ∧ H t = some (.tup (SN.map fun q => V.ref q.1)) ∧ (∀ q ∈ SN, TripAt n H q ∧ q.2.2.beat ≤ m) ∧ SN.length ≤ 24 ∧ ∀ H', Same H H' → Q (.bl true) H'
theorem sc_are_triples : FnScope ["board", "last", "seen", "triple"] ["board", "last", "seen"] (defScope s_are_triples) := ⟨rfl, rfl, rfl, by decide +kernel, rfl, by decide +kernel, by decide +kernel⟩
theorem ok_triples (T : Tx K mg) : Has P w K mg base (He.ga K "are_triples") 8 ["board", "last", "seen"] (spTriples K) := by
  obtain ⟨⟨fd_is_triple, F_is_triple, b_is_triple⟩, kp_is_triple⟩ := ok_triple (P := P) (w := w) (base := base) T
  obtain ⟨fd, F⟩ := T.d_are_triples
  refine ⟨⟨fd, F.ok sc_are_triples (fun vs H Q E h => ?_) (fun cdv A outer s H vs Q E hr h => ?_), F.bindsN fun _ _ _ _ _ _ us hl => match us, hl with | [_, _, _], _ => rfl⟩, F.kp⟩
  · obtain ⟨c, x, t, n, m, E, SN, rfl, _⟩ := h
    rfl
  · obtain ⟨c, x, t, n, m, E, SN, rfl, B, ht, hp, lp, h⟩ := h
    have hr_is_triple : Room 7 _ := hr.mono (by decide)
    refine ⟨_, PSs.nox (pss_cons (ps_if (PW.pt (pw_or (pt_not (pt_val (pe_callB (isiK (K := K)) (by rfl) T.free_isinstance (by decide +kernel) (pa_cons (pv 2) (pa_cons (pe_bltn (v := .ty "tuple") (u := .type "tuple") (by rfl) T.free_tuple (by decide +kernel) rfl) pa_nil))))) (pw_or1 (pt_cmpR op_gt (pe_callB (lenK (K := K)) (by rfl) T.free_len (by decide +kernel) (pa_cons (pv 2) pa_nil)) (pe_glob (v := .int 24) rfl T.glob_MOST_TRIPLES.choose_spec ⟨_, rfl⟩) (nomark _))))) (pss_one (ps_ret pe_bl)) pss_nil)
      (pss_one (ps_ret (pe_callB (allK (K := K)) (by rfl) T.free_all (by decide +kernel) (pa_cons (pe_lc (own := [("triple", 3)]) (g := (gName 3)) (tt := tYes) rfl sc_are_triples.nd (piT (K := K) (pv 2)) (blkOk_by (by kernel_rfl)) (fun _ _ _ _ _ => (pg_name (i := 3) sc_are_triples.nd rfl (Or.inl rfl))) (fun _ _ _ _ _ => pts_nil) (fun _ _ _ _ _ => (pe_call F_is_triple hr_is_triple rfl T.glo_is_triple kp_is_triple b_is_triple .nil pass0 (pa_cons (pv 0) (pa_cons (pv 1) (pa_cons (pv 3) pa_nil)))))) pa_nil))))), ?_⟩
    refine ⟨_, rfl, _, _, _, _, true, rfl, .ty _, .base (.tup ht), kit_ty (by decide +kernel), true, rfl, iteF ?_⟩
    refine ⟨_, rfl, t, _, rfl, .inr (SqT.of ht), _, _, rfl, rfl, _, rfl, ?_⟩
    show if decide ((24 : Int) < (((SN.map fun q => V.ref q.1).length : Nat) : Int)) = true then _ else _
    rw [decide_eq_false (by rw [List.length_map]; omega)]
    refine iteF ?_
    refine ⟨_, rfl, t, rfl, ⟨_, SqT.of ht⟩, fun D hD => ?_⟩
    refine lc_val (walk_tup (K := K) (a := t) (xs := SN.map fun q => V.ref q.1)) (fun _ => .bl true) (by rw [List.length_map]; omega) hD (fun H1 s1 => SqT.of (s1 _ _ ht)) ?_ ?_
    · rintro i y H1 H2 Nx hi s1 ⟨rfl, hy⟩ k
      obtain ⟨q, hq, rfl⟩ := get_mapV hy
      have hm := hp q (List.mem_of_getElem? hq)
      exact ⟨rfl, _, rfl, _, rfl, _, rfl, c, x, n, m, E, q, rfl, B.same s1, hm.1.same s1, hm.2, k⟩
    · intro H1 h1 s1
      refine ⟨D, (List.range (SN.map fun q => V.ref q.1).length).map fun _ => true, rfl, SqL.of (by rw [h1, List.map_map]; rfl), ?_⟩
      rw [all_true (by simp)]
      exact h H1 s1
def spLookStory (K : PySem.W.Frag) : Sp := fun vs H Q _ => ∃ (c x s : Addr) (n : Nat) (E : List (Nat × Nat)) (p : Nat → Prop) (PS : List (Addr × List Nat)) (SN : List (Addr × V × Triple)), vs = [.ref x, .ref s] ∧ BoardAt K c H x n E ∧ StoryAt n H s p PS SN ∧ (∃ a, a < n ∧ p a) ∧ ∀ H', Same H H' → Q .non H'
theorem sc_look_story : FnScope ["board", "story", "lot", "paces", "seen"] ["board", "story"] (defScope s_look_story) := ⟨rfl, rfl, rfl, by decide +kernel, rfl, by decide +kernel, by decide +kernel⟩
theorem ok_look_story (T : Tx K mg) : Has P w K mg base (He.ga K "look_story") 9 ["board", "story"] (spLookStory K) := by
  obtain ⟨⟨fd_is_filled_lot, F_is_filled_lot, b_is_filled_lot⟩, kp_is_filled_lot⟩ := ok_filled (P := P) (w := w) (base := base) T
  obtain ⟨⟨fd_are_paces, F_are_paces, b_are_paces⟩, kp_are_paces⟩ := ok_paces (P := P) (w := w) (base := base) T
  obtain ⟨⟨fd_are_triples, F_are_triples, b_are_triples⟩, kp_are_triples⟩ := ok_triples (P := P) (w := w) (base := base) T
  obtain ⟨fd, F⟩ := T.d_look_story
  refine ⟨⟨fd, F.ok sc_look_story (fun vs H Q E h => ?_) (fun cdv A outer s H vs Q E hr h => ?_), F.bindsN fun _ _ _ _ _ _ us hl => match us, hl with | [_, _], _ => rfl⟩, F.kp⟩
  · obtain ⟨c, x, s, n, E, p, PS, SN, rfl, _⟩ := h
    rfl
  · obtain ⟨c, x, sa, n, E, p, PS, SN, rfl, B, SA, ⟨a0, an, pa⟩, h⟩ := h
    have hr_is_filled_lot : Room 4 _ := hr.mono (by decide)
    have hr_are_paces : Room 4 _ := hr.mono (by decide)
    have hr_are_triples : Room 8 _ := hr.mono (by decide)
    refine ⟨_, PSs.nox (pss_cons (ps_asg (pv 1) (pgT (K := K) (n := 3) rfl (pgs_cons (pg_name (i := 2) sc_look_story.nd rfl (Or.inl rfl)) (pgs_cons (pg_name (i := 3) sc_look_story.nd rfl (Or.inl rfl)) (pgs_cons (pg_name (i := 4) sc_look_story.nd rfl (Or.inl rfl)) pgs_nil)))))
      (pss_cons (ps_if (pt_not (pt_val (pe_call F_is_filled_lot hr_is_filled_lot rfl T.glo_is_filled_lot kp_is_filled_lot b_is_filled_lot .nil pass0 (pa_cons (pv 0) (pa_cons (pv 2) pa_nil))))) (pss_one ps_never) pss_nil)
      (pss_cons (ps_if (pt_not (pt_val (pe_call F_are_paces hr_are_paces rfl T.glo_are_paces kp_are_paces b_are_paces .nil pass0 (pa_cons (pv 0) (pa_cons (pv 3) pa_nil))))) (pss_one ps_never) pss_nil)
      (pss_one (ps_if (pt_not (pt_val (pe_call F_are_triples hr_are_triples rfl T.glo_are_triples kp_are_triples b_are_triples .nil pass0 (pa_cons (pv 0) (pa_cons (pe_callB (lenK (K := K)) (by rfl) T.free_len (by decide +kernel) (pa_cons (pv 3) pa_nil)) (pa_cons (pv 4) pa_nil)))))) (pss_one ps_never) pss_nil))))), ?_⟩
    obtain ⟨tl, tp, ts, hs, htl, htp, hts⟩ := SA.ex
    refine ⟨_, rfl, sa, _, rfl, SqT.of hs, rfl, _, _, rfl, _, _, rfl, _, _, rfl, rfl, ?_⟩
    refine ⟨_, rfl, _, rfl, c, x, tl, n, E, p, rfl, B, htl, ⟨a0, an, pa⟩, fun H1 s1 => ⟨_, rfl, iteF ?_⟩⟩
    refine ⟨_, rfl, _, rfl, c, x, tp, n, E, PS, rfl, B.same s1, s1 _ _ htp, fun q hq => ⟨s1 _ _ (SA.pc q hq).1, (SA.pc q hq).2⟩, SA.lp, fun H2 s2 => ⟨_, rfl, iteF ?_⟩⟩
    have s12 := s1.trans s2
    refine ⟨_, rfl, _, rfl, tp, _, rfl, .inr (SqT.of (s12 _ _ htp)), _, rfl, ?_⟩
    rw [List.length_map]
    exact ⟨c, x, ts, n, PS.length, E, SN, rfl, B.same s12, s12 _ _ hts, fun q hq => ⟨(SA.sn q hq).1.same s12, (SA.sn q hq).2⟩, SA.ls, fun H3 s3 => ⟨_, rfl, iteF (h H3 (s12.trans s3))⟩⟩
def spLast : Sp := fun vs H Q _ => ∃ (s : Addr) (n : Nat) (p : Nat → Prop) (PS : List (Addr × List Nat)) (SN : List (Addr × V × Triple)), vs = [.ref s] ∧ StoryAt n H s p PS SN ∧ Q (vI PS.length) H
theorem sc_last_beat : FnScope ["story"] ["story"] (defScope s_last_beat) := ⟨rfl, rfl, rfl, by decide +kernel, rfl, by decide +kernel, by decide +kernel⟩
theorem ok_last (T : Tx K mg) : Has P w K mg base (He.ga K "last_beat") 1 ["story"] spLast := by
  obtain ⟨fd, F⟩ := T.d_last_beat
  refine ⟨⟨fd, F.ok sc_last_beat (fun vs H Q E h => ?_) (fun cdv A outer s H vs Q E hr h => ?_), F.bindsN fun _ _ _ _ _ _ us hl => match us, hl with | [_], _ => rfl⟩, F.kp⟩
  · obtain ⟨s, n, p, PS, SN, rfl, _⟩ := h
    rfl
  · obtain ⟨sa, n, p, PS, SN, rfl, SA, h⟩ := h
    refine ⟨_, PSs.nox (pss_one (ps_ret (pe_callB (lenK (K := K)) (by rfl) T.free_len (by decide +kernel) (pa_cons (pe_ix (ixT (K := K)) (pv 0) pe_int (fun _ _ => rfl)) pa_nil)))), ?_⟩
    obtain ⟨tl, tp, ts, hs, htl, htp, hts⟩ := SA.ex
    refine ⟨_, rfl, sa, _, 1, _, rfl, rfl, SqT.of hs, rfl, tp, _, rfl, .inr (SqT.of htp), ?_⟩
    rw [List.length_map]
    exact h
end
end RL
namespace RL
open PySem PySem.Spec PyProof.Rows L2 RLM
/-- what the first k triples let -/
def openT (M : Nat → Nat → Nat) (SN : List (Addr × V × Triple)) (k i b : Nat) : Prop := openP M (SN.take k) i b
theorem openT_all {M : Nat → Nat → Nat} {SN : List (Addr × V × Triple)} : openT M SN SN.length = openP M SN := by
  unfold openT
  rw [List.take_length]
theorem openT_next {M : Nat → Nat → Nat} {SN : List (Addr × V × Triple)} {k i b : Nat} {q : Addr × V × Triple} (hq : SN[k]? = some q) : openT M SN (k + 1) i b ↔ openT M SN k i b ∧ (q.2.2.beat = i → ans M q.2.2.look b = q.2.2.told) := by
  unfold openT openP
  rw [List.take_add_one, hq]
  constructor
  · intro h
    exact ⟨fun x hx => h x (List.mem_append_left _ hx), h q (List.mem_append_right _ (by simp))⟩
  · rintro ⟨h1, h2⟩ x hx
    rcases List.mem_append.mp hx with z | z
    · exact h1 x z
    · have : x = q := by simpa using z
      rw [this]
      exact h2
theorem StoryAt.get {n : Nat} {H : Hp} {s : Addr} {p : Nat → Prop} {PS : List (Addr × List Nat)} {SN : List (Addr × V × Triple)} (h : StoryAt n H s p PS SN) : ∃ tl tp ts : Addr, H s = some (.tup [.ref tl, .ref tp, .ref ts]) ∧ H tl = some (.tup ((lotP n p).map vI)) ∧ H tp = some (.tup (PS.map fun q => V.ref q.1)) ∧ H ts = some (.tup (SN.map fun q => V.ref q.1)) := h.ex
theorem cut_from (k : Nat) {xs : List V} : cutV xs (some (k : Int)) none = xs.drop k := by
  unfold cutV
  rw [HT.sIx_none, HT.sIx_nat, List.take_of_length_le (by rw [List.length_drop]; exact Nat.le_refl _)]
  rcases Nat.le_total k xs.length with z | z
  · rw [Nat.min_eq_left z]
  · rw [Nat.min_eq_right z, List.drop_of_length_le z, List.drop_of_length_le (Nat.le_refl _)]
section
variable {P : Program} {w : World} {K : PySem.W.Frag} {mg : Str → Option Value} {base : Heap}
def spAnswering (K : PySem.W.Frag) : Sp := fun vs H Q _ => ∃ (c x s : Addr) (n : Nat) (E : List (Nat × Nat)) (M : Nat → Nat → Nat) (p : Nat → Prop) (PS : List (Addr × List Nat)) (SN : List (Addr × V × Triple)), vs = [.ref x, .ref s] ∧ BoardAt K c H x n E ∧ Spans n E M ∧ StoryAt n H s p PS SN ∧
  ∀ H' l, LotsAt n H' l (PS.length + 1) (openP M SN) → H l = none → Same H H' → Q (.ref l) H'
end
end RL
namespace RL
open PySem PySem.Spec PyProof.Rows L2 RLM
theorem lotP_one {n b : Nat} (h : b < n) : lotP n (fun x => x = b) = [b] :=
  (lotP_of (List.pairwise_singleton _ _) fun x => by
    rw [List.mem_singleton]
    exact ⟨fun e => ⟨by omega, e⟩, fun e => e.2⟩).symm
theorem dp_lot {K : PySem.W.Frag} {H : Hp} {t : Addr} {xs : List Nat} (h : H t = some (.tup (xs.map vI))) : Dp K H (.ref t) (.tuple ((xs.map nI).map PyData.int)) := .tup (SqT.of (by rw [← vI_map]; exact h)) (dp_ints _)
theorem eqv_none : ∀ xs : List Nat, PyData.eqv (.tuple ((xs.map nI).map PyData.int)) (.tuple ((([] : List Nat).map nI).map PyData.int)) = xs.isEmpty
  | [] => by unfold PyData.eqv; rfl
  | x :: xs => by unfold PyData.eqv; rfl
section
variable {P : Program} {w : World} {K : PySem.W.Frag} {mg : Str → Option Value} {base : Heap}
def spStart : Sp := fun vs H Q _ => ∃ (b c : Addr) (n : Nat), vs = [.ref b, vI n] ∧ Box b c H ∧ 1 ≤ n ∧ n ≤ 8 ∧ ∀ H' t p, H' t = some (.tup ((lotP n p).map vI)) → (∃ a, a < n ∧ p a) → Kc c H H' → Box b c H' → Q (.ref t) H'
theorem sc__law_start : FnScope ["_law_box_here", "_law_many", "_law_lot_here"] ["_law_box_here", "_law_many"] (defScope s__law_start) := ⟨rfl, rfl, rfl, by decide +kernel, rfl, by decide +kernel, by decide +kernel⟩
theorem ok_start (T : Tx K mg) : Has P w K mg base (He.ga K "_law_start") 3 ["_law_box_here", "_law_many"] spStart := by
  obtain ⟨⟨fd_law_pick, F_law_pick, b_law_pick⟩, kp_law_pick⟩ := ok_pick (P := P) (w := w) (base := base) T
  obtain ⟨⟨fd_law_lot, F_law_lot, b_law_lot⟩, kp_law_lot⟩ := ok_lot (P := P) (w := w) (base := base) T
  obtain ⟨fd, F⟩ := T.d__law_start
  refine ⟨⟨fd, F.ok sc__law_start (fun vs H Q E h => ?_) (fun cdv A outer s H vs Q E hr h => ?_), F.bindsN fun _ _ _ _ _ _ us hl => match us, hl with | [_, _], _ => rfl⟩, F.kp⟩
  · obtain ⟨b, c, n, rfl, _⟩ := h
    rfl
  · obtain ⟨b, c, n, rfl, B, n1, n8, h⟩ := h
    have hr_law_pick : Room 1 _ := hr.mono (by decide)
    have hr_law_lot : Room 2 _ := hr.mono (by decide)
    refine ⟨_, PSs.nox (pss_cons (ps_set (i := 2) sc__law_start.nd rfl (Or.inl rfl) (pe_call F_law_lot hr_law_lot rfl T.glo_law_lot kp_law_lot b_law_lot .nil pass0 (pa_cons (pv 0) (pa_cons (pv 1) pa_nil))))
      (pss_one (ps_ret (pe_ifExp (pt_cmpR (neD (K := K) hr.units) (pv 2) (pe_tup pa_nil) (nomark _)) (pv 2) (pe_tup (pa_cons (pe_call F_law_pick hr_law_pick rfl T.glo_law_pick kp_law_pick b_law_pick .nil pass0 (pa_cons (pv 0) (pa_cons (pv 1) pa_nil))) pa_nil)))))), ?_⟩
    refine ⟨_, rfl, _, rfl, b, c, n, rfl, B, n1, n8, fun H1 t p ht k1 B1 => ?_⟩
    refine ⟨_, rfl, Nat.zero_le _, fun u hu => ?_⟩
    have s2 := same_upd (o := HO.tup []) hu
    have hu2 : (upd H1 u (.tup [])) u = some (.tup []) := upd_same
    generalize upd H1 u (.tup []) = H2 at s2 hu2
    refine ⟨_, _, dp_lot (s2 _ _ ht), dp_lot (xs := []) hu2, shaped_tup _, shaped_tup _, _, rfl, ?_⟩
    rw [eqv_none]
    cases e : (lotP n p).isEmpty with
    | false =>
      refine iteT ⟨_, rfl, h H2 t p (s2 _ _ ht) ?_ (k1.trans (kc_same s2)) (B1.same s2)⟩
      cases e2 : lotP n p with
      | nil => rw [e2] at e; cases e
      | cons a l =>
        have := mem_lotP.mp (show a ∈ lotP n p by rw [e2]; exact List.mem_cons_self)
        exact ⟨a, this.1, this.2⟩
    | true =>
      refine iteF ?_
      refine ⟨_, rfl, _, rfl, b, c, _, rfl, B1.same s2, by omega, by omega, fun H3 x k3 B3 x0 x1 => ?_⟩
      obtain ⟨xn, rfl⟩ : ∃ xn : Nat, x = (xn : Nat) := ⟨x.toNat, by omega⟩
      have xl : xn < n := by omega
      refine ⟨(by show 1 ≤ sizeLine; decide), fun q hq => ?_⟩
      have s4 := same_upd (o := HO.tup [V.int ((xn : Nat) : Int)]) hq
      refine h _ q (fun y => y = xn) ?_ ⟨xn, xl, rfl⟩ (((k1.trans (kc_same s2)).trans k3).trans (kc_same s4)) (B3.same s4)
      rw [upd_same, lotP_one xl]
      rfl
end
end RL
namespace RL
open PySem PySem.Spec PyProof.Rows L2 RLM
/-- a comprehension in whose turns numbers are drawn -/
theorem lc_relK {J : It} {n : Nat} {G : Hp → Prop} {Y : Nat → Hp → V → Hp → Prop} {g : TG} {te : TE} {vs : List Nat} {σ : L2.St} {H : Hp} {D b c : Addr} {Qd : Hp → Prop} (w : Walk J n G Y) (R : Nat → V → Hp → Prop) (hn : n ≤ 100000) (B : Box b c H) (hD : H D = none) (tk : ∀ k v H1 H2, R k v H1 → TK H1 H2 → R k v H2) (hG : ∀ H1, Kc c H H1 → Box b c H1 → G H1)
    (hs : ∀ i x H1 H2 (Nx : V → Hp → Prop), i < n → Kc c H H1 → Box b c H1 → Y i H1 x H2 → (∀ y H4, R i y H4 → Kc c H1 H4 → Box b c H4 → Nx y H4) → g x (wipe σ vs) H2 fun σ2 H3 => wipe σ2 vs = wipe σ vs ∧ te σ2 H3 Nx)
    (hd : ∀ H1 ys, H1 D = some (.lst ys) → ys.length = n → (∀ k y, ys[k]? = some y → R k y H1) → Kc c H H1 → Box b c H1 → D ≠ c → Qd H1) :
    ∃ W : Nat → Nat → Hp → Prop, (∃ m, W 0 m (L2.upd H D (.lst []))) ∧ ∀ i m H, W i m H →
      (J.stop i H ∧ Qd H) ∨ (J.go i H ∧ ∃ Nx : Hp → Prop, (∀ H', Nx H' → ∃ m', m' < m ∧ W (i + 1) m' H') ∧ ∀ x H', J.yld i H x H' → g x (wipe σ vs) H' fun σ2 H2 => wipe σ2 vs = wipe σ vs ∧ tYes σ2 H2 fun b H3 =>
        if b = true then te σ2 H3 fun y H4 => ∃ acc, H4 D = some (.lst acc) ∧ acc.length < sizeLine ∧ Nx (L2.upd H4 D (.lst (acc ++ [y]))) else Nx H3) := by
  obtain ⟨Dc, Db⟩ := B.new hD
  have s0 : Same H (L2.upd H D (.lst [])) := same_upd hD
  refine lc_it w (fun i H1 => ∃ ys, H1 D = some (.lst ys) ∧ ys.length = i ∧ (∀ k y, ys[k]? = some y → R k y H1) ∧ Kc c H H1 ∧ Box b c H1) ⟨[], upd_same, rfl, fun k y e => (by simp at e), kc_same s0, B.same s0⟩ (fun i H1 _ ⟨_, _, _, _, k1, B1⟩ => hG H1 k1 B1) ?_ (fun H1 ⟨ys, h1, h2, h3, h4, h5⟩ => hd H1 ys h1 h2 h3 h4 h5 Dc)
  rintro i x H1 H2 hi ⟨ys, h1, h2, h3, k1, B1⟩ hY
  refine hs i x H1 H2 (fun y H4 => ∃ acc, H4 D = some (.lst acc) ∧ acc.length < sizeLine ∧ ∃ zs, (L2.upd H4 D (.lst (acc ++ [y]))) D = some (.lst zs) ∧ zs.length = i + 1 ∧ (∀ k y', zs[k]? = some y' → R k y' (L2.upd H4 D (.lst (acc ++ [y])))) ∧ Kc c H (L2.upd H4 D (.lst (acc ++ [y]))) ∧ Box b c (L2.upd H4 D (.lst (acc ++ [y])))) hi k1 B1 hY fun y H4 r k4 B4 => ?_
  have h4 := k4 _ _ Dc (fun _ z => by cases z) h1
  refine ⟨ys, h4, ?_, ys ++ [y], upd_same, by simp [h2], fun k y' e => ?_, (k1.trans k4).upd hD, B4.upd Dc Db⟩
  · rw [h2]
    exact Nat.lt_of_lt_of_le hi (Nat.le_trans hn (by decide))
  · by_cases hk : k < ys.length
    · rw [List.getElem?_append_left hk] at e
      exact tk _ _ _ _ (h3 k y' e) ((k4.tk B1.lst).trans (tk_lst h4))
    · rw [List.getElem?_append_right (by omega)] at e
      have ek : k = ys.length := by
        obtain ⟨z1, _⟩ := List.getElem?_eq_some_iff.mp e
        simp at z1
        omega
      rw [ek, Nat.sub_self] at e
      cases e
      rw [ek, h2]
      exact tk _ _ _ _ r (tk_lst h4)
/-- what each of a list is, as a list beside -/
theorem beside {α : Type} {R : Nat → V → α → Prop} : ∀ (ys : List V) (i : Nat), (∀ (k : Nat) (y : V), ys[k]? = some y → ∃ a, R (i + k) y a) → ∃ as : List α, as.length = ys.length ∧ ∀ (k : Nat) (y : V) (a : α), ys[k]? = some y → as[k]? = some a → R (i + k) y a
  | [], i, _ => ⟨[], rfl, fun k y a e => by simp at e⟩
  | y :: ys, i, h => by
    obtain ⟨a, ha⟩ := h 0 y rfl
    obtain ⟨as, l, h2⟩ := beside ys (i + 1) fun k y e => by
      have := h (k + 1) y e
      rw [← Nat.add_assoc, Nat.add_right_comm] at this
      exact this
    refine ⟨a :: as, by simp [l], fun k y' a' e1 e2 => ?_⟩
    cases k with
    | zero =>
      cases e1
      cases e2
      exact ha
    | succ k =>
      have := h2 k y' a' e1 e2
      rw [Nat.add_right_comm, Nat.add_assoc] at this
      exact this
theorem ys_of {α : Type} {f : α → V} {ys : List V} {as : List α} (l : as.length = ys.length) (h : ∀ (k : Nat) (y : V) (a : α), ys[k]? = some y → as[k]? = some a → y = f a) : ys = as.map f := by
  refine List.ext_getElem? fun k => ?_
  rw [List.getElem?_map]
  by_cases hk : k < ys.length
  · have e1 : ys[k]? = some ys[k] := List.getElem?_eq_getElem hk
    have e2 : as[k]? = some (as[k]'(by omega)) := List.getElem?_eq_getElem _
    rw [e1, e2, h k _ _ e1 e2]
    rfl
  · rw [List.getElem?_eq_none (by omega), List.getElem?_eq_none (by omega)]
    rfl
/-- the parts by signs -/
def signP (ss : List Nat) (z : Int) (b : Nat) : Prop := nI (ss.getD b 0) = z
theorem parts_ok {n : Nat} {ss : List Nat} {zs : List Int} (ls : ss.length = n) (nd : zs.Nodup) (hm : ∀ z, z ∈ zs ↔ z ∈ ss.map nI) (lz : zs.length ≤ n) : LookOk n (.parts (zs.map (signP ss))) := by
  refine ⟨by rw [List.length_map]; exact lz, fun b bn => ?_, fun i j p q b hp hq bn pb qb => ?_, fun p hp => ?_⟩
  · have hb : b < ss.length := by omega
    have hmem : nI (ss.getD b 0) ∈ zs := (hm _).2 (List.mem_map.mpr ⟨ss.getD b 0, by rw [List.getD_eq_getElem?_getD, List.getElem?_eq_getElem hb]; exact List.getElem_mem hb, rfl⟩)
    obtain ⟨k, hk, e⟩ := List.getElem_of_mem hmem
    exact ⟨k, signP ss zs[k], by rw [List.getElem?_map, List.getElem?_eq_getElem hk]; rfl, e.symm⟩
  · rw [List.getElem?_map] at hp hq
    cases e1 : zs[i]? with
    | none => rw [e1] at hp; cases hp
    | some z1 =>
      cases e2 : zs[j]? with
      | none => rw [e2] at hq; cases hq
      | some z2 =>
        rw [e1] at hp
        rw [e2] at hq
        cases hp
        cases hq
        have pb : nI (ss.getD b 0) = z1 := pb
        have qb : nI (ss.getD b 0) = z2 := qb
        rw [← pb] at e1
        rw [← qb] at e2
        exact (List.getElem?_inj (List.getElem?_eq_some_iff.mp e1).1 nd).mp (e1.trans e2.symm)
  · obtain ⟨z, hz, rfl⟩ := List.mem_map.mp hp
    obtain ⟨s, hs, e⟩ := List.mem_map.mp ((hm z).1 hz)
    obtain ⟨b, hb, e2⟩ := List.getElem_of_mem hs
    refine ⟨b, by omega, ?_⟩
    show nI (ss.getD b 0) = z
    rw [List.getD_eq_getElem?_getD, List.getElem?_eq_getElem hb]
    show nI ss[b] = z
    rw [e2, e]
section
variable {P : Program} {w : World} {K : PySem.W.Frag} {mg : Str → Option Value} {base : Heap}
def spLook : Sp := fun vs H Q _ => ∃ (b c : Addr) (n : Nat), vs = [.ref b, vI n] ∧ Box b c H ∧ 1 ≤ n ∧ n ≤ 8 ∧ ∀ H' v L, LookAt n H' v L → LookOk n L → Kc c H H' → Box b c H' → Q v H'
theorem sc__law_look : FnScope ["_law_box_here", "_law_many", "_law_kind", "_law_parts", "_law_signs", "_law_lots", "_law_place", "_law_sign"] ["_law_box_here", "_law_many"] (defScope s__law_look) := ⟨rfl, rfl, rfl, by decide +kernel, rfl, by decide +kernel, by decide +kernel⟩
theorem ok_look (T : Tx K mg) : Has P w K mg base (He.ga K "_law_look") 3 ["_law_box_here", "_law_many"] spLook := by
  obtain ⟨⟨fd_law_pick, F_law_pick, b_law_pick⟩, kp_law_pick⟩ := ok_pick (P := P) (w := w) (base := base) T
  obtain ⟨⟨fd_law_lot, F_law_lot, b_law_lot⟩, kp_law_lot⟩ := ok_lot (P := P) (w := w) (base := base) T
  obtain ⟨⟨fd_law_from, F_law_from, b_law_from⟩, kp_law_from⟩ := ok_from (P := P) (w := w) (base := base) T
  obtain ⟨⟨fd_law_mixed, F_law_mixed, b_law_mixed⟩, kp_law_mixed⟩ := ok_mixed (P := P) (w := w) (base := base) T
  obtain ⟨fd, F⟩ := T.d__law_look
  refine ⟨⟨fd, F.ok sc__law_look (fun vs H Q E h => ?_) (fun cdv A outer s H vs Q E hr h => ?_), F.bindsN fun _ _ _ _ _ _ us hl => match us, hl with | [_, _], _ => rfl⟩, F.kp⟩
  · obtain ⟨b, c, n, rfl, _⟩ := h
    rfl
  · obtain ⟨b, c, n, rfl, B, n1, n8, h⟩ := h
    have hr_law_pick : Room 1 _ := hr.mono (by decide)
    have hr_law_lot : Room 2 _ := hr.mono (by decide)
    have hr_law_from : Room 2 _ := hr.mono (by decide)
    have hr_law_mixed : Room 2 _ := hr.mono (by decide)
    refine ⟨_, PSs.nox (pss_cons (ps_set (i := 2) sc__law_look.nd rfl (Or.inl rfl) (pe_call F_law_pick hr_law_pick rfl T.glo_law_pick kp_law_pick b_law_pick .nil pass0 (pa_cons (pv 0) (pa_cons pe_int pa_nil))))
      (pss_cons (ps_if (pt_cmpR op_eq (pv 2) pe_int (nomark _)) (pss_one (ps_ret (pe_tup (pa_cons pe_str (pa_cons (pe_call F_law_lot hr_law_lot rfl T.glo_law_lot kp_law_lot b_law_lot .nil pass0 (pa_cons (pv 0) (pa_cons (pv 1) pa_nil))) pa_nil))))) pss_nil)
      (pss_cons (ps_if (pt_cmpR op_eq (pv 2) pe_int (nomark _)) (pss_cons (ps_set (i := 3) sc__law_look.nd rfl (Or.inr rfl) (pe_call F_law_from hr_law_from rfl T.glo_law_from kp_law_from b_law_from .nil pass0 (pa_cons (pv 0) (pa_cons (pe_lst (pa_cons pe_int (pa_cons pe_int (pa_cons pe_int (pa_cons pe_int (pa_cons pe_int pa_nil)))))) pa_nil))))
      (pss_cons (ps_set (i := 4) sc__law_look.nd rfl (Or.inr rfl) (pe_lc (own := [("_law_place", 6)]) (g := (gName 6)) (tt := tYes) rfl sc__law_look.nd (pi_range1 (by rfl) T.free_range (pa_cons (pv 1) pa_nil)) (blkOk_by (by kernel_rfl)) (fun _ _ _ _ _ => (pg_name (i := 6) sc__law_look.nd rfl (Or.inl rfl))) (fun _ _ _ _ _ => pts_nil) (fun _ _ _ _ _ => (pe_call F_law_pick hr_law_pick rfl T.glo_law_pick kp_law_pick b_law_pick .nil pass0 (pa_cons (pv 0) (pa_cons (pv 3) pa_nil))))))
      (pss_cons (ps_setLc (i := 5) (own := [("_law_sign", 7)]) (g := (gName 7)) (tt := tYes) rfl sc__law_look.nd rfl rfl (sw_true rfl rfl rfl (by decide +kernel)) (piL (K := K) (pe_callB (sortS (w := w)) (by rfl) T.free_sorted (by decide +kernel) (pa_cons (pe_callTy (setLK (K := K) (w := w)) (by rfl) T.free_set (by decide +kernel) (pa_cons (pv 4) pa_nil)) pa_nil))) (blkOk_by (by kernel_rfl)) (fun _ _ _ _ _ => (pg_name (i := 7) sc__law_look.nd rfl (Or.inr rfl))) (fun _ _ _ _ _ => pts_nil) (fun _ _ _ _ _ => (pe_callTy (tupK (K := K)) (by rfl) T.free_tuple (by decide +kernel) (pa_cons (pe_lc (own := [("_law_place", 6)]) (g := (gName 6)) rfl sc__law_look.nd (pi_range1 (by rfl) T.free_range (pa_cons (pv 1) pa_nil)) (blkOk_by (by kernel_rfl)) (fun _ _ _ _ _ => (pg_name (i := 6) sc__law_look.nd rfl (Or.inl rfl))) (fun _ _ _ _ _ => (pts_one (pt_cmpR op_eq (pe_ix (ixL (K := K)) (pv 4) (pv 6) (fun _ _ => rfl)) (pv 7) (nomark _)))) (fun _ _ _ _ _ => (pv 6))) pa_nil))))
      (pss_one (ps_ret (pe_tup (pa_cons pe_str (pa_cons (pe_callTy (tupK (K := K)) (by rfl) T.free_tuple (by decide +kernel) (pa_cons (pe_call F_law_mixed hr_law_mixed rfl T.glo_law_mixed kp_law_mixed b_law_mixed .nil pass0 (pa_cons (pv 0) (pa_cons (pv 5) pa_nil))) pa_nil)) pa_nil)))))))) pss_nil)
      (pss_one (ps_ret (pe_tup (pa_cons pe_str (pa_cons (pe_call F_law_pick hr_law_pick rfl T.glo_law_pick kp_law_pick b_law_pick .nil pass0 (pa_cons (pv 0) (pa_cons (pv 1) pa_nil))) (pa_cons (pe_call F_law_from hr_law_from rfl T.glo_law_from kp_law_from b_law_from .nil pass0 (pa_cons (pv 0) (pa_cons (pe_lst (pa_cons pe_int (pa_cons pe_int (pa_cons pe_int (pa_cons pe_int (pa_cons pe_int (pa_cons pe_int (pa_cons pe_int (pa_cons pe_int pa_nil))))))))) pa_nil))) pa_nil))))))))), ?_⟩
    refine ⟨_, rfl, b, c, _, rfl, B, by decide, by decide, fun H1 i k1 B1 i0 i1 => ?_⟩
    refine ⟨_, rfl, rfl, _, rfl, ?_⟩
    refine ite2 (fun _ => ?_) (fun _ => ?_)
    · refine ⟨_, rfl, _, rfl, b, c, n, rfl, B1, n1, n8, fun H2 t p ht k2 B2 => ?_⟩
      refine ⟨(by show 2 ≤ sizeLine; decide), fun u hu => ?_⟩
      have s3 := same_upd (o := HO.tup [V.str "in", .ref t]) hu
      exact h _ (.ref u) (.lot p) ⟨u, t, rfl, upd_same, s3 _ _ ht⟩ trivial ((k1.trans k2).trans (kc_same s3)) (B2.same s3)
    refine ⟨_, rfl, rfl, _, rfl, ?_⟩
    refine ite2 (fun _ => ?_) (fun _ => ?_)
    · refine ⟨_, rfl, (by show 5 ≤ sizeLine; decide), fun l hl => ?_⟩
      have s2 := same_upd (o := HO.lst [V.int 1, V.int 2, V.int 3, V.int 4, V.int 8]) hl
      refine ⟨b, c, l, _, rfl, B1.same s2, upd_same, (B1.new hl).1, by decide, by decide, fun H3 v k3 B3 hv => ?_⟩
      obtain ⟨m, rfl, m1, m8⟩ : ∃ m : Nat, v = vI m ∧ 1 ≤ m ∧ m ≤ 8 := by
        simp only [List.mem_cons, List.not_mem_nil, or_false] at hv
        rcases hv with e | e | e | e | e <;> subst e
        · exact ⟨1, rfl, by decide, by decide⟩
        · exact ⟨2, rfl, by decide, by decide⟩
        · exact ⟨3, rfl, by decide, by decide⟩
        · exact ⟨4, rfl, by decide, by decide⟩
        · exact ⟨8, rfl, by decide, by decide⟩
      have k13 := (k1.trans (kc_same s2)).trans k3
      refine ⟨_, rfl, (n : Int), rfl, by omega, by omega, fun D hD => ?_⟩
      refine lc_relK (walk_range (lo := 0) (n := ((n : Nat) : Int).toNat)) (fun _ v _ => ∃ s : Nat, v = vI s) (by omega) B3 hD (fun _ _ _ _ h _ => h) (fun _ _ _ => trivial) ?_ ?_
      · rintro i x H4 H5 Nx hi k4 B4 ⟨rfl, rfl⟩ kk
        refine ⟨rfl, _, rfl, _, rfl, b, c, _, rfl, B4, by omega, by omega, fun H6 j k6 B6 j0 j1 => ?_⟩
        exact kk _ _ ⟨j.toNat, by show V.int j = V.int _; congr 1; omega⟩ k6 B6
      · intro H4 ys h4 ly hy k4 B4 Dc
        rw [Int.toNat_natCast] at ly
        obtain ⟨ss, l5, h5⟩ := beside (R := fun _ v (s : Nat) => v = vI s) ys 0 fun k y e => hy k y e
        have ey : ys = ss.map vI := ys_of l5 h5
        have ls : ss.length = n := by omega
        subst ey
        have k14 := k13.trans k4
        refine ⟨_, rfl, D, ss.map nI, rfl, SqL.of (by rw [← vI_map]; exact h4), by rw [List.length_map]; omega, fun d cc hd hcc _ => ?_⟩
        have s5 := same_upd (o := SetO w d (fun j => decide (j ∈ ss.map nI)) cc) hd
        rw [List.length_map] at hcc
        refine ⟨d, _, cc, rfl, upd_same, by omega, fun zs q r1 r2 r3 hq => ?_⟩
        have s6 := same_upd (o := HO.lst (zs.map V.int)) hq
        have hq6 : (L2.upd (L2.upd H4 d (SetO w d (fun j => decide (j ∈ ss.map nI)) cc)) q (.lst (zs.map V.int))) q = some (.lst (zs.map V.int)) := upd_same
        have s46 := s5.trans s6
        generalize L2.upd (L2.upd H4 d (SetO w d (fun j => decide (j ∈ ss.map nI)) cc)) q (.lst (zs.map V.int)) = H6 at s46 hq6
        clear s5 s6
        have h6 := s46 _ _ h4
        have mz : ∀ z, z ∈ zs ↔ z ∈ ss.map nI := fun z => (r2 z).trans decide_eq_true_iff
        have nz : zs.Nodup := r1.imp fun z => Int.ne_of_lt z
        refine ⟨q, rfl, ⟨_, SqL.of hq6⟩, fun D2 hD2 => ?_⟩
        have B6 := B4.same s46
        have D2c := (B6.new hD2).1
        refine lc_rel (walk_list (K := K) (a := q) (xs := zs.map V.int)) (fun k v H' => ∃ t : Addr, v = .ref t ∧ ∀ z, zs[k]? = some z → H' t = some (.tup ((lotP n (signP ss z)).map vI))) (by rw [List.length_map]; omega) hD2 (fun k v Ha Hb ⟨t, e, h'⟩ tk => ⟨t, e, fun z ez => tk _ _ (h' z ez)⟩) (fun H7 s7 => SqL.of (s7 _ _ hq6)) ?_ ?_
        · rintro i x H7 H8 Nx hi s7 ⟨rfl, hx⟩ kk
          obtain ⟨z, hz, rfl⟩ := get_mapV hx
          refine ⟨rfl, _, rfl, (n : Int), rfl, by omega, by omega, fun D3 hD3 => ?_⟩
          refine lc_filt (walk_range (lo := 0) (n := ((n : Nat) : Int).toNat)) (List.range n) (fun b => decide (nI (ss.getD b 0) = z)) (by simp) (by omega) hD3 (fun _ _ => trivial) ?_ ?_
          · rintro j b' y Ha Hb N1 N0 hb' sa ⟨rfl, rfl⟩ k1' k0'
            obtain ⟨bn, rfl⟩ : j < n ∧ b' = j := by
              obtain ⟨z1, z2⟩ := List.getElem?_eq_some_iff.mp hb'
              rw [List.getElem_range] at z2
              rw [List.length_range] at z1
              exact ⟨z1, z2.symm⟩
            have hs : ss[b']? = some (ss.getD b' 0) := by
              rw [List.getD_eq_getElem?_getD, List.getElem?_eq_getElem (by omega)]
              rfl
            refine ⟨rfl, _, rfl, _, rfl, D, _, _, _, rfl, rfl, SqL.of (sa _ _ (s7 _ _ h6)), at0 (get_map hs), ?_⟩
            refine ⟨_, rfl, rfl, _, rfl, ?_⟩
            have eb : decide (vI (ss.getD b' 0) = V.int z) = decide (nI (ss.getD b' 0) = z) := by
              rw [decide_eq_decide]
              exact ⟨fun e => V.int.inj e, fun e => by rw [← e]; rfl⟩
            show if decide (vI (ss.getD b' 0) = V.int z) = true then _ else _
            rw [eb]
            refine ite2 (fun z' => ⟨_, rfl, ?_⟩) (fun z' => k0' _ (by simpa using z') fun _ _ e => e)
            have := k1' _ z' fun _ _ e => e
            show N1 (V.int (0 + ((b' : Nat) : Int))) _
            rw [Int.zero_add]
            exact this
          · intro Ha ha sa
            refine ⟨D3, _, rfl, .inl ⟨SqL.of ha, fun t ht => ?_⟩⟩
            refine kk _ _ ⟨t, rfl, fun z' ez => ?_⟩ (sa.trans (same_upd ht))
            rw [hz] at ez
            cases ez
            rw [upd_same, filter_lot (p := signP ss z) (range_sorted n) fun b => by
              rw [List.mem_range, decide_eq_true_iff]
              rfl]
        · intro H7 ys2 h7 ly2 hy2 s7
          rw [List.length_map] at ly2
          obtain ⟨ts, lt, ht⟩ := beside (R := fun k v (t : Addr) => v = .ref t ∧ ∀ z, zs[k]? = some z → H7 t = some (.tup ((lotP n (signP ss z)).map vI))) ys2 0 fun k y e => by
            rw [Nat.zero_add]
            exact hy2 k y e
          have e2 : ys2 = (ts.zip zs).map fun q => V.ref q.1 := by
            refine ys_of (by rw [List.length_zip]; omega) fun k y a e1 e2 => ?_
            obtain ⟨z1, z2⟩ := List.getElem?_zip_eq_some.mp e2
            exact (ht k y a.1 e1 z1).1
          have hz : ∀ q ∈ ts.zip zs, H7 q.1 = some (.tup ((lotP n (signP ss q.2)).map vI)) := fun q hq => by
            obtain ⟨k, hk, e⟩ := List.getElem_of_mem hq
            have ek : (ts.zip zs)[k]? = some q := by rw [List.getElem?_eq_getElem hk, e]
            obtain ⟨z1, z2⟩ := List.getElem?_zip_eq_some.mp ek
            have yk : ys2[k]? = some (ys2[k]'(by rw [List.length_zip] at hk; omega)) := List.getElem?_eq_getElem _
            exact (ht k _ q.1 yk z1).2 q.2 (by rw [Nat.zero_add]; exact z2)
          subst e2
          have B7 := B6.same s7
          have lzs : zs.length ≤ n := by omega
          refine ⟨_, rfl, _, rfl, b, c, D2, _, rfl, B7, h7, D2c, by rw [List.length_map, List.length_zip]; omega, fun H8 p ys' pm hp pc k8 B8 => ?_⟩
          obtain ⟨qs, rfl, pq⟩ := perm_map pm
          have mq : (qs.map (·.2)).Perm zs := by
            have := pq.map (·.2)
            rwa [show (ts.zip zs).map (·.2) = zs from List.map_snd_zip (by omega)] at this
          refine ⟨p, _, rfl, .inl ⟨SqL.of hp, fun u hu => ?_⟩⟩
          have s9 := same_upd (o := HO.tup (qs.map fun q => V.ref q.1)) hu
          have hu9 : (L2.upd H8 u (.tup (qs.map fun q => V.ref q.1))) u = some (.tup (qs.map fun q => V.ref q.1)) := upd_same
          generalize L2.upd H8 u (.tup (qs.map fun q => V.ref q.1)) = H9 at s9 hu9
          refine ⟨(by show 2 ≤ sizeLine; decide), fun t ht2 => ?_⟩
          have s10 := same_upd (o := HO.tup [V.str "parts", .ref u]) ht2
          have tks : TK H7 (L2.upd H9 t (.tup [V.str "parts", .ref u])) := (k8.tk B7.lst).trans (tk_same (s9.trans s10))
          refine h _ (.ref t) (.parts ((qs.map (·.2)).map (signP ss))) ⟨t, u, qs.map (·.1), rfl, upd_same, s10 _ _ (by rw [hu9, List.map_map]; rfl), by simp, fun k a p' e1 e2 => ?_⟩ (parts_ok ls (mq.nodup_iff.mpr nz) (fun z => mq.mem_iff.trans (mz z)) (by rw [mq.length_eq]; exact lzs))
            (((k14.trans (kc_same (s46.trans s7))).trans k8).trans (kc_same (s9.trans s10))) (B8.same (s9.trans s10))
          rw [List.getElem?_map] at e1
          rw [List.getElem?_map, List.getElem?_map] at e2
          cases e : qs[k]? with
          | none => rw [e] at e1; cases e1
          | some q' =>
            rw [e] at e1 e2
            cases e1
            cases e2
            exact tks _ _ (hz q' (pq.mem_iff.mp (List.mem_of_getElem? e)))
    · refine ⟨_, rfl, _, rfl, b, c, _, rfl, B1, by omega, by omega, fun H2 x k2 B2 x0 x1 => ?_⟩
      refine ⟨_, rfl, (by show 8 ≤ sizeLine; decide), fun l hl => ?_⟩
      have s3 := same_upd (o := HO.lst [V.int 0, V.int 1, V.int 2, V.int 7, V.int 3, V.int 4, V.int 5, V.int 6]) hl
      refine ⟨b, c, l, _, rfl, B2.same s3, upd_same, (B2.new hl).1, by decide, by decide, fun H4 v k4 B4 hv => ?_⟩
      obtain ⟨m, rfl, m7⟩ := menu_small hv (by decide)
      refine ⟨(by show 3 ≤ sizeLine; decide), fun t ht => ?_⟩
      have s5 := same_upd (o := HO.tup [V.str "near", .int x, vI m]) ht
      obtain ⟨d, rfl⟩ : ∃ d : Nat, x = (d : Nat) := ⟨x.toNat, by omega⟩
      exact h _ (.ref t) (.near d m) ⟨t, rfl, upd_same⟩ ⟨by omega, m7⟩ ((((k1.trans k2).trans (kc_same s3)).trans k4).trans (kc_same s5)) (B4.same s5)
end
end RL
namespace RL
open PySem PySem.Spec PyProof.Rows L2 RLM
theorem isiTK {X : Cx} {K : PySem.W.Frag} (h : X.K = K := by rfl) : CallR X (.builtin "isinstance") (rIsiT K) := h ▸ call_isiT
/-! ### things that are alike, to a depth -/
def ScalV (x y : V) : Prop := x = y ∧ ((∃ i, x = .int i) ∨ (∃ b, x = .bl b) ∨ x = .non ∨ ∃ s, x = .str s)
def SameV : Nat → Hp → V → V → Prop
  | 0, _, x, y => ScalV x y
  | d + 1, H, x, y => ScalV x y ∨ ∃ (a b : Addr) (xs ys : List V), x = .ref a ∧ y = .ref b ∧ ((Rd H a (.lst xs) ∧ Rd H b (.lst ys)) ∨ (Rd H a (.tup xs) ∧ Rd H b (.tup ys))) ∧ xs.length = ys.length ∧ xs.length ≤ 1000 ∧ ∀ (k : Nat) (u v : V), xs[k]? = some u → ys[k]? = some v → SameV d H u v
theorem rd_same {H H' : Hp} {a : Addr} {o : HO} (s : Same H H') (h : Rd H a o) : Rd H' a o := by
  rcases h with h | ⟨u, h⟩
  · exact .inl (s _ _ h)
  · exact .inr ⟨u, s _ _ h⟩
theorem SameV.same {H H' : Hp} (s : Same H H') : ∀ {d : Nat} {x y : V}, SameV d H x y → SameV d H' x y
  | 0, _, _, h => h
  | d + 1, x, y, h => by
    rcases h with h | ⟨a, b, xs, ys, rfl, rfl, ab, l1, l2, each⟩
    · exact .inl h
    · refine .inr ⟨a, b, xs, ys, rfl, rfl, ?_, l1, l2, fun k u v h1 h2 => SameV.same s (each k u v h1 h2)⟩
      rcases ab with ⟨h1, h2⟩ | ⟨h1, h2⟩
      · exact .inl ⟨rd_same s h1, rd_same s h2⟩
      · exact .inr ⟨rd_same s h1, rd_same s h2⟩
theorem SameV.of0 {H : Hp} : ∀ {d : Nat} {x y : V}, ScalV x y → SameV d H x y
  | 0, _, _, h => h
  | _ + 1, _, _, h => .inl h
theorem ty_lst {K : PySem.W.Frag} {H : Hp} {a : Addr} {xs : List V} (h : Rd H a (.lst xs)) : TyX K H (.ref a) (.type "list") := by
  rcases h with h | ⟨o, h⟩
  · exact .base (.lst h)
  · exact .base (.frz h)
theorem ty_tup {K : PySem.W.Frag} {H : Hp} {a : Addr} {xs : List V} (h : Rd H a (.tup xs)) : TyX K H (.ref a) (.type "tuple") := by
  rcases h with h | ⟨o, h⟩
  · exact .base (.tup h)
  · exact .fTuple h
section
variable {P : Program} {w : World} {K : PySem.W.Frag} {mg : Str → Option Value} {base : Heap}
def spSame : Nat → Sp
  | 0 => fun _ _ _ _ => False
  | d + 1 => fun vs H Q _ => ∃ x y : V, vs = [x, y] ∧ SameV d H x y ∧ ∀ H', Same H H' → Q (.bl true) H'
theorem sc__law_same : FnScope ["_law_found", "_law_due", "_law_k"] ["_law_found", "_law_due"] (defScope s__law_same) := ⟨rfl, rfl, rfl, by decide +kernel, rfl, by decide +kernel, by decide +kernel⟩
theorem ok_same (T : Tx K mg) : ∀ d : Nat, Has P w K mg base (He.ga K "_law_same") (d + 1) ["_law_found", "_law_due"] (spSame d)
  | 0 => by
    obtain ⟨fd, F⟩ := T.d__law_same
    exact ⟨⟨fd, F.ok sc__law_same (fun vs H Q E h => h.elim) (fun cdv A outer s H vs Q E hr h => h.elim), F.bindsN fun _ _ _ _ _ _ us hl => match us, hl with | [_, _], _ => rfl⟩, F.kp⟩
  | d + 1 => by
    obtain ⟨⟨fd_law_same, F_law_same, b_law_same⟩, kp_law_same⟩ := ok_same T d
    obtain ⟨fd, F⟩ := T.d__law_same
    refine ⟨⟨fd, F.ok sc__law_same (fun vs H Q E h => ?_) (fun cdv A outer s H vs Q E hr h => ?_), F.bindsN fun _ _ _ _ _ _ us hl => match us, hl with | [_, _], _ => rfl⟩, F.kp⟩
    · obtain ⟨x, y, rfl, _⟩ := h
      rfl
    · obtain ⟨x, y, rfl, sv, h⟩ := h
      have hr_law_same : Room (d + 1) _ := hr
      refine ⟨_, PSs.nox (pss_cons (ps_if (pt_cmpR op_isN (pv 1) pe_non (nomark _)) (pss_one (ps_ret (pe_cmpR op_isN (pv 0) pe_non (nomark _)))) pss_nil)
      (pss_cons (ps_if (pt_val (pe_callB (isiTK (K := K)) (by rfl) T.free_isinstance (by decide +kernel) (pa_cons (pv 1) (pa_cons (pe_tup (pa_cons (pe_bltn (v := .ty "list") (u := .type "list") (by rfl) T.free_list (by decide +kernel) rfl) (pa_cons (pe_bltn (v := .ty "tuple") (u := .type "tuple") (by rfl) T.free_tuple (by decide +kernel) rfl) pa_nil))) pa_nil)))) (pss_cons (ps_if (PW.pt (pw_or (pt_cmpR op_ne (pe_callB (isiK (K := K)) (by rfl) T.free_isinstance (by decide +kernel) (pa_cons (pv 0) (pa_cons (pe_bltn (v := .ty "list") (u := .type "list") (by rfl) T.free_list (by decide +kernel) rfl) pa_nil))) (pe_callB (isiK (K := K)) (by rfl) T.free_isinstance (by decide +kernel) (pa_cons (pv 1) (pa_cons (pe_bltn (v := .ty "list") (u := .type "list") (by rfl) T.free_list (by decide +kernel) rfl) pa_nil))) (nomark _)) (pw_or1 (pt_cmpR op_ne (pe_callB (isiK (K := K)) (by rfl) T.free_isinstance (by decide +kernel) (pa_cons (pv 0) (pa_cons (pe_bltn (v := .ty "tuple") (u := .type "tuple") (by rfl) T.free_tuple (by decide +kernel) rfl) pa_nil))) (pe_callB (isiK (K := K)) (by rfl) T.free_isinstance (by decide +kernel) (pa_cons (pv 1) (pa_cons (pe_bltn (v := .ty "tuple") (u := .type "tuple") (by rfl) T.free_tuple (by decide +kernel) rfl) pa_nil))) (nomark _))))) (pss_one (ps_ret pe_bl)) pss_nil)
      (pss_one (ps_ret (pe_and (pe_cmpR op_eq (pe_callB (lenK (K := K)) (by rfl) T.free_len (by decide +kernel) (pa_cons (pv 0) pa_nil)) (pe_callB (lenK (K := K)) (by rfl) T.free_len (by decide +kernel) (pa_cons (pv 1) pa_nil)) (nomark _)) (pe_one (pe_callB (allK (K := K)) (by rfl) T.free_all (by decide +kernel) (pa_cons (pe_lc (own := [("_law_k", 2)]) (g := (gName 2)) (tt := tYes) rfl sc__law_same.nd (pi_range1 (by rfl) T.free_range (pa_cons (pe_callB (lenK (K := K)) (by rfl) T.free_len (by decide +kernel) (pa_cons (pv 1) pa_nil)) pa_nil)) (blkOk_by (by kernel_rfl)) (fun _ _ _ _ _ => (pg_name (i := 2) sc__law_same.nd rfl (Or.inl rfl))) (fun _ _ _ _ _ => pts_nil) (fun _ _ _ _ _ => (pe_call F_law_same hr_law_same rfl T.glo_law_same kp_law_same b_law_same .nil pass0 (pa_cons (pe_ix (ixS (K := K)) (pv 0) (pv 2) (fun _ _ => rfl)) (pa_cons (pe_ix (ixS (K := K)) (pv 1) (pv 2) (fun _ _ => rfl)) pa_nil))))) pa_nil))))))) pss_nil)
      (pss_cons (ps_if (PW.pt (pw_or (pt_cmpR op_ne (pe_callB (isiK (K := K)) (by rfl) T.free_isinstance (by decide +kernel) (pa_cons (pv 0) (pa_cons (pe_bltn (v := .ty "bool") (u := .type "bool") (by rfl) T.free_bool (by decide +kernel) rfl) pa_nil))) (pe_callB (isiK (K := K)) (by rfl) T.free_isinstance (by decide +kernel) (pa_cons (pv 1) (pa_cons (pe_bltn (v := .ty "bool") (u := .type "bool") (by rfl) T.free_bool (by decide +kernel) rfl) pa_nil))) (nomark _)) (pw_or1 (pt_cmpR op_ne (pe_callB (isiK (K := K)) (by rfl) T.free_isinstance (by decide +kernel) (pa_cons (pv 0) (pa_cons (pe_bltn (v := .ty "str") (u := .type "str") (by rfl) T.free_str (by decide +kernel) rfl) pa_nil))) (pe_callB (isiK (K := K)) (by rfl) T.free_isinstance (by decide +kernel) (pa_cons (pv 1) (pa_cons (pe_bltn (v := .ty "str") (u := .type "str") (by rfl) T.free_str (by decide +kernel) rfl) pa_nil))) (nomark _))))) (pss_one (ps_ret pe_bl)) pss_nil)
      (pss_one (ps_ret (pe_and (pe_cmpR op_eq (pe_callB (isiK (K := K)) (by rfl) T.free_isinstance (by decide +kernel) (pa_cons (pv 0) (pa_cons (pe_bltn (v := .ty "int") (u := .type "int") (by rfl) T.free_int (by decide +kernel) rfl) pa_nil))) (pe_callB (isiK (K := K)) (by rfl) T.free_isinstance (by decide +kernel) (pa_cons (pv 1) (pa_cons (pe_bltn (v := .ty "int") (u := .type "int") (by rfl) T.free_int (by decide +kernel) rfl) pa_nil))) (nomark _)) (pe_one (pe_cmpR op_eq (pv 0) (pv 1) (nomark _))))))))), ?_⟩
      have sv' : ScalV x y ∨ ∃ (a b : Addr) (xs ys : List V), x = .ref a ∧ y = .ref b ∧ ((Rd H a (.lst xs) ∧ Rd H b (.lst ys)) ∨ (Rd H a (.tup xs) ∧ Rd H b (.tup ys))) ∧ xs.length = ys.length ∧ xs.length ≤ 1000 ∧ ∃ d', d = d' + 1 ∧ ∀ (k : Nat) (u v : V), xs[k]? = some u → ys[k]? = some v → SameV d' H u v := by
        match d, sv with
        | 0, sv => exact .inl sv
        | d' + 1, .inl sv => exact .inl sv
        | d' + 1, .inr ⟨a, b, xs, ys, e1, e2, e3, e4, e5, e6⟩ => exact .inr ⟨a, b, xs, ys, e1, e2, e3, e4, e5, d', rfl, e6⟩
      rcases sv' with ⟨rfl, h4⟩ | ⟨a, b, xs, ys, rfl, rfl, ab, l1, l2, d', rfl, each⟩
      · rcases h4 with ⟨i, rfl⟩ | ⟨b, rfl⟩ | rfl | ⟨z, rfl⟩
        · refine ⟨_, rfl, rfl, _, rfl, iteF ?_⟩
          refine ⟨_, rfl, (by show 2 ≤ sizeLine; decide), fun tp htp => ?_⟩
          have s1 := same_upd (o := HO.tup [V.ty "list", V.ty "tuple"]) htp
          refine ⟨_, tp, _, _, _, false, rfl, upd_same, .cons (.ty _) (.cons (.ty _) .nil), .base (.int i), kitAny_cons (kit_ty (b := "list") (r := false) (by decide +kernel)) (fun _ => kitAny_cons (kit_ty (b := "tuple") (r := false) (by decide +kernel)) (fun _ => kitAny_nil) (fun z => by cases z)) (fun z => by cases z), _, rfl, iteF ?_⟩
          refine ⟨_, rfl, _, _, _, _, false, rfl, .ty _, .base (.int i), kit_ty (by decide +kernel), _, rfl, _, _, _, _, false, rfl, .ty _, .base (.int i), kit_ty (by decide +kernel), rfl, _, rfl, iteF ?_⟩
          refine ⟨_, rfl, _, _, _, _, false, rfl, .ty _, .base (.int i), kit_ty (by decide +kernel), _, rfl, _, _, _, _, false, rfl, .ty _, .base (.int i), kit_ty (by decide +kernel), rfl, _, rfl, iteF ?_⟩
          refine ⟨_, rfl, _, _, _, _, true, rfl, .ty _, .base (.int i), kit_ty (by decide +kernel), _, rfl, _, _, _, _, true, rfl, .ty _, .base (.int i), kit_ty (by decide +kernel), rfl, _, rfl, iteT ⟨_, rfl, _, rfl, rfl, ?_⟩⟩
          rw [decide_eq_true rfl]
          exact h _ s1
        · refine ⟨_, rfl, rfl, _, rfl, iteF ?_⟩
          refine ⟨_, rfl, (by show 2 ≤ sizeLine; decide), fun tp htp => ?_⟩
          have s1 := same_upd (o := HO.tup [V.ty "list", V.ty "tuple"]) htp
          refine ⟨_, tp, _, _, _, false, rfl, upd_same, .cons (.ty _) (.cons (.ty _) .nil), .base (.bl b), kitAny_cons (kit_ty (b := "list") (r := false) (by decide +kernel)) (fun _ => kitAny_cons (kit_ty (b := "tuple") (r := false) (by decide +kernel)) (fun _ => kitAny_nil) (fun z => by cases z)) (fun z => by cases z), _, rfl, iteF ?_⟩
          refine ⟨_, rfl, _, _, _, _, true, rfl, .ty _, .base (.bl b), kit_ty (by decide +kernel), _, rfl, _, _, _, _, true, rfl, .ty _, .base (.bl b), kit_ty (by decide +kernel), rfl, _, rfl, iteF ?_⟩
          refine ⟨_, rfl, _, _, _, _, false, rfl, .ty _, .base (.bl b), kit_ty (by decide +kernel), _, rfl, _, _, _, _, false, rfl, .ty _, .base (.bl b), kit_ty (by decide +kernel), rfl, _, rfl, iteF ?_⟩
          refine ⟨_, rfl, _, _, _, _, true, rfl, .ty _, .base (.bl b), kit_ty (by decide +kernel), _, rfl, _, _, _, _, true, rfl, .ty _, .base (.bl b), kit_ty (by decide +kernel), rfl, _, rfl, iteT ⟨_, rfl, _, rfl, rfl, ?_⟩⟩
          rw [decide_eq_true rfl]
          exact h _ s1
        · exact ⟨_, rfl, rfl, _, rfl, iteT ⟨_, rfl, rfl, h H fun _ _ e => e⟩⟩
        · refine ⟨_, rfl, rfl, _, rfl, iteF ?_⟩
          refine ⟨_, rfl, (by show 2 ≤ sizeLine; decide), fun tp htp => ?_⟩
          have s1 := same_upd (o := HO.tup [V.ty "list", V.ty "tuple"]) htp
          refine ⟨_, tp, _, _, _, false, rfl, upd_same, .cons (.ty _) (.cons (.ty _) .nil), .base (.str z), kitAny_cons (kit_ty (b := "list") (r := false) (by decide +kernel)) (fun _ => kitAny_cons (kit_ty (b := "tuple") (r := false) (by decide +kernel)) (fun _ => kitAny_nil) (fun z => by cases z)) (fun z => by cases z), _, rfl, iteF ?_⟩
          refine ⟨_, rfl, _, _, _, _, false, rfl, .ty _, .base (.str z), kit_ty (by decide +kernel), _, rfl, _, _, _, _, false, rfl, .ty _, .base (.str z), kit_ty (by decide +kernel), rfl, _, rfl, iteF ?_⟩
          refine ⟨_, rfl, _, _, _, _, true, rfl, .ty _, .base (.str z), kit_ty (by decide +kernel), _, rfl, _, _, _, _, true, rfl, .ty _, .base (.str z), kit_ty (by decide +kernel), rfl, _, rfl, iteF ?_⟩
          refine ⟨_, rfl, _, _, _, _, false, rfl, .ty _, .base (.str z), kit_ty (by decide +kernel), _, rfl, _, _, _, _, false, rfl, .ty _, .base (.str z), kit_ty (by decide +kernel), rfl, _, rfl, iteT ⟨_, rfl, _, rfl, rfl, ?_⟩⟩
          rw [decide_eq_true rfl]
          exact h _ s1
      · have each' : ∀ {H1 : Hp} (k : Nat) (u v : V), Same H H1 → xs[k]? = some u → ys[k]? = some v → SameV d' H1 u v := fun k u v s1 h1 h2 => (each k u v h1 h2).same s1
        refine ⟨_, rfl, rfl, _, rfl, iteF ?_⟩
        refine ⟨_, rfl, (by show 2 ≤ sizeLine; decide), fun tp htp => ?_⟩
        have s1 := same_upd (o := HO.tup [V.ty "list", V.ty "tuple"]) htp
        have h1 : (upd H tp (HO.tup [V.ty "list", V.ty "tuple"])) tp = some (.tup [V.ty "list", V.ty "tuple"]) := upd_same
        generalize upd H tp (HO.tup [V.ty "list", V.ty "tuple"]) = H1 at s1 h1
        rcases ab with ⟨ra, rb⟩ | ⟨ra, rb⟩
        · refine ⟨_, tp, _, _, _, true, rfl, h1, .cons (.ty _) (.cons (.ty _) .nil), ty_lst (rd_same s1 rb), kitAny_cons (kit_ty (b := "list") (r := true) (by decide +kernel)) (fun z => by cases z) (fun _ => rfl), _, rfl, iteT ?_⟩
          refine ⟨_, rfl, _, _, _, _, true, rfl, .ty _, ty_lst (rd_same s1 ra), kit_ty (by decide +kernel), _, rfl, _, _, _, _, true, rfl, .ty _, ty_lst (rd_same s1 rb), kit_ty (by decide +kernel), rfl, _, rfl, iteF ?_⟩
          refine ⟨_, rfl, _, _, _, _, false, rfl, .ty _, ty_lst (rd_same s1 ra), kit_ty (by decide +kernel), _, rfl, _, _, _, _, false, rfl, .ty _, ty_lst (rd_same s1 rb), kit_ty (by decide +kernel), rfl, _, rfl, iteF ?_⟩
          refine ⟨_, rfl, a, xs, rfl, .inl (.inl (rd_same s1 ra)), _, rfl, b, ys, rfl, .inl (.inl (rd_same s1 rb)), rfl, _, rfl, ?_⟩
          rw [l1, decide_eq_true rfl]
          refine iteT ⟨_, rfl, b, ys, rfl, .inl (.inl (rd_same s1 rb)), _, rfl, by omega, by omega, fun D hD => ?_⟩
          refine lc_range (lo := 0) (n := ((ys.length : Nat) : Int).toNat) (fun k H2 => H2 D = some (.lst ((List.replicate k true).map V.bl)) ∧ Same H1 H2) ⟨upd_same, same_upd hD⟩ ?_ ?_
          · rintro k H2 hk ⟨h2, s2⟩
            have kl : k < ys.length := by omega
            have s12 := s1.trans s2
            have hu : xs[k]? = some (xs[k]'(by omega)) := List.getElem?_eq_getElem _
            have hv : ys[k]? = some (ys[k]) := List.getElem?_eq_getElem _
            refine ⟨rfl, yesT ?_⟩
            refine ⟨_, rfl, _, rfl, .inl ⟨a, _, _, _, rfl, rfl, .inl (rd_same s12 ra), at0 hu, _, rfl, _, rfl, .inl ⟨b, _, _, _, rfl, rfl, .inl (rd_same s12 rb), at0 hv, _, _, rfl, each' k _ _ s12 hu hv, fun H3 s3 => ?_⟩⟩⟩
            refine ⟨_, s3 _ _ h2, ?_, ?_, same_mut (s2.trans s3) hD⟩
            · rw [List.length_map, List.length_replicate]
              exact Nat.lt_of_le_of_lt (show k ≤ 1000 by omega) (by decide)
            · rw [upd_same, List.replicate_succ', List.map_append]
              rfl
          · rintro H2 ⟨h2, s2⟩
            refine ⟨D, _, rfl, SqL.of h2, ?_⟩
            rw [show (List.replicate ((ys.length : Nat) : Int).toNat true).all id = true from List.all_eq_true.mpr fun z hz => by rw [(List.mem_replicate.mp hz).2]; rfl]
            exact h _ (s1.trans s2)
        · refine ⟨_, tp, _, _, _, true, rfl, h1, .cons (.ty _) (.cons (.ty _) .nil), ty_tup (rd_same s1 rb), kitAny_cons (kit_ty (b := "list") (r := false) (by decide +kernel)) (fun _ => kitAny_cons (kit_ty (b := "tuple") (r := true) (by decide +kernel)) (fun z => by cases z) (fun _ => rfl)) (fun z => by cases z), _, rfl, iteT ?_⟩
          refine ⟨_, rfl, _, _, _, _, false, rfl, .ty _, ty_tup (rd_same s1 ra), kit_ty (by decide +kernel), _, rfl, _, _, _, _, false, rfl, .ty _, ty_tup (rd_same s1 rb), kit_ty (by decide +kernel), rfl, _, rfl, iteF ?_⟩
          refine ⟨_, rfl, _, _, _, _, true, rfl, .ty _, ty_tup (rd_same s1 ra), kit_ty (by decide +kernel), _, rfl, _, _, _, _, true, rfl, .ty _, ty_tup (rd_same s1 rb), kit_ty (by decide +kernel), rfl, _, rfl, iteF ?_⟩
          refine ⟨_, rfl, a, xs, rfl, .inr (.inl (rd_same s1 ra)), _, rfl, b, ys, rfl, .inr (.inl (rd_same s1 rb)), rfl, _, rfl, ?_⟩
          rw [l1, decide_eq_true rfl]
          refine iteT ⟨_, rfl, b, ys, rfl, .inr (.inl (rd_same s1 rb)), _, rfl, by omega, by omega, fun D hD => ?_⟩
          refine lc_range (lo := 0) (n := ((ys.length : Nat) : Int).toNat) (fun k H2 => H2 D = some (.lst ((List.replicate k true).map V.bl)) ∧ Same H1 H2) ⟨upd_same, same_upd hD⟩ ?_ ?_
          · rintro k H2 hk ⟨h2, s2⟩
            have kl : k < ys.length := by omega
            have s12 := s1.trans s2
            have hu : xs[k]? = some (xs[k]'(by omega)) := List.getElem?_eq_getElem _
            have hv : ys[k]? = some (ys[k]) := List.getElem?_eq_getElem _
            refine ⟨rfl, yesT ?_⟩
            refine ⟨_, rfl, _, rfl, .inr (.inl ⟨a, _, _, _, rfl, rfl, .inl (rd_same s12 ra), at0 hu, _, rfl, _, rfl, .inr (.inl ⟨b, _, _, _, rfl, rfl, .inl (rd_same s12 rb), at0 hv, _, _, rfl, each' k _ _ s12 hu hv, fun H3 s3 => ?_⟩)⟩)⟩
            refine ⟨_, s3 _ _ h2, ?_, ?_, same_mut (s2.trans s3) hD⟩
            · rw [List.length_map, List.length_replicate]
              exact Nat.lt_of_le_of_lt (show k ≤ 1000 by omega) (by decide)
            · rw [upd_same, List.replicate_succ', List.map_append]
              rfl
          · rintro H2 ⟨h2, s2⟩
            refine ⟨D, _, rfl, SqL.of h2, ?_⟩
            rw [show (List.replicate ((ys.length : Nat) : Int).toNat true).all id = true from List.all_eq_true.mpr fun z hz => by rw [(List.mem_replicate.mp hz).2]; rfl]
            exact h _ (s1.trans s2)
end
end RL
namespace RL
open PySem PySem.Spec PyProof.Rows L2 RLM
theorem LotsAt.same {n : Nat} {H H' : Hp} {D : Addr} {m : Nat} {p : Nat → Nat → Prop} (s : Same H H') (h : LotsAt n H D m p) : LotsAt n H' D m p := by
  obtain ⟨us, h1, l1, r1⟩ := h.ex
  exact ⟨⟨us, s _ _ h1, l1, fun k v e => s _ _ (r1 k v e)⟩⟩
/-- two lists of the same lots are alike -/
theorem lots_same {n m : Nat} {H : Hp} {a b : Addr} {p : Nat → Nat → Prop} (n8 : n ≤ 8) (m13 : m ≤ 13) (ha : LotsAt n H a m p) (hb : LotsAt n H b m p) : SameV 2 H (.ref a) (.ref b) := by
  obtain ⟨us, h1, l1, r1⟩ := ha.ex
  obtain ⟨vs, h2, l2, r2⟩ := hb.ex
  refine .inr ⟨a, b, _, _, rfl, rfl, .inl ⟨.inl h1, .inl h2⟩, by simp [l1, l2], by rw [List.length_map]; omega, fun k x y e1 e2 => ?_⟩
  obtain ⟨u, hu, rfl⟩ := get_mapV e1
  obtain ⟨v, hv, rfl⟩ := get_mapV e2
  refine .inr ⟨u, v, _, _, rfl, rfl, .inr ⟨.inl (r1 k u hu), .inl (r2 k v hv)⟩, rfl, ?_, fun j x y e1 e2 => ?_⟩
  · rw [List.length_map]
    have := lotP_len n (p k)
    omega
  · rw [e1] at e2
    cases e2
    obtain ⟨z, _, rfl⟩ := get_mapV e1
    exact ⟨rfl, .inl ⟨_, rfl⟩⟩
end RL
namespace RL
open PySem PySem.Spec PyProof.Rows L2 RLM
theorem lot_same {n : Nat} {H : Hp} {a b : Addr} {p q : Nat → Prop} (n8 : n ≤ 8) (ha : H a = some (.tup ((lotP n p).map vI))) (hb : H b = some (.tup ((lotP n q).map vI))) (e : lotP n p = lotP n q) : SameV 1 H (.ref a) (.ref b) := by
  rw [← e] at hb
  refine .inr ⟨a, b, _, _, rfl, rfl, .inr ⟨.inl ha, .inl hb⟩, rfl, ?_, fun j x y e1 e2 => ?_⟩
  · rw [List.length_map]
    have := lotP_len n p
    omega
  · rw [e1] at e2
    cases e2
    obtain ⟨z, _, rfl⟩ := get_mapV e1
    exact ⟨rfl, .inl ⟨_, rfl⟩⟩
theorem cut_to (k : Nat) {xs : List V} : cutV xs none (some (k : Int)) = xs.take k := by
  unfold cutV
  rw [HT.sIx_none, HT.sIx_nat, List.drop_zero, Nat.sub_zero]
  rcases Nat.le_total k xs.length with z | z
  · rw [Nat.min_eq_left z]
  · rw [Nat.min_eq_right z, List.take_of_length_le z, List.take_of_length_le (Nat.le_refl _)]
theorem last_of {us : List Addr} {j : Nat} {u : Addr} (l : us.length = j + 1) (h : us[j]? = some u) : atI (us.map V.ref) (-1) = some (V.ref u) := by
  have e : us = us.take j ++ [u] := by
    have e := List.take_append_drop j us
    rw [List.drop_eq_getElem_cons (by omega), List.drop_of_length_le (by omega)] at e
    have e2 : us[j]'(by omega) = u := by
      rw [List.getElem?_eq_getElem (by omega)] at h
      exact Option.some.inj h
    rw [e2] at e
    exact e.symm
  rw [e, List.map_append]
  exact atI_last _ _
theorem SameV.up {H : Hp} : ∀ {d : Nat} {x y : V}, SameV d H x y → SameV (d + 1) H x y
  | 0, _, _, h => .inl h
  | d + 1, x, y, h => by
    rcases h with h | ⟨a, b, xs, ys, e1, e2, ab, l1, l2, each⟩
    · exact .inl h
    · exact .inr ⟨a, b, xs, ys, e1, e2, ab, l1, l2, fun k u v h1 h2 => SameV.up (each k u v h1 h2)⟩
/-- [x for x in xs if t(x)], the x standing by f -/
theorem lc_filtG {α : Type} {J : It} {n : Nat} {G : Hp → Prop} {Y : Nat → Hp → V → Hp → Prop} {g : TG} {tt : TT} {te : TE} {vs : List Nat} {σ : L2.St} {H : Hp} {D : Addr} {Qd : Hp → Prop} (w : Walk J n G Y) (xs : List α) (f : α → V) (t : α → Bool) (hx : n = xs.length) (hn : n ≤ 10000000) (hD : H D = none) (hG : ∀ H1, Same H H1 → G H1)
    (hs : ∀ i b x H1 H2 (N1 : V → Hp → Prop) (N0 : Hp → Prop), xs[i]? = some b → Same H H1 → Y i H1 x H2 → (∀ H4, t b = true → Same H1 H4 → N1 (f b) H4) → (∀ H4, t b = false → Same H1 H4 → N0 H4) →
      g x (wipe σ vs) H2 fun σ2 H3 => wipe σ2 vs = wipe σ vs ∧ tt σ2 H3 fun c H4 => if c = true then te σ2 H4 N1 else N0 H4)
    (hd : ∀ H1, H1 D = some (.lst ((xs.filter t).map f)) → Same H H1 → Qd H1) :
    ∃ W : Nat → Nat → Hp → Prop, (∃ m, W 0 m (upd H D (.lst []))) ∧ ∀ i m H, W i m H →
      (J.stop i H ∧ Qd H) ∨ (J.go i H ∧ ∃ Nx : Hp → Prop, (∀ H', Nx H' → ∃ m', m' < m ∧ W (i + 1) m' H') ∧ ∀ x H', J.yld i H x H' → g x (wipe σ vs) H' fun σ2 H2 => wipe σ2 vs = wipe σ vs ∧ tt σ2 H2 fun b H3 =>
        if b = true then te σ2 H3 fun y H4 => ∃ acc, H4 D = some (.lst acc) ∧ acc.length < sizeLine ∧ Nx (upd H4 D (.lst (acc ++ [y]))) else Nx H3) := by
  refine lc_it w (fun i H1 => H1 D = some (.lst (((xs.take i).filter t).map f)) ∧ Same H H1) ⟨upd_same, same_upd hD⟩ (fun i H1 _ ⟨_, s1⟩ => hG H1 s1) ?_ (fun H1 ⟨h1, h2⟩ => hd H1 (by rw [hx, List.take_length] at h1; exact h1) h2)
  rintro i x H1 H2 hi ⟨h1, s1⟩ hY
  have hb : xs[i]? = some (xs[i]'(by omega)) := List.getElem?_eq_getElem _
  generalize xs[i]'(by omega) = b at hb
  have et : xs.take (i + 1) = xs.take i ++ [b] := by
    rw [List.take_add_one, hb]
    rfl
  refine hs i b x H1 H2 _ _ hb s1 hY (fun H4 tb s4 => ⟨_, s4 _ _ h1, ?_, ?_, same_mut (s1.trans s4) hD⟩) (fun H4 tb s4 => ⟨?_, s1.trans s4⟩)
  · rw [List.length_map]
    refine Nat.lt_of_le_of_lt (List.length_filter_le _ _) (Nat.lt_of_le_of_lt (?_ : _ ≤ 10000000) (by decide))
    rw [List.length_take]
    omega
  · rw [upd_same, et, List.filter_append, List.filter_cons, if_pos tb, List.map_append]
    rfl
  · rw [s4 _ _ h1, et, List.filter_append, List.filter_cons, if_neg (by rw [tb]; exact Bool.false_ne_true), List.filter_nil, List.append_nil]
end RL
namespace RL
open PySem PySem.Spec PyProof.Rows L2 RLM
/-- where a walk can be next that has begun so -/
def nextP (p : Nat → Prop) (E : List (Nat × Nat)) (PS : List (Addr × List Nat)) (ws : List Nat) (b : Nat) : Prop := match ws.length with
  | 0 => p b
  | i + 1 => stepR E PS i (ws.getLastD 0) b
/-- it has begun so far -/
def Begun (n : Nat) (p : Nat → Prop) (R : Nat → Nat → Nat → Prop) (ws : List Nat) : Prop := match ws.length with
  | 0 => True
  | i + 1 => Goes n p R i ws
theorem goes_inv {n : Nat} {S : Nat → Prop} {R : Nat → Nat → Nat → Prop} : ∀ {i : Nat} {w : List Nat}, Goes n S R i w → w.length = i + 1 := fun h => h.len
/-- one more place -/
theorem begun_next {n : Nat} {p : Nat → Prop} {E : List (Nat × Nat)} {PS : List (Addr × List Nat)} {ws : List Nat} {b : Nat} : Begun n p (stepR E PS) (ws ++ [b]) ↔ Begun n p (stepR E PS) ws ∧ b < n ∧ nextP p E PS ws b := by
  unfold Begun nextP
  rw [List.length_append]
  show Goes n p (stepR E PS) ws.length (ws ++ [b]) ↔ _
  cases e : ws.length with
  | zero =>
    have : ws = [] := List.eq_nil_of_length_eq_zero e
    subst this
    show Goes n p (stepR E PS) 0 [b] ↔ True ∧ b < n ∧ p b
    unfold RLM.Goes
    constructor
    · rintro ⟨a, h1, h2, h3⟩
      cases h3
      exact ⟨trivial, h1, h2⟩
    · rintro ⟨_, h1, h2⟩
      exact ⟨b, h1, h2, rfl⟩
  | succ i =>
    show (∃ v c, Goes n p (stepR E PS) i v ∧ c < n ∧ stepR E PS i (v.getLastD 0) c ∧ ws ++ [b] = v ++ [c]) ↔ Goes n p (stepR E PS) i ws ∧ b < n ∧ stepR E PS i (ws.getLastD 0) b
    constructor
    · rintro ⟨v, c, g, cn, r, e2⟩
      obtain ⟨e3, e4⟩ := List.append_inj' e2 rfl
      cases e4
      subst e3
      exact ⟨g, cn, r⟩
    · rintro ⟨g, bn, r⟩
      exact ⟨ws, b, g, bn, r, rfl⟩
theorem begun_take {n : Nat} {p : Nat → Prop} {E : List (Nat × Nat)} {PS : List (Addr × List Nat)} {ws : List Nat} (h : Begun n p (stepR E PS) ws) : ∀ i, i ≤ ws.length → Begun n p (stepR E PS) (ws.take i) := fun i => by
  intro hi
  have key : ∀ d, d ≤ ws.length → Begun n p (stepR E PS) (ws.take (ws.length - d)) := fun d => by
    induction d with
    | zero =>
      intro _
      rw [Nat.sub_zero, List.take_length]
      exact h
    | succ d ih =>
      intro hd
      have ih := ih (by omega)
      have e : ws.take (ws.length - d) = ws.take (ws.length - (d + 1)) ++ [ws[ws.length - (d + 1)]'(by omega)] := by
        rw [show ws.length - d = (ws.length - (d + 1)) + 1 by omega, List.take_add_one, List.getElem?_eq_getElem (by omega)]
        rfl
      rw [e] at ih
      exact (begun_next.1 ih).1
  have := key (ws.length - i) (by omega)
  rwa [show ws.length - (ws.length - i) = i by omega] at this
theorem begun_lt {n : Nat} {p : Nat → Prop} {R : Nat → Nat → Nat → Prop} {ws : List Nat} (h : Begun n p R ws) {j b : Nat} (e : ws[j]? = some b) : b < n := by
  unfold Begun at h
  cases e2 : ws.length with
  | zero =>
    rw [List.eq_nil_of_length_eq_zero e2] at e
    simp at e
  | succ i =>
    rw [e2] at h
    have g : Goes n p R i ws := h
    clear h e2
    have key : ∀ {i : Nat} {w : List Nat}, Goes n p R i w → ∀ {j b : Nat}, w[j]? = some b → b < n := fun {i} => by
      induction i with
      | zero =>
        rintro w ⟨a, an, _, e⟩ j b h
        subst e
        cases j with
        | zero =>
          have : a = b := by simpa using h
          omega
        | succ j => simp at h
      | succ i ih =>
        rintro w ⟨v, c, g, cn, _, e⟩ j b h
        subst e
        by_cases hj : j < v.length
        · rw [List.getElem?_append_left hj] at h
          exact ih g h
        · rw [List.getElem?_append_right (by omega)] at h
          have z : j - v.length = 0 := by
            have := (List.getElem?_eq_some_iff.mp h).1
            simp at this
            omega
          rw [z] at h
          have : c = b := by simpa using h
          omega
    exact key g e
theorem nI_inj : ∀ {xs ys : List Nat}, xs.map nI = ys.map nI → xs = ys
  | [], [], _ => rfl
  | [], _ :: _, h => by cases h
  | _ :: _, [], h => by cases h
  | x :: xs, y :: ys, h => by
    have h := List.cons.inj h
    have e : x = y := by
      have := h.1
      unfold nI at this
      omega
    rw [e, nI_inj h.2]
/-- a tuple of ints is a walk -/
def GoZ (n m : Nat) (p : Nat → Prop) (R : Nat → Nat → Nat → Prop) (zs : List Int) : Prop := ∃ ws : List Nat, zs = ws.map nI ∧ Goes n p R m ws
def FitZ (n m : Nat) (p : Nat → Prop) (R : Nat → Nat → Nat → Prop) (O : Nat → Nat → Prop) (zs : List Int) : Prop := ∃ ws : List Nat, zs = ws.map nI ∧ Fit n m p R O ws
theorem goes_begun {n m : Nat} {p : Nat → Prop} {R : Nat → Nat → Nat → Prop} {ws : List Nat} : Goes n p R m ws ↔ ws.length = m + 1 ∧ Begun n p R ws := by
  unfold Begun
  constructor
  · intro h
    refine ⟨h.len, ?_⟩
    rw [h.len]
    exact h
  · rintro ⟨l, h⟩
    rw [l] at h
    exact h
theorem in_lotZ (z : Int) (xs : List Nat) : inV (V.int z) (xs.map vI) = decide (∃ b, b ∈ xs ∧ nI b = z) := by
  unfold inV
  rw [List.any_map]
  refine Bool.eq_iff_iff.mpr ?_
  rw [List.any_eq_true, decide_eq_true_iff]
  refine exists_congr fun b => and_congr_right fun _ => ?_
  show ((b : Int) == z) = true ↔ _
  rw [beq_iff_eq]
  rfl
section
variable {P : Program} {w : World} {K : PySem.W.Frag} {mg : Str → Option Value} {base : Heap}
def spNext (K : PySem.W.Frag) : Sp := fun vs H Q _ => ∃ (c x s t : Addr) (n : Nat) (E : List (Nat × Nat)) (p : Nat → Prop) (PS : List (Addr × List Nat)) (SN : List (Addr × V × Triple)) (ws : List Nat), vs = [.ref x, .ref s, .ref t] ∧ BoardAt K c H x n E ∧ StoryAt n H s p PS SN ∧ H t = some (.tup (ws.map vI)) ∧ ws.length ≤ PS.length ∧ (∀ b ∈ ws, b < n) ∧
  ∀ H' u, H' u = some (.tup ((lotP n (nextP p E PS ws)).map vI)) → Same H H' → Q (.ref u) H'
def spIsWalk (K : PySem.W.Frag) : Sp := fun vs H Q _ => ∃ (c x s t : Addr) (n : Nat) (E : List (Nat × Nat)) (p : Nat → Prop) (PS : List (Addr × List Nat)) (SN : List (Addr × V × Triple)) (zs : List Int), vs = [.ref x, .ref s, .ref t] ∧ BoardAt K c H x n E ∧ StoryAt n H s p PS SN ∧ H t = some (.tup (zs.map V.int)) ∧
  ∀ H', Same H H' → Q (.bl (decB (GoZ n PS.length p (stepR E PS) zs))) H'
end
end RL
namespace RL
open PySem PySem.Spec PyProof.Rows L2 RLM
/-- a walk misses the triple with this number -/
noncomputable def missT (M : Nat → Nat → Nat) (ws : List Nat) (q : Addr × V × Triple) : Bool := !decide (ans M q.2.2.look (ws.getD q.2.2.beat 0) = q.2.2.told)
noncomputable def missN (M : Nat → Nat → Nat) (SN : List (Addr × V × Triple)) (ws : List Nat) (k : Nat) : Bool := match SN[k]? with
  | some q => missT M ws q
  | none => false
theorem miss_none {M : Nat → Nat → Nat} {SN : List (Addr × V × Triple)} {ws : List Nat} {m : Nat} (lw : ws.length = m + 1) (hb : ∀ q ∈ SN, q.2.2.beat ≤ m) : ((List.range SN.length).filter (missN M SN ws)).length = 0 ↔ ∀ (j b : Nat), ws[j]? = some b → openP M SN j b := by
  rw [List.length_eq_zero_iff, List.filter_eq_nil_iff]
  constructor
  · intro h j b e q hq ej
    obtain ⟨k, hk, eq⟩ := List.getElem_of_mem hq
    have h1 := h k (List.mem_range.mpr hk)
    unfold missN missT at h1
    rw [List.getElem?_eq_getElem hk, eq] at h1
    have h2 : ws.getD q.2.2.beat 0 = b := by rw [ej, List.getD_eq_getElem?_getD, e]; rfl
    have h1 : ¬ (!decide (ans M q.2.2.look (ws.getD q.2.2.beat 0) = q.2.2.told)) = true := h1
    rw [h2] at h1
    simpa using h1
  · intro h k hk
    have hk := List.mem_range.mp hk
    have eq : SN[k]? = some SN[k] := List.getElem?_eq_getElem hk
    unfold missN missT
    rw [eq]
    have hq := List.getElem_mem hk
    have bl := hb _ hq
    have e : ws[SN[k].2.2.beat]? = some (ws.getD SN[k].2.2.beat 0) := by
      rw [List.getD_eq_getElem?_getD, List.getElem?_eq_getElem (by omega)]
      rfl
    have := h _ _ e SN[k] hq rfl
    show ¬ (!decide (ans M SN[k].2.2.look (ws.getD SN[k].2.2.beat 0) = SN[k].2.2.told)) = true
    rw [decide_eq_true this]
    decide
section
variable {P : Program} {w : World} {K : PySem.W.Frag} {mg : Str → Option Value} {base : Heap}
def spMissed (K : PySem.W.Frag) : Sp := fun vs H Q _ => ∃ (c x s t : Addr) (n : Nat) (E : List (Nat × Nat)) (M : Nat → Nat → Nat) (p : Nat → Prop) (PS : List (Addr × List Nat)) (SN : List (Addr × V × Triple)) (ws : List Nat), vs = [.ref x, .ref s, .ref t] ∧ BoardAt K c H x n E ∧ Spans n E M ∧ StoryAt n H s p PS SN ∧ H t = some (.tup (ws.map vI)) ∧ ws.length = PS.length + 1 ∧ (∀ b ∈ ws, b < n) ∧
  ∀ H' l, H' l = some (.lst (((List.range SN.length).filter (missN M SN ws)).map vI)) → H l = none → Same H H' → Q (.ref l) H'
def spFits (K : PySem.W.Frag) : Sp := fun vs H Q _ => ∃ (c x s t : Addr) (n : Nat) (E : List (Nat × Nat)) (M : Nat → Nat → Nat) (p : Nat → Prop) (PS : List (Addr × List Nat)) (SN : List (Addr × V × Triple)) (zs : List Int), vs = [.ref x, .ref s, .ref t] ∧ BoardAt K c H x n E ∧ Spans n E M ∧ StoryAt n H s p PS SN ∧ (∃ a, a < n ∧ p a) ∧ H t = some (.tup (zs.map V.int)) ∧
  ∀ H', Same H H' → Q (.bl (decB (FitZ n PS.length p (stepR E PS) (openP M SN) zs))) H'
end
end RL
namespace RL
open PySem PySem.Spec PyProof.Rows L2 RLM
/-- how many walks go on from a at beat i, each beat in its lot -/
noncomputable def cntN (n m : Nat) (R : Nat → Nat → Nat → Prop) (O : Nat → Nat → Prop) (i a : Nat) : Nat := if decB (O i a) = true then (tails n m R O (m - i) a).length else 0
theorem cnt_in {n m i a : Nat} {R : Nat → Nat → Nat → Prop} {O : Nat → Nat → Prop} (h : O i a) : cntN n m R O i a = (tails n m R O (m - i) a).length := if_pos (decB_true.mpr h)
theorem cnt_out {n m i a : Nat} {R : Nat → Nat → Nat → Prop} {O : Nat → Nat → Prop} (h : ¬ O i a) : cntN n m R O i a = 0 := if_neg fun z => h (decB_true.mp z)
theorem cnt_last {n m a : Nat} {R : Nat → Nat → Nat → Prop} {O : Nat → Nat → Prop} (h : O m a) : cntN n m R O m a = 1 := by
  rw [cnt_in h, Nat.sub_self]
  rfl
/-- a sum over those that are let -/
theorem sum_let {n : Nat} {A : Nat → Prop} {O : Nat → Prop} {f : Nat → Nat} (g : Nat → Nat) (h1 : ∀ b, b < n → O b → g b = f b) (h2 : ∀ b, b < n → ¬ O b → g b = 0) : ((lotP n A).map g).sum = ((lotP n fun b => A b ∧ O b).map f).sum := by
  have e : lotP n (fun b => A b ∧ O b) = (lotP n A).filter fun b => decB (O b) := by
    refine (lotP_of ((lotP_sorted n A).filter _) fun b => ?_).symm
    rw [List.mem_filter, mem_lotP, decB_true]
    exact ⟨fun z => ⟨z.1.1, z.1.2, z.2⟩, fun z => ⟨⟨z.1, z.2.1⟩, z.2.2⟩⟩
  rw [e]
  have key : ∀ xs : List Nat, (∀ b ∈ xs, b < n) → (xs.map g).sum = ((xs.filter fun b => decB (O b)).map f).sum := fun xs => by
    induction xs with
    | nil => intro _; rfl
    | cons b xs ih =>
      intro hx
      have bn := hx b (by simp)
      have ih' := ih fun c hc => hx c (List.mem_cons_of_mem _ hc)
      rw [List.map_cons, List.sum_cons, List.filter_cons]
      cases e : decB (O b) with
      | true =>
        rw [if_pos rfl, List.map_cons, List.sum_cons, ih', h1 b bn (decB_true.mp e)]
      | false =>
        rw [if_neg (by simp), ih', h2 b bn (fun z => by rw [decB_true.mpr z] at e; cases e), Nat.zero_add]
  exact key _ fun b hb => (mem_lotP.mp hb).1
theorem cnt_next {n m i a : Nat} {R : Nat → Nat → Nat → Prop} {O : Nat → Nat → Prop} (hi : i < m) (h : O i a) : cntN n m R O i a = ((lotP n (R i a)).map (cntN n m R O (i + 1))).sum := by
  rw [cnt_in h, show m - i = (m - (i + 1)) + 1 by omega, tails_many, show m - (m - (i + 1) + 1) = i by omega, show m - (m - (i + 1)) = i + 1 by omega]
  exact (sum_let _ (fun b _ ob => cnt_in ob) (fun b _ ob => cnt_out ob)).symm
theorem walks_cnt {n m : Nat} {S : Nat → Prop} {R : Nat → Nat → Nat → Prop} {O : Nat → Nat → Prop} : (walks n m S R O).length = ((lotP n S).map (cntN n m R O 0)).sum := by
  rw [walks_many]
  refine (sum_let _ (fun b _ ob => ?_) (fun b _ ob => cnt_out ob)).symm
  rw [cnt_in ob, Nat.sub_zero]
theorem sum_nI (xs : List Nat) : (xs.map nI).sum = nI xs.sum := by
  induction xs with
  | nil => rfl
  | cons x xs ih =>
    rw [List.map_cons, List.sum_cons, ih, List.sum_cons]
    show (x : Int) + ((xs.sum : Nat) : Int) = (((x + xs.sum : Nat)) : Int)
    omega
/-- rows of counts, as lists -/
structure CountsAt (n : Nat) (H : Hp) (D : Addr) (m : Nat) (f : Nat → Nat → Nat) : Prop where
  ex : ∃ us : List Addr, H D = some (.lst (us.map V.ref)) ∧ us.length = m ∧ ∀ (i : Nat) (u : Addr), us[i]? = some u → H u = some (.lst ((List.range n).map fun a => vI (f i a)))
theorem CountsAt.same {n : Nat} {H H' : Hp} {D : Addr} {m : Nat} {f : Nat → Nat → Nat} (s : Same H H') (h : CountsAt n H D m f) : CountsAt n H' D m f := by
  obtain ⟨us, h1, l1, r1⟩ := h.ex
  exact ⟨⟨us, s _ _ h1, l1, fun k v e => s _ _ (r1 k v e)⟩⟩
theorem cut_init {us : List Addr} {m : Nat} (l : us.length = m + 1) : cutV (us.map V.ref) none (some (-1)) = (us.take m).map V.ref := by
  unfold cutV
  rw [HT.sIx_none, List.drop_zero, Nat.sub_zero, List.length_map, l]
  show (us.map V.ref).take ((-1 + ((m + 1 : Nat) : Int)).toNat) = _
  rw [show (-1 + ((m + 1 : Nat) : Int)).toNat = m by omega, List.map_take]
section
variable {P : Program} {w : World} {K : PySem.W.Frag} {mg : Str → Option Value} {base : Heap}
def spCounts (K : PySem.W.Frag) : Sp := fun vs H Q _ => ∃ (c x tp l : Addr) (n : Nat) (E : List (Nat × Nat)) (PS : List (Addr × List Nat)) (O : Nat → Nat → Prop), vs = [.ref x, .ref tp, .ref l] ∧ BoardAt K c H x n E ∧ H tp = some (.tup (PS.map fun q => V.ref q.1)) ∧ (∀ q ∈ PS, H q.1 = some (.tup (q.2.map vI)) ∧ PaceOk n q.2) ∧ PS.length ≤ 12 ∧ LotsAt n H l (PS.length + 1) O ∧
  ∀ H' r, CountsAt n H' r (PS.length + 1) (cntN n PS.length (stepR E PS) O) → H r = none → Same H H' → Q (.ref r) H'
def spCountAll : Sp := fun vs H Q _ => ∃ (s r : Addr) (n m : Nat) (p : Nat → Prop) (PS : List (Addr × List Nat)) (SN : List (Addr × V × Triple)) (f : Nat → Nat → Nat), vs = [.ref s, .ref r] ∧ n ≤ 8 ∧ StoryAt n H s p PS SN ∧ CountsAt n H r (m + 1) f ∧ ∀ H', Same H H' → Q (vI ((lotP n p).map (f 0)).sum) H'
end
end RL
/-! How many triples each place misses. -/
namespace RL
open PySem PySem.Spec PyProof.Rows L2 RLM
/-- a table of numbers, m rows of n -/
structure GridAt (H : Hp) (D : Addr) (m n : Nat) (rs : List Addr) (f : Nat → Nat → Nat) : Prop where
  at_ : H D = some (.lst (rs.map V.ref))
  len : rs.length = m
  nd : rs.Nodup
  nD : D ∉ rs
  row : ∀ (i : Nat) (r : Addr), rs[i]? = some r → H r = some (.lst ((List.range n).map fun j => vI (f i j)))
theorem GridAt.same {H H' : Hp} {D : Addr} {m n : Nat} {rs : List Addr} {f : Nat → Nat → Nat} (s : Same H H') (h : GridAt H D m n rs f) : GridAt H' D m n rs f :=
  ⟨s _ _ h.at_, h.len, h.nd, h.nD, fun i r e => s _ _ (h.row i r e)⟩
theorem GridAt.get {H : Hp} {D : Addr} {m n : Nat} {rs : List Addr} {f : Nat → Nat → Nat} (h : GridAt H D m n rs f) {a : Nat} (ha : a < m) : ∃ r, rs[a]? = some r ∧ H r = some (.lst ((List.range n).map fun j => vI (f a j))) := by
  have e : a < rs.length := by rw [h.len]; exact ha
  exact ⟨rs[a], List.getElem?_eq_getElem e, h.row a _ (List.getElem?_eq_getElem e)⟩
theorem GridAt.eq {H : Hp} {D : Addr} {m n : Nat} {rs : List Addr} {f g : Nat → Nat → Nat} (h : GridAt H D m n rs f) (e : ∀ i j, i < m → j < n → f i j = g i j) : GridAt H D m n rs g := by
  refine ⟨h.at_, h.len, h.nd, h.nD, fun i r q => ?_⟩
  have il := (List.getElem?_eq_some_iff.mp q).1
  rw [h.row i r q]
  congr 2
  refine List.map_congr_left fun j hj => ?_
  rw [e i j (by rw [← h.len]; exact il) (List.mem_range.mp hj)]
theorem GridAt.put {H : Hp} {D : Addr} {m n : Nat} {rs : List Addr} {f : Nat → Nat → Nat} (h : GridAt H D m n rs f) {a b v : Nat} {r : Addr} (hr : rs[a]? = some r) :
    GridAt (upd H r (.lst (((List.range n).map fun j => vI (f a j)).set b (vI v)))) D m n rs (RLM.put f a b v) := by
  have mr : r ∈ rs := List.mem_of_getElem? hr
  refine ⟨?_, h.len, h.nd, h.nD, fun i r' e => ?_⟩
  · rw [upd_ne (fun z => h.nD (by rw [z]; exact mr))]
    exact h.at_
  · by_cases ei : i = a
    · subst ei
      rw [hr] at e
      cases e
      rw [upd_same]
      congr 2
      apply List.ext_getElem
      · simp
      · intro j h1 h2
        rw [List.getElem_set]
        simp only [List.getElem_map, List.getElem_range]
        by_cases eb : b = j
        · subst eb
          rw [if_pos rfl, put_at]
        · rw [if_neg eb, put_ne _ (fun z => eb z.2.symm)]
    · have ne : r' ≠ r := fun z => by
        subst z
        obtain ⟨h1, e1⟩ := List.getElem?_eq_some_iff.mp e
        obtain ⟨h2, e2⟩ := List.getElem?_eq_some_iff.mp hr
        exact ei ((List.getElem_inj h.nd).mp (e1.trans e2.symm))
      rw [upd_ne ne, h.row i r' e]
      congr 2
      refine List.map_congr_left fun j _ => ?_
      rw [put_ne _ (fun z => ei z.1)]
theorem GridAt.eq' {H H' : Hp} {D : Addr} {m n : Nat} {rs : List Addr} {f g : Nat → Nat → Nat} (h : GridAt H D m n rs f) (eH : H = H') (e : ∀ i j, i < m → j < n → f i j = g i j) : GridAt H' D m n rs g := eH ▸ h.eq e
theorem GridAt.counts {H : Hp} {D : Addr} {m n : Nat} {rs : List Addr} {f : Nat → Nat → Nat} (h : GridAt H D m n rs f) : CountsAt n H D m f := ⟨⟨rs, h.at_, h.len, h.row⟩⟩
section
variable {J : It} {n : Nat} {G : Hp → Prop} {Y : Nat → Hp → V → Hp → Prop} {g : TG} {te : TE} {vs : List Nat} {σ : L2.St} {H : Hp} {D : Addr} {Qd : Hp → Prop}
/-- [.. for x in ..], each a new list -/
theorem lc_rows (w : Walk J n G Y) (gr : Nat → List V) (hn : n ≤ 100000) (hD : H D = none) (hG : ∀ H1, Same H H1 → G H1)
    (hs : ∀ i x H1 H2 (Nx : V → Hp → Prop), i < n → Same H H1 → Y i H1 x H2 → (∀ r H4, H4 r = some (.lst (gr i)) → H1 r = none → Same H1 H4 → Nx (.ref r) H4) → g x (wipe σ vs) H2 fun σ2 H3 => wipe σ2 vs = wipe σ vs ∧ te σ2 H3 Nx)
    (hd : ∀ (H1 : Hp) (rs : List Addr), H1 D = some (.lst (rs.map V.ref)) → rs.length = n → rs.Nodup → D ∉ rs → (∀ r ∈ rs, H r = none) → (∀ (k : Nat) (r : Addr), rs[k]? = some r → H1 r = some (.lst (gr k))) → Same H H1 → Qd H1) :
    ∃ W : Nat → Nat → Hp → Prop, (∃ m, W 0 m (upd H D (.lst []))) ∧ ∀ i m H, W i m H →
      (J.stop i H ∧ Qd H) ∨ (J.go i H ∧ ∃ Nx : Hp → Prop, (∀ H', Nx H' → ∃ m', m' < m ∧ W (i + 1) m' H') ∧ ∀ x H', J.yld i H x H' → g x (wipe σ vs) H' fun σ2 H2 => wipe σ2 vs = wipe σ vs ∧ tYes σ2 H2 fun b H3 =>
        if b = true then te σ2 H3 fun y H4 => ∃ acc, H4 D = some (.lst acc) ∧ acc.length < sizeLine ∧ Nx (upd H4 D (.lst (acc ++ [y]))) else Nx H3) := by
  refine lc_it w (fun i H1 => ∃ rs : List Addr, H1 D = some (.lst (rs.map V.ref)) ∧ rs.length = i ∧ rs.Nodup ∧ D ∉ rs ∧ (∀ r ∈ rs, H r = none) ∧ (∀ (k : Nat) (r : Addr), rs[k]? = some r → H1 r = some (.lst (gr k))) ∧ Same H H1)
    ⟨[], upd_same, rfl, List.nodup_nil, by simp, by simp, fun k r e => (by simp at e), same_upd hD⟩ (fun i H1 _ ⟨_, _, _, _, _, _, _, s1⟩ => hG H1 s1) ?_ (fun H1 ⟨rs, h1, h2, h3, h4, h5, h6, h7⟩ => hd H1 rs h1 h2 h3 h4 h5 h6 h7)
  rintro i x H1 H2 hi ⟨rs, hrs, lrs, ndr, nD, Hr, row, s1⟩ hY
  refine hs i x H1 H2 _ hi s1 hY fun D2 H4 h4 hD2 s4 => ?_
  have D2D : D ≠ D2 := fun z => by rw [← z, hrs] at hD2; cases hD2
  have Hd2 : H D2 = none := s1.free hD2
  have rD2 : D2 ∉ rs := fun z => by
    obtain ⟨k, hk, e⟩ := List.getElem_of_mem z
    have := row k D2 (by rw [List.getElem?_eq_getElem hk, e])
    rw [this] at hD2
    cases hD2
  refine ⟨_, s4 _ _ hrs, ?_, rs ++ [D2], ?_, by simp [lrs], ?_, ?_, ?_, ?_, same_mut (s1.trans s4) hD⟩
  · rw [List.length_map]
    exact Nat.lt_of_le_of_lt (show rs.length ≤ 100000 by omega) (by decide)
  · rw [upd_same, List.map_append]
    rfl
  · rw [List.nodup_append]
    refine ⟨ndr, by simp, fun x hx y hy z => ?_⟩
    rw [z, List.mem_singleton.mp hy] at hx
    exact rD2 hx
  · intro z
    rcases List.mem_append.mp z with z | z
    · exact nD z
    · exact D2D (List.mem_singleton.mp z)
  · intro r hr
    rcases List.mem_append.mp hr with hr | hr
    · exact Hr r hr
    · rw [List.mem_singleton.mp hr]
      exact Hd2
  · intro k r e
    by_cases hk : k < rs.length
    · rw [List.getElem?_append_left hk] at e
      have mr : r ∈ rs := List.mem_of_getElem? e
      rw [upd_ne (fun z : r = D => nD (z ▸ mr))]
      exact s4 _ _ (row k r e)
    · rw [List.getElem?_append_right (by omega)] at e
      have ek : k = rs.length := by
        obtain ⟨h1, _⟩ := List.getElem?_eq_some_iff.mp e
        simp at h1
        omega
      rw [ek, Nat.sub_self] at e
      cases e
      rw [upd_ne (Ne.symm D2D), h4, ek, lrs]
end
/-- a triple is missed at a place -/
noncomputable def msT (M : Nat → Nat → Nat) (q : Addr × V × Triple) (b : Nat) : Bool := !decide (ans M q.2.2.look b = q.2.2.told)
noncomputable def missC (M : Nat → Nat → Nat) (SN : List (Addr × V × Triple)) : Nat → Nat → Nat := missG (fun q => q.2.2.beat) (msT M) SN
theorem missC_len {M : Nat → Nat → Nat} {SN : List (Addr × V × Triple)} {ws : List Nat} (h : ∀ q ∈ SN, q.2.2.beat < ws.length) : ((List.range SN.length).filter (missN M SN ws)).length = costW (missC M SN) ws := by
  unfold missC
  rw [costW_miss _ _ _ _ h]
  refine range_filt fun k q hq => ?_
  unfold missN
  rw [hq]
  rfl
theorem missC_le {M : Nat → Nat → Nat} {SN : List (Addr × V × Triple)} {i b : Nat} : missC M SN i b ≤ SN.length := List.length_filter_le _ _
section
variable {P : Program} {w : World} {K : PySem.W.Frag} {mg : Str → Option Value} {base : Heap}
def spMissC (K : PySem.W.Frag) : Sp := fun vs H Q _ => ∃ (c x s : Addr) (n : Nat) (E : List (Nat × Nat)) (M : Nat → Nat → Nat) (p : Nat → Prop) (PS : List (Addr × List Nat)) (SN : List (Addr × V × Triple)), vs = [.ref x, .ref s] ∧ BoardAt K c H x n E ∧ Spans n E M ∧ StoryAt n H s p PS SN ∧
  ∀ H' D rs, GridAt H' D (PS.length + 1) n rs (missC M SN) → H D = none → (∀ r ∈ rs, H r = none) → Same H H' → Q (.ref D) H'
theorem sc_miss_counts : FnScope ["board", "story", "counts", "beat", "look", "answer", "place", "given"] ["board", "story"] (defScope s_miss_counts) := ⟨rfl, rfl, rfl, by decide +kernel, rfl, by decide +kernel, by decide +kernel⟩
theorem ok_missC (T : Tx K mg) : Has P w K mg base (He.ga K "miss_counts") 8 ["board", "story"] (spMissC K) := by
  obtain ⟨⟨fd_last_beat, F_last_beat, b_last_beat⟩, kp_last_beat⟩ := ok_last (P := P) (w := w) (base := base) T
  obtain ⟨⟨fd_len, F_len, b_len⟩, kp_len⟩ := ok_len (P := P) (w := w) (base := base) T
  obtain ⟨⟨fd_answers, F_answers, b_answers⟩, kp_answers⟩ := ok_answers (P := P) (w := w) (base := base) T
  obtain ⟨fd, F⟩ := T.d_miss_counts
  refine ⟨⟨fd, F.ok sc_miss_counts (fun vs H Q E h => ?_) (fun cdv A outer s H vs Q E hr h => ?_), F.bindsN fun _ _ _ _ _ _ us hl => match us, hl with | [_, _], _ => rfl⟩, F.kp⟩
  · obtain ⟨c, x, s, n, E, M, p, PS, SN, rfl, _⟩ := h
    rfl
  · obtain ⟨c, x, sa, n, E, M, p, PS, SN, rfl, B, S, SA, h⟩ := h
    have hr_last_beat : Room 1 _ := hr.mono (by decide)
    have hr_len : Room 2 _ := hr.mono (by decide)
    have hr_answers : Room 7 _ := hr.mono (by decide)
    refine ⟨_, PSs.nox (pss_cons (ps_setLc (i := 2) (own := [("beat", 3)]) (g := (gName 3)) (tt := tYes) rfl sc_miss_counts.nd rfl rfl (sw_true rfl rfl rfl (by decide +kernel)) (pi_range1 (by rfl) T.free_range (pa_cons (pe_op op_add (pe_call F_last_beat hr_last_beat rfl T.glo_last_beat kp_last_beat b_last_beat .nil pass0 (pa_cons (pv 1) pa_nil)) pe_int) pa_nil)) (blkOk_by (by kernel_rfl)) (fun _ _ _ _ _ => (pg_name (i := 3) sc_miss_counts.nd rfl (Or.inl rfl))) (fun _ _ _ _ _ => pts_nil) (fun _ _ _ _ _ => (pe_op op_rep (pe_lst (pa_cons pe_int pa_nil)) (pe_callB (call_lenOwn T.m_len F_len b_len hr_len) (by rfl) T.free_len (by decide +kernel) (pa_cons (pv 0) pa_nil)))))
      (pss_cons (ps_for PassesOwn.never rfl (piT (K := K) (pe_ix (ixT (K := K)) (pv 1) pe_int (fun _ _ => rfl))) (pgT (K := K) (n := 3) rfl (pgs_cons (pg_name (i := 3) sc_miss_counts.nd rfl (Or.inl rfl)) (pgs_cons (pg_name (i := 4) sc_miss_counts.nd rfl (Or.inl rfl)) (pgs_cons (pg_name (i := 5) sc_miss_counts.nd rfl (Or.inl rfl)) pgs_nil)))) (pss_one (ps_for PassesOwn.never rfl (piEnumT (K := K) (by rfl) T.free_enumerate (pa_cons (pe_call F_answers hr_answers rfl T.glo_answers kp_answers b_answers .nil pass0 (pa_cons (pv 0) (pa_cons (pv 4) pa_nil))) pa_nil)) (pgT (K := K) (n := 2) rfl (pgs_cons (pg_name (i := 6) sc_miss_counts.nd rfl (Or.inl rfl)) (pgs_cons (pg_name (i := 7) sc_miss_counts.nd rfl (Or.inl rfl)) pgs_nil))) (pss_one (ps_if (pt_cmpR op_ne (pv 7) (pv 5) (nomark _)) (pss_one (ps_augS (pe_ix (ixL (K := K)) (pv 2) (pv 3) (fun _ _ => rfl)) (pv 6) (getLs (K := K)) pe_int ip_add set_list)) pss_nil)))))
      (pss_one (ps_ret (pv 2))))), ?_⟩
    obtain ⟨tl, tp, ts, hs, htl, htp, hts⟩ := SA.ex
    have n8 := B.hi
    have n1 := B.lo
    have lp := SA.lp
    have ls := SA.ls
    refine ⟨_, rfl, sa, n, p, PS, SN, rfl, SA, _, _, rfl, rfl, _, rfl, by omega, by omega, fun D hD => ?_⟩
    refine lc_rows (walk_range (lo := 0) (n := ((((PS.length : Nat) : Int) + 1)).toNat)) (fun _ => (List.range n).map fun _ => vI 0) (by omega) hD (fun _ _ => trivial) ?_ ?_
    · rintro i y H1 H2 Nx hi s1 ⟨rfl, ey⟩ k
      have B1 := B.same s1
      obtain ⟨dx, q1, q2, q3, hx⟩ := B1.obj
      refine ⟨rfl, (by show 1 ≤ sizeLine; decide), fun l hl => ?_⟩
      have s2 := same_upd (o := HO.lst [V.int 0]) hl
      have h2 : (upd H2 l (.lst [V.int 0])) l = some (.lst [V.int 0]) := upd_same
      generalize upd H2 l (.lst [V.int 0]) = H3 at s2 h2
      refine ⟨_, rfl, x, dx, _, rfl, s2 _ _ hx, c, x, n, E, rfl, B1.same s2, (n : Int), rfl, by omega, by omega, l, (n : Int), _, rfl, rfl, h2, by omega, by omega, Nat.le_trans (show 1 * ((n : Int)).toNat ≤ 8 by omega) (by decide), fun r hr => k r _ ?_ (s2.free hr) (s2.trans (same_upd hr))⟩
      rw [upd_same, Int.toNat_natCast, rep_flat]
      congr 2
      rw [List.map_const', List.length_range]
      rfl
    intro H1 rs hrs lrs ndr nD Hr row s1
    have lrs : rs.length = PS.length + 1 := by omega
    have G1 : GridAt H1 D (PS.length + 1) n rs (missC M (SN.take 0)) := ⟨hrs, lrs, ndr, nD, row⟩
    refine ⟨_, rfl, sa, _, 2, _, rfl, rfl, SqT.of (s1 _ _ hs), rfl, ts, rfl, ⟨_, SqT.of (s1 _ _ hts)⟩, for_tup (K := K) (a := ts) (xs := SN.map fun q => V.ref q.1) (fun i σ H2 => ∃ (v3 v4 v5 v6 v7 : Option V), σ = [some (.ref x), some (.ref sa), some (.ref D), v3, v4, v5, v6, v7] ∧ GridAt H2 D (PS.length + 1) n rs (missC M (SN.take i)) ∧ Same H H2)
      ⟨_, _, _, _, _, rfl, G1, s1⟩ (fun i σ H2 _ ⟨_, _, _, _, _, _, _, s2⟩ => SqT.of (s2 _ _ hts)) ?_ ?_⟩
    · rintro i y σ H2 hy ⟨v3, v4, v5, v6, v7, rfl, G2, s2⟩
      obtain ⟨q, hq, rfl⟩ := get_mapV hy
      have mq := SA.sn q (List.mem_of_getElem? hq)
      have TR := mq.1.same s2
      have et : SN.take (i + 1) = SN.take i ++ [q] := by
        rw [List.take_add_one, hq]
        rfl
      refine ⟨q.1, _, rfl, SqT.of TR.1, rfl, _, _, rfl, _, _, rfl, _, _, rfl, rfl, ?_⟩
      refine ⟨_, rfl, _, rfl, c, x, q.2.1, n, E, M, _, rfl, B.same s2, S, TR.2.1, TR.2.2, fun H3 ta hta s3 => ?_⟩
      have s23 := s2.trans s3
      refine ⟨ta, _, rfl, SqT.of hta, for_it (walk_enumT (K := K) (a := ta) (xs := ((List.range n).map (ans M q.2.2.look)).map vI)) (fun j σ H4 => ∃ (v6 v7 : Option V), σ = [some (.ref x), some (.ref sa), some (.ref D), some (vI q.2.2.beat), some q.2.1, some (vI q.2.2.told), v6, v7] ∧ GridAt H4 D (PS.length + 1) n rs (fun a b => missC M (SN.take i) a b + if decide (q.2.2.beat = a) && (decide (b < j) && msT M q b) then 1 else 0) ∧ Same H H4 ∧ H4 ta = some (.tup (((List.range n).map (ans M q.2.2.look)).map vI)))
        ⟨_, _, rfl, (G2.same s3).eq fun a b _ _ => by simp, s23, hta⟩ (fun j σ H4 _ ⟨_, _, _, _, _, z⟩ => SqT.of z) ?_ ?_⟩
      · rintro j y σ H4 H5 hj ⟨w6, w7, rfl, G4, s4, hta4⟩ ⟨T1, y1, y2, rfl, hT, rfl, e1, e2⟩
        have hjn : j < n := by simpa using hj
        cases (Option.some.inj e1)
        have ey2 : y2 = vI (ans M q.2.2.look j) := by
          have e2 : (((List.range n).map (ans M q.2.2.look)).map vI)[j]? = some y2 := e2
          rw [List.getElem?_map, List.getElem?_map, List.getElem?_range hjn] at e2
          exact (Option.some.inj e2).symm
        subst ey2
        have s5 : Same H4 (upd H4 T1 (.tup [.int (j : Nat), vI (ans M q.2.2.look j)])) := same_upd hT
        have hT5 : (upd H4 T1 (.tup [.int (j : Nat), vI (ans M q.2.2.look j)])) T1 = some (.tup [.int (j : Nat), vI (ans M q.2.2.look j)]) := upd_same
        generalize upd H4 T1 (.tup [.int (j : Nat), vI (ans M q.2.2.look j)]) = H5 at s5 hT5
        have G5 := G4.same s5
        have s45 := s4.trans s5
        refine ⟨T1, _, rfl, SqT.of hT5, rfl, _, _, rfl, _, _, rfl, rfl, ?_⟩
        have eb : (!decide (vI (ans M q.2.2.look j) = vI q.2.2.told)) = msT M q j := by
          unfold msT
          congr 1
          rw [decide_eq_decide]
          unfold vI
          exact ⟨fun z => by have := V.int.inj z; omega, fun z => by rw [z]⟩
        refine ⟨_, rfl, _, rfl, rfl, _, rfl, ?_⟩
        show if (!decide (vI (ans M q.2.2.look j) = vI q.2.2.told)) = true then _ else _
        rw [eb]
        refine ite2 (fun z => ?_) (fun z => ?_)
        · have bl : q.2.2.beat < PS.length + 1 := by
            have := mq.2
            omega
          obtain ⟨r, hr1, hr2⟩ := G5.get bl
          have ner : ta ≠ r := ne_of (s5 _ _ hta4) hr2 (by intro e; cases e)
          refine ⟨_, rfl, _, rfl, D, _, _, _, rfl, rfl, SqL.of G5.at_, atI_nat (get_map hr1), _, rfl, r, _, j, _, rfl, rfl, SqL.of hr2, row_get hjn, _, _, rfl, rfl, r, _, _, j, rfl, rfl, hr2, ixN_nat (by simp [hjn]), ?_⟩
          refine ⟨_, _, rfl, ?_, same_mut s45 (Hr r (List.mem_of_getElem? hr1)), by rw [upd_ne ner]; exact s5 _ _ hta4⟩
          refine (G5.put hr1 (b := j) (v := missC M (SN.take i) q.2.2.beat j + 1)).eq' ?_ fun a b _ _ => ?_
          · simp
            rfl
          · unfold RLM.put
            by_cases e : a = q.2.2.beat ∧ b = j
            · obtain ⟨e1, e2⟩ := e
              subst e1 e2
              rw [if_pos ⟨rfl, rfl⟩, z]
              simp
            · rw [if_neg e]
              show missC M (SN.take i) a b + (if (decide (q.2.2.beat = a) && (decide (b < j) && msT M q b)) = true then 1 else 0) = _
              congr 2
              by_cases ea : q.2.2.beat = a
              · have ne : b ≠ j := fun y => e ⟨ea.symm, y⟩
                rw [show decide (b < j) = decide (b < j + 1) from decide_eq_decide.mpr (by omega)]
              · rw [decide_eq_false ea, Bool.false_and, Bool.false_and]
        · refine ⟨_, _, rfl, G5.eq fun a b _ _ => ?_, s45, s5 _ _ hta4⟩
          congr 2
          by_cases e : b = j
          · subst e
            rw [Bool.eq_false_iff.mpr z]
            simp
          · rw [show decide (b < j) = decide (b < j + 1) from decide_eq_decide.mpr (by omega)]
      · rintro σ H4 ⟨w6, w7, rfl, G4, s4, hta4⟩
        refine ⟨_, _, _, _, _, rfl, G4.eq fun a b _ hb => ?_, s4⟩
        rw [et]
        unfold missC
        rw [missG_snoc]
        congr 2
        rw [List.length_map, List.length_map, List.length_range, decide_eq_true hb, Bool.true_and]
    · rintro σ H2 ⟨v3, v4, v5, v6, v7, rfl, G2, s2⟩
      rw [List.length_map, List.take_length] at G2
      exact ⟨_, rfl, h H2 D rs G2 hD Hr s2⟩
end
end RL
/-! Which places must be in which lots of a table. -/
namespace RL
open PySem PySem.Spec PyProof.Rows L2 RLM
/-- needs, as a dict's pairs -/
def nK (L : List (Nat × Nat)) : List (Key × V) := L.map fun q => ((Sum.inl (nI q.1) : Key), vI q.2)
theorem nK_append (L M : List (Nat × Nat)) : nK (L ++ M) = nK L ++ nK M := List.map_append
theorem key_inj {a b : Nat} : ((Sum.inl (nI a) : Key) = Sum.inl (nI b)) ↔ a = b := by
  constructor
  · intro e
    have := Sum.inl.inj e
    unfold nI at this
    omega
  · intro e
    rw [e]
theorem val_in {b v : Nat} : ∀ {L : List (Nat × Nat)}, (L.map (·.1)).Nodup → (b, v) ∈ L → valV (nK L) (Sum.inl (nI b) : Key) = some (vI v)
  | [], _, h => by cases h
  | q :: L, nd, h => by
    have nd' := List.nodup_cons.mp nd
    rcases List.mem_cons.mp h with e | h
    · subst e
      exact valV_pos rfl
    · have ne : q.1 ≠ b := fun e => nd'.1 (List.mem_map.mpr ⟨(b, v), h, e.symm⟩)
      show valV ((Sum.inl (nI q.1), vI q.2) :: nK L) _ = _
      rw [valV_neg fun e => ne (key_inj.1 e)]
      exact val_in nd'.2 h
theorem val_out {b : Nat} : ∀ {L : List (Nat × Nat)}, (∀ v, (b, v) ∉ L) → valV (nK L) (Sum.inl (nI b) : Key) = none
  | [], _ => rfl
  | q :: L, h => by
    have ne : q.1 ≠ b := fun e => h q.2 (by rw [← e]; exact List.mem_cons_self ..)
    show valV ((Sum.inl (nI q.1), vI q.2) :: nK L) _ = _
    rw [valV_neg fun e => ne (key_inj.1 e)]
    exact val_out fun v hv => h v (List.mem_cons_of_mem _ hv)
theorem put_out {b v : Nat} {L : List (Nat × Nat)} (h : ∀ v, (b, v) ∉ L) : putK (nK L) (Sum.inl (nI b) : Key) (vI v) = nK (L ++ [(b, v)]) := by
  rw [putK_new _ (val_out h), nK_append]
  rfl
structure NeedAt (n : Nat) (H : Hp) (d : Addr) (L : List (Nat × Nat)) : Prop where
  at_ : H d = some (.dK (nK L))
  nd : (L.map (·.1)).Nodup
  lt : ∀ q ∈ L, q.1 < n
theorem NeedAt.same {n : Nat} {H H' : Hp} {d : Addr} {L : List (Nat × Nat)} (s : Same H H') (h : NeedAt n H d L) : NeedAt n H' d L := ⟨s _ _ h.at_, h.nd, h.lt⟩
theorem nodup_le : ∀ {m : Nat} {xs : List Nat}, xs.Nodup → (∀ x ∈ xs, x < m) → xs.length ≤ m
  | 0, xs, _, h => by
    cases xs with
    | nil => exact Nat.le_refl _
    | cons x xs => exact absurd (h x (by simp)) (Nat.not_lt_zero _)
  | m + 1, xs, nd, h => by
    have := nodup_le (m := m) (nd.erase m) fun x hx => by
      have h1 := h x (List.mem_of_mem_erase hx)
      have h2 := (nd.mem_erase_iff.mp hx).1
      omega
    rw [List.length_erase] at this
    split at this <;> omega
theorem NeedAt.len {n : Nat} {H : Hp} {d : Addr} {L : List (Nat × Nat)} (h : NeedAt n H d L) : L.length ≤ n := by
  have := nodup_le h.nd fun x hx => by
    obtain ⟨q, hq, e⟩ := List.mem_map.mp hx
    rw [← e]
    exact h.lt q hq
  rw [List.length_map] at this
  exact this
/-- a new pair -/
theorem NeedAt.add {n : Nat} {H H' : Hp} {d : Addr} {L : List (Nat × Nat)} {b v : Nat} (h : NeedAt n H d L) (no : ∀ v, (b, v) ∉ L) (bn : b < n) (e : H' d = some (.dK (putK (nK L) (Sum.inl (nI b) : Key) (vI v)))) : NeedAt n H' d (L ++ [(b, v)]) := by
  refine ⟨by rw [e, put_out no], ?_, fun q hq => ?_⟩
  · rw [List.map_append, List.nodup_append]
    refine ⟨h.nd, by simp, fun x hx y hy z => ?_⟩
    obtain ⟨q, hq, e1⟩ := List.mem_map.mp hx
    have : y = b := by simpa using hy
    exact no q.2 (by rw [← this, ← z, ← e1]; exact hq)
  · rcases List.mem_append.mp hq with z | z
    · exact h.lt q z
    · rw [List.mem_singleton.mp z]
      exact bn
theorem sorted_lot {n : Nat} {p : Nat → Prop} {ns : List Int} {xs : List Nat} (pm : ns.Perm (xs.map nI)) (pw : ns.Pairwise (· ≤ ·)) (nd : xs.Nodup) (hm : ∀ b, b ∈ xs ↔ b < n ∧ p b) : ns = (lotP n p).map nI := by
  have e1 : ns = (ns.map Int.toNat).map nI := by
    rw [List.map_map]
    have : ns.map id = ns.map (nI ∘ Int.toNat) := List.map_congr_left fun z hz => by
      obtain ⟨b, _, e⟩ := List.mem_map.mp (pm.mem_iff.mp hz)
      rw [← e]
      show nI b = ((((b : Nat) : Int).toNat : Nat) : Int)
      rw [Int.toNat_natCast]
      rfl
    rw [List.map_id] at this
    exact this
  have pm2 : (ns.map Int.toNat).Perm xs := by
    have := pm.map Int.toNat
    rw [List.map_map] at this
    have e : xs.map (Int.toNat ∘ nI) = xs := by
      have : xs.map (Int.toNat ∘ nI) = xs.map id := List.map_congr_left fun b _ => by
        show ((b : Nat) : Int).toNat = b
        exact Int.toNat_natCast b
      rw [this, List.map_id]
    rw [e] at this
    exact this
  rw [e1]
  congr 1
  refine lotP_of ?_ fun b => pm2.mem_iff.trans (hm b)
  have nd2 : (ns.map Int.toNat).Nodup := pm2.nodup_iff.mpr nd
  rw [e1] at pw
  generalize ns.map Int.toNat = ws at pw nd2
  rw [List.pairwise_map] at pw
  have : ws.Pairwise fun a b => a ≤ b ∧ a ≠ b := by
    rw [List.pairwise_iff_getElem] at pw ⊢
    intro i j hi hj ij
    refine ⟨?_, fun e => ?_⟩
    · have := pw i j hi hj ij
      unfold nI at this
      omega
    · have := (List.getElem_inj nd2).mp e
      omega
  exact this.imp fun {a b} h => by omega
/-- a thing that was locked is as it was -/
theorem same_lock {H H' : Hp} {d : Addr} {od : Obj} {u : HO} (h : H d = some u) (s : Same (upd H d (.frz od u)) H') : Same H (upd H' d u) := fun b o e => by
  by_cases eb : b = d
  · subst eb
    rw [h] at e
    cases e
    exact upd_same
  · rw [upd_ne eb]
    exact s _ _ (by rw [upd_ne eb]; exact e)
section
variable {P : Program} {w : World} {K : PySem.W.Frag} {mg : Str → Option Value} {base : Heap}
def spFirstN : Sp := fun vs H Q _ => ∃ (s r : Addr) (n : Nat) (p : Nat → Prop) (PS : List (Addr × List Nat)) (SN : List (Addr × V × Triple)) (f : Nat → Nat), vs = [.ref s, .ref r] ∧ n ≤ 8 ∧ StoryAt n H s p PS SN ∧ H r = some (.lst ((List.range n).map fun j => vI (f j))) ∧
  ∀ H' d L, NeedAt n H' d L → (∀ b v, (b, v) ∈ L ↔ b < n ∧ p b ∧ v = f b) → H d = none → Same H H' → Q (.ref d) H'
theorem sc_first_needs : FnScope ["story", "misses", "place"] ["story", "misses"] (defScope s_first_needs) := ⟨rfl, rfl, rfl, by decide +kernel, rfl, by decide +kernel, by decide +kernel⟩
theorem ok_firstN (T : Tx K mg) : Has P w K mg base (He.ga K "first_needs") 1 ["story", "misses"] spFirstN := by
  obtain ⟨fd, F⟩ := T.d_first_needs
  refine ⟨⟨fd, F.ok sc_first_needs (fun vs H Q E h => ?_) (fun cdv A outer s H vs Q E hr h => ?_), F.bindsN fun _ _ _ _ _ _ us hl => match us, hl with | [_, _], _ => rfl⟩, F.kp⟩
  · obtain ⟨s, r, n, p, PS, SN, f, rfl, _⟩ := h
    rfl
  · obtain ⟨sa, r, n, p, PS, SN, f, rfl, n8, SA, hrr, h⟩ := h
    refine ⟨_, PSs.nox (pss_one (ps_ret (pe_dc (own := [("place", 2)]) (g := (gName 2)) (tt := tYes) rfl sc_first_needs.nd (piT (K := K) (pe_ix (ixT (K := K)) (pv 0) pe_int (fun _ _ => rfl))) (blkOk_by (by kernel_rfl)) (fun _ _ _ _ _ => (pg_name (i := 2) sc_first_needs.nd rfl (Or.inl rfl))) (fun _ _ _ _ _ => pts_nil) (fun _ _ _ _ _ => (pv 2)) (fun _ _ _ _ _ => (pe_ix (ixL (K := K)) (pv 1) (pv 2) (fun _ _ => rfl)))))), ?_⟩
    obtain ⟨tl, tp, ts, hs, htl, htp, hts⟩ := SA.ex
    refine ⟨_, rfl, sa, _, 0, _, rfl, rfl, SqT.of hs, rfl, tl, rfl, ⟨_, SqT.of htl⟩, fun D hD => ?_⟩
    refine dc_tup (K := K) (a := tl) (xs := (lotP n p).map vI) (fun i H1 => NeedAt n H1 D (((lotP n p).take i).map fun b => (b, f b)) ∧ Same H H1) ⟨⟨upd_same, List.nodup_nil, fun q hq => by cases hq⟩, same_upd hD⟩ (fun i H1 _ z => SqT.of (z.2 _ _ htl)) ?_ ?_
    · rintro i y H1 hy ⟨N1, s1⟩
      obtain ⟨b, hb, rfl⟩ := get_vI hy
      have bm := mem_lotP.mp (List.mem_of_getElem? hb)
      have no : ∀ v, (b, v) ∉ ((lotP n p).take i).map fun b => (b, f b) := fun v hv => by
        obtain ⟨b', hb', e⟩ := List.mem_map.mp hv
        cases e
        obtain ⟨z1, z2⟩ := List.getElem?_eq_some_iff.mp hb
        obtain ⟨j, hj, ej⟩ := List.getElem_of_mem hb'
        rw [List.length_take] at hj
        rw [List.getElem_take] at ej
        have := List.pairwise_iff_getElem.mp (lotP_sorted n p) j i (by omega) z1 (by omega)
        omega
      refine ⟨rfl, yesT ?_⟩
      refine ⟨_, rfl, _, rfl, _, rfl, r, _, _, _, rfl, rfl, SqL.of (s1 _ _ hrr), atI_nat (row_get bm.1), _, (Sum.inl (nI b) : Key), rfl, N1.at_, ?_, ?_, same_mut s1 hD⟩
      · unfold nK
        rw [List.length_map, List.length_map, List.length_take]
        have := lotP_len n p
        exact Nat.lt_of_le_of_lt (show _ ≤ 8 by omega) (by decide)
      · rw [List.take_add_one, hb, List.map_append]
        exact N1.add no bm.1 upd_same
    · rintro H1 ⟨N1, s1⟩
      rw [List.length_map, List.take_length] at N1
      refine h H1 D _ N1 (fun b v => ?_) hD s1
      constructor
      · intro hv
        obtain ⟨b', hb', e⟩ := List.mem_map.mp hv
        cases e
        have := mem_lotP.mp hb'
        exact ⟨this.1, this.2, rfl⟩
      · rintro ⟨h1, h2, rfl⟩
        exact List.mem_map.mpr ⟨b, mem_lotP.mpr ⟨h1, h2⟩, rfl⟩
def spNextN (K : PySem.W.Frag) : Sp := fun vs H Q _ => ∃ (c x tp l r : Addr) (n m : Nat) (E : List (Nat × Nat)) (ps : List Nat) (q : Nat → Nat → Prop) (f : Nat → Nat), vs = [.ref x, .ref tp, .ref l, .ref r] ∧ BoardAt K c H x n E ∧ H tp = some (.tup (ps.map vI)) ∧ PaceOk n ps ∧ LotsAt n H l m q ∧ m ≤ 100 ∧ H r = some (.lst ((List.range n).map fun j => vI (f j))) ∧
  ∀ H' d L, NeedAt n H' d L → (∀ b k, (∃ v, (b, v) ∈ L ∧ v ≤ k) ↔ b < n ∧ ∃ k', k' < m ∧ stepP n E ps (q k') b ∧ k' + f b ≤ k) → H d = none → Same H H' → Q (.ref d) H'
theorem sc_next_needs : FnScope ["board", "pace", "row", "misses", "needs", "number", "lot", "place"] ["board", "pace", "row", "misses"] (defScope s_next_needs) := ⟨rfl, rfl, rfl, by decide +kernel, rfl, by decide +kernel, by decide +kernel⟩
theorem ok_nextN (T : Tx K mg) : Has P w K mg base (He.ga K "next_needs") 6 ["board", "pace", "row", "misses"] (spNextN K) := by
  obtain ⟨⟨fd_step, F_step, b_step⟩, kp_step⟩ := ok_step (P := P) (w := w) (base := base) T
  obtain ⟨fd, F⟩ := T.d_next_needs
  refine ⟨⟨fd, F.ok sc_next_needs (fun vs H Q E h => ?_) (fun cdv A outer s H vs Q E hr h => ?_), F.bindsN fun _ _ _ _ _ _ us hl => match us, hl with | [_, _, _, _], _ => rfl⟩, F.kp⟩
  · obtain ⟨c, x, tp, l, r, n, m, E, ps, q, f, rfl, _⟩ := h
    rfl
  · obtain ⟨c, x, tp, l, r, n, m, E, ps, q, f, rfl, B, htp, po, LA, m100, hrr, h⟩ := h
    have hr_step : Room 5 _ := hr.mono (by decide)
    refine ⟨_, PSs.nox (pss_cons (ps_set (i := 4) sc_next_needs.nd rfl (Or.inl rfl) pe_dnewK)
      (pss_cons (ps_for PassesOwn.never rfl (piEnum (K := K) (by rfl) T.free_enumerate (pa_cons (pv 2) pa_nil)) (pgT (K := K) (n := 2) rfl (pgs_cons (pg_name (i := 5) sc_next_needs.nd rfl (Or.inl rfl)) (pgs_cons (pg_name (i := 6) sc_next_needs.nd rfl (Or.inl rfl)) pgs_nil))) (pss_one (ps_for PassesOwn.never rfl (piT (K := K) (pe_call F_step hr_step rfl T.glo_step kp_step b_step .nil pass0 (pa_cons (pv 0) (pa_cons (pv 1) (pa_cons (pv 6) pa_nil))))) (pg_name (i := 7) sc_next_needs.nd rfl (Or.inl rfl)) (pss_one (ps_expr (pe_dsetd (pv 4) (pv 7) (pe_op op_add (pv 5) (pe_ix (ixL (K := K)) (pv 3) (pv 7) (fun _ _ => rfl))) ⟨by rfl, by rfl, by rfl, by rfl⟩))))))
      (pss_one (ps_ret (pv 4))))), ?_⟩
    have n8 := B.hi
    obtain ⟨us, hus, lus, rus⟩ := LA.ex
    intro d hd
    have s1 := same_upd (o := HO.dK []) hd
    have h1 : (L2.upd H d (.dK [])) d = some (.dK (nK [])) := upd_same
    generalize L2.upd H d (.dK []) = H1 at s1 h1
    refine ⟨_, rfl, l, _, rfl, SqL.of (s1 _ _ hus), for_it (walk_enum (K := K) (a := l) (xs := us.map V.ref)) (fun j σ H2 => ∃ (v5 v6 v7 : Option V) (L : List (Nat × Nat)), σ = [some (.ref x), some (.ref tp), some (.ref l), some (.ref r), some (.ref d), v5, v6, v7] ∧ NeedAt n H2 d L ∧ (∀ b v, (b, v) ∈ L → ∃ k', k' < j ∧ stepP n E ps (q k') b ∧ v = k' + f b) ∧ (∀ b k', b < n → k' < j → stepP n E ps (q k') b → ∃ v, (b, v) ∈ L ∧ v ≤ k' + f b) ∧ Same H H2)
      ⟨none, none, none, [], rfl, ⟨h1, List.nodup_nil, fun q hq => (by cases hq)⟩, fun b v hv => (by cases hv), fun b k' _ hk _ => absurd hk (Nat.not_lt_zero _), s1⟩ (fun j σ H2 _ ⟨_, _, _, _, _, _, _, _, s2⟩ => SqL.of (s2 _ _ hus)) ?_ ?_⟩
    · rintro j y σ H2 H3 hj ⟨v5, v6, v7, L, rfl, N2, snd, cmp, s2⟩ ⟨T1, y1, y2, rfl, hT, rfl, e1, e2⟩
      cases (Option.some.inj e1)
      obtain ⟨u, hu, rfl⟩ := get_mapV (show (us.map V.ref)[j]? = some y2 from e2)
      have s3 : Same H2 (upd H2 T1 (.tup [.int (j : Nat), .ref u])) := same_upd hT
      have hT3 : (upd H2 T1 (.tup [.int (j : Nat), .ref u])) T1 = some (.tup [.int (j : Nat), .ref u]) := upd_same
      generalize upd H2 T1 (.tup [.int (j : Nat), .ref u]) = H3 at s3 hT3
      have s03 := s2.trans s3
      refine ⟨T1, _, rfl, SqT.of hT3, rfl, _, _, rfl, _, _, rfl, rfl, ?_⟩
      refine ⟨_, rfl, _, rfl, _, rfl, c, x, tp, u, n, E, ps, q j, rfl, B.same s03, s03 _ _ htp, po, s03 _ _ (rus j u hu), fun H4 t4 h4 s4 => ?_⟩
      obtain ⟨W, eW⟩ : ∃ W, W = lotP n (stepP n E ps (q j)) := ⟨_, rfl⟩
      rw [← eW] at h4
      have s04 := s03.trans s4
      have N4 := (N2.same s3).same s4
      refine ⟨t4, rfl, ⟨_, SqT.of h4⟩, for_tup (K := K) (a := t4) (xs := W.map vI) (fun t σ H5 => ∃ (v7 : Option V) (L : List (Nat × Nat)), σ = [some (.ref x), some (.ref tp), some (.ref l), some (.ref r), some (.ref d), some (.int (j : Nat)), some (.ref u), v7] ∧ NeedAt n H5 d L ∧ (∀ b v, (b, v) ∈ L → ∃ k', k' < j + 1 ∧ stepP n E ps (q k') b ∧ v = k' + f b) ∧ (∀ b k', b < n → k' < j → stepP n E ps (q k') b → ∃ v, (b, v) ∈ L ∧ v ≤ k' + f b) ∧ (∀ b, b ∈ W.take t → ∃ v, (b, v) ∈ L ∧ v ≤ j + f b) ∧ Same H H5 ∧ H5 t4 = some (.tup (W.map vI)))
        ⟨_, L, rfl, N4, fun b v hv => (snd b v hv).imp fun k' z => ⟨Nat.lt_succ_of_lt z.1, z.2⟩, cmp, fun b hb => by simp at hb, s04, h4⟩ (fun t σ H5 _ ⟨_, _, _, _, _, _, _, _, z⟩ => SqT.of z) ?_ ?_⟩
      · rintro t y σ H5 hy ⟨w7, L5, rfl, N5, snd5, cmp5, now5, s5, h5⟩
        obtain ⟨b, hb, rfl⟩ := get_vI hy
        have bm : b < n ∧ stepP n E ps (q j) b := by
          have := List.mem_of_getElem? hb
          rw [eW] at this
          exact mem_lotP.mp this
        have et : W.take (t + 1) = W.take t ++ [b] := by
          rw [List.take_add_one, hb]
          rfl
        refine ⟨_, rfl, d, rfl, .inl ⟨_, .inl N5.at_⟩, _, rfl, _, rfl, _, rfl, _, rfl, r, _, _, _, rfl, rfl, SqL.of (s5 _ _ hrr), atI_nat (row_get bm.1), _, _, rfl, rfl, _, (Sum.inl (nI b) : Key), N5.at_, rfl, ?_, ?_, ?_⟩
        · have := N5.len
          unfold nK
          rw [List.length_map]
          exact Nat.lt_of_le_of_lt (show _ ≤ 8 by omega) (by decide)
        · intro v hv
          by_cases hx : ∃ v, (b, v) ∈ L5
          · obtain ⟨v0, hv0⟩ := hx
            obtain ⟨k', hk', _, ev⟩ := snd5 b v0 hv0
            refine ⟨_, L5, rfl, N5, snd5, cmp5, fun b' hb' => ?_, s5, h5⟩
            rw [et] at hb'
            rcases List.mem_append.mp hb' with z | z
            · exact now5 b' z
            · rw [List.mem_singleton.mp z]
              exact ⟨v0, hv0, by omega⟩
          · rw [val_out fun v hv => hx ⟨v, hv⟩] at hv
            cases hv
        · intro hv
          have no : ∀ v, (b, v) ∉ L5 := fun v hv' => by
            rw [val_in N5.nd hv'] at hv
            cases hv
          have ev : V.int (((j : Nat) : Int) + ((f b : Nat) : Int)) = vI (j + f b) := by
            unfold vI
            congr 1
          refine ⟨_, L5 ++ [(b, j + f b)], rfl, N5.add no bm.1 (by rw [upd_same]; congr 2), fun b' v' hv' => ?_, fun b' k' hb' hk' r' => ?_, fun b' hb' => ?_, same_mut s5 hd, ?_⟩
          · rcases List.mem_append.mp hv' with z | z
            · exact snd5 b' v' z
            · cases List.mem_singleton.mp z
              exact ⟨j, Nat.lt_succ_self _, bm.2, rfl⟩
          · obtain ⟨v0, z1, z2⟩ := cmp5 b' k' hb' hk' r'
            exact ⟨v0, List.mem_append_left _ z1, z2⟩
          · rw [et] at hb'
            rcases List.mem_append.mp hb' with z | z
            · obtain ⟨v0, z1, z2⟩ := now5 b' z
              exact ⟨v0, List.mem_append_left _ z1, z2⟩
            · rw [List.mem_singleton.mp z]
              exact ⟨_, List.mem_append_right _ (List.mem_singleton.mpr rfl), Nat.le_refl _⟩
          · rw [upd_ne (ne_of h5 N5.at_ (by intro z; cases z))]
            exact h5
      · rintro σ H5 ⟨w7, L5, rfl, N5, snd5, cmp5, now5, s5, h5⟩
        rw [List.length_map, List.take_length] at now5
        refine ⟨_, _, _, L5, rfl, N5, snd5, fun b k' bn hk r' => ?_, s5⟩
        rcases Nat.lt_or_ge k' j with z | z
        · exact cmp5 b k' bn z r'
        · have : k' = j := by omega
          subst this
          exact now5 b (by rw [eW]; exact mem_lotP.mpr ⟨bn, r'⟩)
    · rintro σ H2 ⟨v5, v6, v7, L, rfl, N2, snd, cmp, s2⟩
      rw [List.length_map, lus] at snd cmp
      refine ⟨_, rfl, h H2 d L N2 (fun b k => ?_) hd s2⟩
      constructor
      · rintro ⟨v, hv, hk⟩
        obtain ⟨k', z1, z2, z3⟩ := snd b v hv
        exact ⟨N2.lt _ hv, k', z1, z2, by omega⟩
      · rintro ⟨bn, k', z1, z2, z3⟩
        obtain ⟨v, hv, hl⟩ := cmp b k' bn z1 z2
        exact ⟨v, hv, by omega⟩
def spLeastRow : Sp := fun vs H Q _ => ∃ (d : Addr) (n cnt : Nat) (L : List (Nat × Nat)), vs = [.ref d, vI cnt] ∧ n ≤ 8 ∧ cnt ≤ 100 ∧ NeedAt n H d L ∧
  ∀ H' l, LotsAt n H' l (cnt + 1) (fun k b => ∃ v, (b, v) ∈ L ∧ v ≤ k) → H l = none → Same H H' → Q (.ref l) H'
theorem sc_least_row : FnScope ["needs", "count", "number", "place"] ["needs", "count"] (defScope s_least_row) := ⟨rfl, rfl, rfl, by decide +kernel, rfl, by decide +kernel, by decide +kernel⟩
theorem ok_leastRow (T : Tx K mg) : Has P w K mg base (He.ga K "least_row") 1 ["needs", "count"] spLeastRow := by
  obtain ⟨fd, F⟩ := T.d_least_row
  refine ⟨⟨fd, F.ok sc_least_row (fun vs H Q E h => ?_) (fun cdv A outer s H vs Q E hr h => ?_), F.bindsN fun _ _ _ _ _ _ us hl => match us, hl with | [_, _], _ => rfl⟩, F.kp⟩
  · obtain ⟨d, n, cnt, L, rfl, _⟩ := h
    rfl
  · obtain ⟨d, n, cnt, L, rfl, n8, c100, N, h⟩ := h
    have hu := hu_of hr
    refine ⟨_, PSs.nox (pss_one (ps_ret (pe_lock (pe_lc (own := [("number", 2)]) (g := (gName 2)) (tt := tYes) rfl sc_least_row.nd (pi_range1 (by rfl) T.free_range (pa_cons (pe_op op_add (pv 1) pe_int) pa_nil)) (blkOk_by (by kernel_rfl)) (fun _ _ _ _ _ => (pg_name (i := 2) sc_least_row.nd rfl (Or.inr rfl))) (fun _ _ _ _ _ => pts_nil) (fun _ _ _ _ _ => (pe_callTy (tupK (K := K)) (by rfl) T.free_tuple (by decide +kernel) (pa_cons (pe_callB (sortLK (K := K)) (by rfl) T.free_sorted (by decide +kernel) (pa_cons (pe_lc (own := [("place", 3)]) (g := (gName 3)) rfl sc_least_row.nd (pi_keys (pv 0)) (blkOk_by (by kernel_rfl)) (fun _ _ _ _ _ => (pg_name (i := 3) sc_least_row.nd rfl (Or.inl rfl))) (fun _ _ _ _ _ => (pts_one (pt_cmpR op_le (pe_dget hu (pv 0) (pv 3) (fun _ _ => rfl)) (pv 2) (nomark _)))) (fun _ _ _ _ _ => (pv 3))) pa_nil)) pa_nil))))))), ?_⟩
    refine ⟨d, _, N.at_, True.intro, fun od => ?_⟩
    have hd0 : (upd H d (.frz od (.dK (nK L)))) d = some (.frz od (.dK (nK L))) := upd_same
    have back : ∀ {H'}, Same (upd H d (.frz od (.dK (nK L)))) H' → Same H (upd H' d (.dK (nK L))) := fun s => same_lock N.at_ s
    have fr : ∀ b, (upd H d (.frz od (.dK (nK L)))) b = none → H b = none := fun b hb => by
      by_cases e : b = d
      · rw [e, hd0] at hb
        cases hb
      · rw [upd_ne e] at hb
        exact hb
    generalize upd H d (.frz od (.dK (nK L))) = H0 at hd0 back fr
    have lL := N.len
    let pk : Nat → Nat → Prop := fun k b => ∃ v, (b, v) ∈ L ∧ v ≤ k
    refine ⟨_, rfl, _, _, rfl, rfl, _, rfl, by omega, by omega, fun D hD => ?_⟩
    refine lc_rel (walk_range (lo := 0) (n := (((cnt : Nat) : Int) + 1).toNat)) (fun k v H1 => ∃ t : Addr, v = .ref t ∧ H1 t = some (.tup ((lotP n (pk k)).map vI))) (by omega) hD (fun k v H1 H2 ⟨t, e1, e2⟩ tk => ⟨t, e1, tk _ _ e2⟩) (fun _ _ => trivial) ?_ ?_
    · rintro k y H1 H2 Nx hk s1 ⟨rfl, ey⟩ kk
      have ey : y = vI k := by
        rw [ey]
        show V.int (0 + ((k : Nat) : Int)) = V.int ((k : Nat) : Int)
        rw [Int.zero_add]
      subst ey
      have hd1 := s1 _ _ hd0
      refine ⟨rfl, _, rfl, d, od, rfl, .inl ⟨_, hd1, fun D2 hD2 => ?_⟩⟩
      refine lc_filt (walk_keys (d := d) (o := od) (kvs := nK L)) (L.map (·.1)) (fun b => decB (pk k b)) (by unfold nK; simp) (by unfold nK; rw [List.length_map]; omega) hD2 (fun H3 s3 => s3 _ _ hd1) ?_ ?_
      · rintro i b y H3 H4 N1 N0 hb s3 ⟨rfl, k', v', ekv, rfl⟩ k1 k0
        have il := (List.getElem?_eq_some_iff.mp hb).1
        rw [List.length_map] at il
        have hq : L[i]? = some L[i] := List.getElem?_eq_getElem il
        rw [List.getElem?_map, hq] at hb
        unfold nK at ekv
        rw [List.getElem?_map, hq] at ekv
        generalize L[i] = q at hq hb ekv
        have hb : q.1 = b := Option.some.inj hb
        subst hb
        have e1 : ((Sum.inl (nI q.1) : Key), vI q.2) = (k', v') := Option.some.inj ekv
        cases e1
        have qm : (q.1, q.2) ∈ L := List.mem_of_getElem? hq
        refine ⟨rfl, _, rfl, _, rfl, d, vI q.2, rfl, .inl ⟨nK L, Sum.inl (nI q.1), .inr ⟨od, s3 _ _ hd1⟩, rfl, (val_in N.nd qm).symm⟩, ?_⟩
        refine ⟨_, rfl, _, _, rfl, rfl, _, rfl, ?_⟩
        have eb : decide (((q.2 : Nat) : Int) ≤ ((k : Nat) : Int)) = decB (pk k q.1) := by
          refine Bool.eq_iff_iff.mpr ?_
          rw [decide_eq_true_iff, decB_true]
          constructor
          · intro z
            exact ⟨q.2, qm, by omega⟩
          · rintro ⟨v, z1, z2⟩
            have := (val_in N.nd qm).symm.trans (val_in N.nd z1)
            have := V.int.inj (Option.some.inj this)
            omega
        show if decide (((q.2 : Nat) : Int) ≤ ((k : Nat) : Int)) = true then _ else _
        rw [eb]
        exact ite2 (fun z => ⟨_, rfl, k1 _ z fun _ _ e => e⟩) (fun z => k0 _ (Bool.eq_false_iff.mpr z) fun _ _ e => e)
      intro H3 h3 s3
      have lf : ((L.map (·.1)).filter fun b => decB (pk k b)).length ≤ 8 := by
        refine Nat.le_trans (List.length_filter_le _ _) ?_
        rw [List.length_map]
        omega
      have mf : ∀ b, b ∈ (L.map (·.1)).filter (fun b => decB (pk k b)) ↔ b < n ∧ pk k b := fun b => by
        rw [List.mem_filter, decB_true]
        constructor
        · rintro ⟨z1, z2⟩
          obtain ⟨q, hq, e⟩ := List.mem_map.mp z1
          rw [← e]
          exact ⟨N.lt q hq, by rw [e]; exact z2⟩
        · rintro ⟨z1, v, z2, z3⟩
          exact ⟨List.mem_map.mpr ⟨(b, v), z2, rfl⟩, v, z2, z3⟩
      have ndf : ((L.map (·.1)).filter fun b => decB (pk k b)).Nodup := N.nd.filter _
      generalize (L.map (·.1)).filter (fun b => decB (pk k b)) = xs at h3 lf mf ndf
      refine ⟨D2, xs.map nI, rfl, SqL.of (by rw [h3, vI_map]), by rw [List.length_map]; omega, fun ns l4 pm pw hl4 => ?_⟩
      have es := sorted_lot pm pw ndf mf
      subst es
      have s4 := same_upd (o := HO.lst (((lotP n (pk k)).map nI).map V.int)) hl4
      have h4 : (upd H3 l4 (.lst (((lotP n (pk k)).map nI).map V.int))) l4 = some (.lst ((lotP n (pk k)).map vI)) := by rw [upd_same, vI_map]
      generalize upd H3 l4 (.lst (((lotP n (pk k)).map nI).map V.int)) = H4 at s4 h4
      refine ⟨l4, _, rfl, .inl ⟨SqL.of h4, fun t5 ht5 => kk _ _ ⟨t5, rfl, upd_same⟩ ((s3.trans s4).trans (same_upd ht5))⟩⟩
    · intro H1 ys h1 ly hy s1
      refine ⟨s1 _ _ hd0, ?_⟩
      have hd1 := s1 _ _ hd0
      obtain ⟨us, lu, hu'⟩ := beside (R := fun k y (t : Addr) => y = .ref t ∧ H1 t = some (.tup ((lotP n (pk k)).map vI))) ys 0 fun k y e => by
        have := hy k y e
        rw [Nat.zero_add]
        exact this
      have eu : ys = us.map V.ref := by
        refine List.ext_getElem? fun k => ?_
        by_cases hk : k < ys.length
        · have e1 : ys[k]? = some ys[k] := List.getElem?_eq_getElem hk
          have e2 : us[k]? = some (us[k]'(by omega)) := List.getElem?_eq_getElem _
          rw [List.getElem?_map, e1, e2, (hu' k _ _ e1 e2).1]
          rfl
        · rw [List.getElem?_eq_none (by omega), List.getElem?_eq_none (by rw [List.length_map]; omega)]
      subst eu
      rw [List.length_map] at ly
      refine h _ D ⟨us, ?_, by omega, fun k u e => ?_⟩ (fr D hD) (back s1)
      · rw [upd_ne (ne_of h1 hd1 (by intro z; cases z))]
        exact h1
      · have := (hu' k _ u (get_map e) e).2
        rw [Nat.zero_add] at this
        rw [upd_ne (ne_of this hd1 (by intro z; cases z))]
        exact this
end
end RL
/-! A table, row by row. -/
namespace RL
open PySem PySem.Spec PyProof.Rows L2 RLM
theorem LotsAt.eq {n : Nat} {H : Hp} {D : Addr} {m : Nat} {p q : Nat → Nat → Prop} (h : LotsAt n H D m p) (e : ∀ k b, k < m → b < n → (p k b ↔ q k b)) : LotsAt n H D m q := by
  obtain ⟨us, h1, l1, r1⟩ := h.ex
  refine ⟨us, h1, l1, fun k u eu => ?_⟩
  have kl := (List.getElem?_eq_some_iff.mp eu).1
  rw [r1 k u eu, lotP_congr fun b hb => e k b (by omega) hb]
/-- the list and its lots stay while another list changes -/
theorem LotsAt.other {n : Nat} {H : Hp} {D c : Addr} {m : Nat} {p : Nat → Nat → Prop} {xs ys : List V} (h : LotsAt n H D m p) (hc : H c = some (.lst xs)) (ne : D ≠ c) : LotsAt n (L2.upd H c (.lst ys)) D m p := by
  obtain ⟨us, h1, l1, r1⟩ := h.ex
  refine ⟨us, by rw [upd_ne ne]; exact h1, l1, fun k u eu => ?_⟩
  rw [upd_ne (ne_of (r1 k u eu) hc (by intro z; cases z))]
  exact r1 k u eu
/-- rows of lots -/
structure RowsT (n : Nat) (H : Hp) (r : Addr) (us : List Addr) (m k : Nat) (P : Nat → Nat → Nat → Prop) : Prop where
  at_ : H r = some (.lst (us.map V.ref))
  len : us.length = m
  nr : r ∉ us
  row : ∀ (i : Nat) (u : Addr), us[i]? = some u → LotsAt n H u k (P i)
theorem RowsT.same {n : Nat} {H H' : Hp} {r : Addr} {us : List Addr} {m k : Nat} {P : Nat → Nat → Nat → Prop} (s : Same H H') (h : RowsT n H r us m k P) : RowsT n H' r us m k P := ⟨s _ _ h.at_, h.len, h.nr, fun i u e => (h.row i u e).same s⟩
theorem RowsT.snoc {n : Nat} {H : Hp} {r u : Addr} {us : List Addr} {m k : Nat} {P : Nat → Nat → Nat → Prop} (h : RowsT n H r us m k P) (hu : LotsAt n H u k (P m)) (ne : u ≠ r) : RowsT n (L2.upd H r (.lst (us.map V.ref ++ [V.ref u]))) r (us ++ [u]) (m + 1) k P := by
  refine ⟨by rw [upd_same, List.map_append]; rfl, by simp [h.len], fun z => ?_, fun i v e => ?_⟩
  · rcases List.mem_append.mp z with z | z
    · exact h.nr z
    · exact ne (List.mem_singleton.mp z).symm
  · by_cases hk : i < us.length
    · rw [List.getElem?_append_left hk] at e
      exact (h.row i v e).other h.at_ fun z => h.nr (z ▸ List.mem_of_getElem? e)
    · rw [List.getElem?_append_right (by omega)] at e
      have ek : i = us.length := by
        obtain ⟨z1, _⟩ := List.getElem?_eq_some_iff.mp e
        simp at z1
        omega
      rw [ek, Nat.sub_self] at e
      cases e
      rw [ek, h.len]
      exact hu.other h.at_ ne
section
variable {P : Program} {w : World} {K : PySem.W.Frag} {mg : Str → Option Value} {base : Heap}
def spCheckC : Sp := fun vs H Q _ => ∃ (k : Nat), vs = [vI k] ∧ k ≤ 24 ∧ Q .non H
theorem sc_check_count : FnScope ["count"] ["count"] (defScope s_check_count) := ⟨rfl, rfl, rfl, by decide +kernel, rfl, by decide +kernel, by decide +kernel⟩
theorem ok_checkC (T : Tx K mg) : Has P w K mg base (He.ga K "check_count") 3 ["count"] spCheckC := by
  obtain ⟨⟨fd_is_between, F_is_between, b_is_between⟩, kp_is_between⟩ := ok_is_between (P := P) (w := w) (base := base) T
  obtain ⟨fd, F⟩ := T.d_check_count
  refine ⟨⟨fd, F.ok sc_check_count (fun vs H Q E h => ?_) (fun cdv A outer s H vs Q E hr h => ?_), F.bindsN fun _ _ _ _ _ _ us hl => match us, hl with | [_], _ => rfl⟩, F.kp⟩
  · obtain ⟨k, rfl, _⟩ := h
    rfl
  · obtain ⟨k, rfl, hk, h⟩ := h
    have hr_is_between : Room 2 _ := hr.mono (by decide)
    refine ⟨_, PSs.nox (pss_one (ps_if (pt_not (pt_val (pe_call F_is_between hr_is_between rfl T.glo_is_between kp_is_between b_is_between .nil pass0 (pa_cons (pv 0) (pa_cons pe_int (pa_cons (pe_glob (v := .int 24) rfl T.glob_MOST_SEEN.choose_spec ⟨_, rfl⟩) pa_nil)))))) (pss_one ps_never) pss_nil)), ?_⟩
    refine ⟨_, rfl, _, _, _, rfl, _, rfl, ?_⟩
    rw [decide_eq_true (show (0 : Int) ≤ ((k : Nat) : Int) ∧ ((k : Nat) : Int) ≤ 24 from ⟨by omega, by omega⟩)]
    exact iteF h
def spShut : Sp := fun vs H Q _ => ∃ (r u : Addr) (us : List Addr) (n m : Nat) (q : Nat → Nat → Prop), vs = [.ref r] ∧ H r = some (.lst ((us ++ [u]).map V.ref)) ∧ LotsAt n H u m q ∧ m ≤ 100 ∧ ∀ H', Same H H' → Q (.bl (decB (∀ k, k < m → ∀ b, b < n → ¬ q k b))) H'
theorem sc_is_shut : FnScope ["rows", "lot"] ["rows"] (defScope s_is_shut) := ⟨rfl, rfl, rfl, by decide +kernel, rfl, by decide +kernel, by decide +kernel⟩
theorem ok_shut (T : Tx K mg) : Has P w K mg base (He.ga K "is_shut") 1 ["rows"] spShut := by
  obtain ⟨fd, F⟩ := T.d_is_shut
  refine ⟨⟨fd, F.ok sc_is_shut (fun vs H Q E h => ?_) (fun cdv A outer s H vs Q E hr h => ?_), F.bindsN fun _ _ _ _ _ _ us hl => match us, hl with | [_], _ => rfl⟩, F.kp⟩
  · obtain ⟨r, u, us, n, m, q, rfl, _⟩ := h
    rfl
  · obtain ⟨r, u, us, n, m, q, rfl, hrr, LA, m100, h⟩ := h
    refine ⟨_, PSs.nox (pss_one (ps_ret (pe_callB (allK (K := K)) (by rfl) T.free_all (by decide +kernel) (pa_cons (pe_lc (own := [("lot", 1)]) (g := (gName 1)) (tt := tYes) rfl sc_is_shut.nd (piL (K := K) (pe_ix (ixL (K := K)) (pv 0) (pe_un un_neg pe_int) (fun _ _ => rfl))) (blkOk_by (by kernel_rfl)) (fun _ _ _ _ _ => (pg_name (i := 1) sc_is_shut.nd rfl (Or.inl rfl))) (fun _ _ _ _ _ => pts_nil) (fun _ _ _ _ _ => (pe_cmpR op_eq (pe_callB (lenK (K := K)) (by rfl) T.free_len (by decide +kernel) (pa_cons (pv 1) pa_nil)) pe_int (nomark _)))) pa_nil)))), ?_⟩
    obtain ⟨vs, hvs, lvs, rvs⟩ := LA.ex
    refine ⟨_, rfl, 1, rfl, r, _, _, _, rfl, rfl, SqL.of hrr, at_last, u, rfl, ⟨_, SqL.of hvs⟩, fun D hD => ?_⟩
    refine lc_val (walk_list (K := K) (a := u) (xs := vs.map V.ref)) (fun k => V.bl (decide ((lotP n (q k)).length = 0))) (by rw [List.length_map]; omega) hD (fun H1 s1 => SqL.of (s1 _ _ hvs)) ?_ ?_
    · rintro k y H1 H2 Nx hk s1 ⟨rfl, ey⟩ kk
      obtain ⟨v, hv, rfl⟩ := get_mapV ey
      refine ⟨rfl, _, rfl, v, _, rfl, .inr (SqT.of (s1 _ _ (rvs k v hv))), rfl, ?_⟩
      have := kk _ fun _ _ e => e
      have ed : decide (V.int ((((lotP n (q k)).map vI).length : Nat) : Int) = V.int 0) = decide ((lotP n (q k)).length = 0) := by
        rw [decide_eq_decide, List.length_map]
        exact ⟨fun z => by have := V.int.inj z; omega, fun z => by rw [z]; rfl⟩
      show Nx (V.bl (decide (V.int ((((lotP n (q k)).map vI).length : Nat) : Int) = V.int 0))) H2
      rw [ed]
      exact this
    · intro H1 h1 s1
      rw [List.length_map] at h1
      refine ⟨D, (List.range vs.length).map fun k => decide ((lotP n (q k)).length = 0), rfl, SqL.of (by rw [h1, List.map_map]; rfl), ?_⟩
      have := h _ s1
      rw [show decB (∀ k, k < m → ∀ b, b < n → ¬ q k b) = (((List.range vs.length).map fun k => decide ((lotP n (q k)).length = 0)).all id) from Bool.eq_iff_iff.mpr ?_] at this
      · exact this
      · rw [decB_true, List.all_eq_true]
        constructor
        · intro z v hv
          obtain ⟨k, hk, rfl⟩ := List.mem_map.mp hv
          refine decide_eq_true (List.length_eq_zero_iff.mpr (List.eq_nil_iff_forall_not_mem.mpr fun b hb => ?_))
          have hb := mem_lotP.mp hb
          exact z k (by rw [← lvs]; exact List.mem_range.mp hk) b hb.1 hb.2
        · intro z k hk b hb hq
          have := of_decide_eq_true (z _ (List.mem_map.mpr ⟨k, List.mem_range.mpr (by rw [lvs]; exact hk), rfl⟩))
          have e := List.eq_nil_of_length_eq_zero this
          have hm := mem_lotP.mpr ⟨hb, hq⟩
          rw [e] at hm
          cases hm
/-- the places that a walk so far reaches with so few misses -/
def preS (n : Nat) (E : List (Nat × Nat)) (p : Nat → Prop) (PS : List (Addr × List Nat)) (c : Nat → Nat → Nat) : Nat → Nat → Nat → Prop := PreP n p (stepR E PS) c
def spTable (K : PySem.W.Frag) : Sp := fun vs H Q _ => ∃ (c x s : Addr) (n cnt : Nat) (E : List (Nat × Nat)) (M : Nat → Nat → Nat) (p : Nat → Prop) (PS : List (Addr × List Nat)) (SN : List (Addr × V × Triple)), vs = [.ref x, .ref s, vI cnt] ∧ BoardAt K c H x n E ∧ Spans n E M ∧ StoryAt n H s p PS SN ∧ (∃ a, a < n ∧ p a) ∧ cnt ≤ 24 ∧
  ((∃ k b, k < cnt + 1 ∧ preS n E p PS (missC M SN) PS.length k b) → ∀ H', Same H H' → Q .non H') ∧
  ((∀ k b, k < cnt + 1 → ¬ preS n E p PS (missC M SN) PS.length k b) → ∀ H' r us, RowsT n H' r us (PS.length + 1) (cnt + 1) (preS n E p PS (missC M SN)) → H r = none → Same H H' → Q (.ref r) H')
theorem sc_table : FnScope ["board", "story", "count", "misses", "rows", "pace", "counts"] ["board", "story", "count"] (defScope s_table) := ⟨rfl, rfl, rfl, by decide +kernel, rfl, by decide +kernel, by decide +kernel⟩
theorem ok_table (T : Tx K mg) : Has P w K mg base (He.ga K "table") 10 ["board", "story", "count"] (spTable K) := by
  obtain ⟨⟨fd_look_story, F_look_story, b_look_story⟩, kp_look_story⟩ := ok_look_story (P := P) (w := w) (base := base) T
  obtain ⟨⟨fd_check_count, F_check_count, b_check_count⟩, kp_check_count⟩ := ok_checkC (P := P) (w := w) (base := base) T
  obtain ⟨⟨fd_miss_counts, F_miss_counts, b_miss_counts⟩, kp_miss_counts⟩ := ok_missC (P := P) (w := w) (base := base) T
  obtain ⟨⟨fd_least_row, F_least_row, b_least_row⟩, kp_least_row⟩ := ok_leastRow (P := P) (w := w) (base := base) T
  obtain ⟨⟨fd_first_needs, F_first_needs, b_first_needs⟩, kp_first_needs⟩ := ok_firstN (P := P) (w := w) (base := base) T
  obtain ⟨⟨fd_next_needs, F_next_needs, b_next_needs⟩, kp_next_needs⟩ := ok_nextN (P := P) (w := w) (base := base) T
  obtain ⟨⟨fd_is_shut, F_is_shut, b_is_shut⟩, kp_is_shut⟩ := ok_shut (P := P) (w := w) (base := base) T
  obtain ⟨fd, F⟩ := T.d_table
  refine ⟨⟨fd, F.ok sc_table (fun vs H Q E h => ?_) (fun cdv A outer s H vs Q E hr h => ?_), F.bindsN fun _ _ _ _ _ _ us hl => match us, hl with | [_, _, _], _ => rfl⟩, F.kp⟩
  · obtain ⟨c, x, s, n, cnt, E, M, p, PS, SN, rfl, _⟩ := h
    rfl
  · obtain ⟨c, x, sa, n, cnt, E, M, p, PS, SN, rfl, B, S, SA, ex, c24, h0, h⟩ := h
    have hr_look_story : Room 9 _ := hr.mono (by decide)
    have hr_check_count : Room 3 _ := hr.mono (by decide)
    have hr_miss_counts : Room 8 _ := hr.mono (by decide)
    have hr_least_row : Room 1 _ := hr.mono (by decide)
    have hr_first_needs : Room 1 _ := hr.mono (by decide)
    have hr_next_needs : Room 6 _ := hr.mono (by decide)
    have hr_is_shut : Room 1 _ := hr.mono (by decide)
    refine ⟨_, PSs.nox (pss_cons (ps_expr (pe_call F_look_story hr_look_story rfl T.glo_look_story kp_look_story b_look_story .nil pass0 (pa_cons (pv 0) (pa_cons (pv 1) pa_nil))))
      (pss_cons (ps_expr (pe_call F_check_count hr_check_count rfl T.glo_check_count kp_check_count b_check_count .nil pass0 (pa_cons (pv 2) pa_nil)))
      (pss_cons (ps_set (i := 3) sc_table.nd rfl (Or.inl rfl) (pe_call F_miss_counts hr_miss_counts rfl T.glo_miss_counts kp_miss_counts b_miss_counts .nil pass0 (pa_cons (pv 0) (pa_cons (pv 1) pa_nil))))
      (pss_cons (ps_set (i := 4) sc_table.nd rfl (Or.inl rfl) (pe_lst (pa_cons (pe_call F_least_row hr_least_row rfl T.glo_least_row kp_least_row b_least_row .nil pass0 (pa_cons (pe_call F_first_needs hr_first_needs rfl T.glo_first_needs kp_first_needs b_first_needs .nil pass0 (pa_cons (pv 1) (pa_cons (pe_ix (ixL (K := K)) (pv 3) pe_int (fun _ _ => rfl)) pa_nil))) (pa_cons (pv 2) pa_nil))) pa_nil)))
      (pss_cons (ps_for PassesOwn.never rfl (pi_zh true false (K := K) (by rfl) T.free_zip (pa_cons (pe_ix (ixT (K := K)) (pv 1) pe_int (fun _ _ => rfl)) (pa_cons (pe_slice (slL (K := K)) (pv 3) (po_some pe_int) po_none) pa_nil))) (pgT (K := K) (n := 2) rfl (pgs_cons (pg_name (i := 5) sc_table.nd rfl (Or.inl rfl)) (pgs_cons (pg_name (i := 6) sc_table.nd rfl (Or.inl rfl)) pgs_nil))) (pss_one (ps_expr (bmK (K := K) PySem.F.plainAttrs_list PySem.F.slot_list_append PySem.F.type_list_append mt_append (pv 4) (pa_cons (pe_call F_least_row hr_least_row rfl T.glo_least_row kp_least_row b_least_row .nil pass0 (pa_cons (pe_call F_next_needs hr_next_needs rfl T.glo_next_needs kp_next_needs b_next_needs .nil pass0 (pa_cons (pv 0) (pa_cons (pv 5) (pa_cons (pe_ix (ixL (K := K)) (pv 4) (pe_un un_neg pe_int) (fun _ _ => rfl)) (pa_cons (pv 6) pa_nil))))) (pa_cons (pv 2) pa_nil))) pa_nil)))))
      (pss_one (ps_ret (pe_ifExp (pt_val (pe_call F_is_shut hr_is_shut rfl T.glo_is_shut kp_is_shut b_is_shut .nil pass0 (pa_cons (pv 4) pa_nil))) (pv 4) pe_non)))))))), ?_⟩
    have n8 := B.hi
    have lp := SA.lp
    refine ⟨_, rfl, _, rfl, c, x, sa, n, E, p, PS, SN, rfl, B, SA, ex, fun H1 s1 => ?_⟩
    refine ⟨_, rfl, cnt, rfl, c24, ?_⟩
    refine ⟨_, rfl, _, rfl, c, x, sa, n, E, M, p, PS, SN, rfl, B.same s1, S, SA.same s1, fun H2 D rs G2 _ _ s2 => ?_⟩
    have s12 := s1.trans s2
    obtain ⟨r0, hr0, row0⟩ := G2.get (a := 0) (by omega)
    have SA2 := SA.same s12
    obtain ⟨tl, tp, ts, hs, htl, htp, hts⟩ := SA2.ex
    refine ⟨_, rfl, _, rfl, D, _, 0, _, rfl, rfl, SqL.of G2.at_, atI_nat (j := 0) (get_map hr0), sa, r0, n, p, PS, SN, missC M SN 0, rfl, n8, SA2, row0, fun H3 d L N3 cL fd3 s3 => ?_⟩
    refine ⟨_, rfl, d, n, cnt, L, rfl, n8, by omega, N3, fun H4 l4 LA4 f4 s4 => ?_⟩
    have LA4' : LotsAt n H4 l4 (cnt + 1) (preS n E p PS (missC M SN) 0) := LA4.eq fun k b hk hb => by
      constructor
      · rintro ⟨v, hv, hl⟩
        obtain ⟨z1, z2, z3⟩ := (cL b v).1 hv
        exact ⟨z1, z2, by omega⟩
      · rintro ⟨z1, z2, z3⟩
        exact ⟨_, (cL b _).2 ⟨z1, z2, rfl⟩, z3⟩
    refine ⟨(by show 1 ≤ sizeLine; decide), fun r5 hr5 => ?_⟩
    have s5 := same_upd (o := HO.lst [V.ref l4]) hr5
    have h5 : (L2.upd H4 r5 (.lst [V.ref l4])) r5 = some (.lst [V.ref l4]) := upd_same
    have ne5 : l4 ≠ r5 := fun e => by
      obtain ⟨us, q, _⟩ := LA4'.ex
      rw [e, hr5] at q
      cases q
    generalize L2.upd H4 r5 (.lst [V.ref l4]) = H5 at s5 h5
    have s25 := (s3.trans s4).trans s5
    have s05 := s12.trans s25
    have H2r5 : H2 r5 = none := (s3.trans s4).free hr5
    have R5 : RowsT n H5 r5 [l4] 1 (cnt + 1) (preS n E p PS (missC M SN)) := ⟨h5, rfl, by simpa using ne5.symm, fun i u e => by
      cases i with
      | zero =>
        cases e
        exact LA4'.same s5
      | succ i => simp at e⟩
    refine ⟨_, rfl, sa, _, 1, _, rfl, rfl, SqT.of (s25 _ _ hs), rfl, _, rfl, 1, rfl, D, _, rfl, SqL.of (s25 _ _ G2.at_), fun l6 hl6 => ?_⟩
    have e6 : cutV (rs.map V.ref) (some 1) none = (rs.drop 1).map V.ref := by
      have := cut_from (xs := rs.map V.ref) 1
      rw [show ((1 : Nat) : Int) = 1 from rfl] at this
      rw [this, List.map_drop]
    have s6 := same_upd (o := HO.lst (cutV (rs.map V.ref) (some 1) none)) hl6
    have h6 : (L2.upd H5 l6 (.lst (cutV (rs.map V.ref) (some 1) none))) l6 = some (.lst ((rs.drop 1).map V.ref)) := by rw [upd_same, e6]
    have ne6 : l6 ≠ r5 := fun e => by
      rw [e, h5] at hl6
      cases hl6
    generalize L2.upd H5 l6 (.lst (cutV (rs.map V.ref) (some 1) none)) = H6 at s6 h6
    have s26 := s25.trans s6
    have lrs := G2.len
    refine ⟨tp, l6, _, _, rfl, SqT.of (s26 _ _ htp), SqL.of h6, for_it (walk_zh (u1 := true) (u2 := false) (K := K) (a := tp) (b := l6) (xs := PS.map fun q => V.ref q.1) (ys := (rs.drop 1).map V.ref) (n := PS.length) (by simp [lrs])) (fun i σ H7 => ∃ (v5 v6 : Option V) (us : List Addr), σ = [some (.ref x), some (.ref sa), some (vI cnt), some (.ref D), some (.ref r5), v5, v6] ∧ RowsT n H7 r5 us (i + 1) (cnt + 1) (preS n E p PS (missC M SN)) ∧ Same H2 H7 ∧ H7 l6 = some (.lst ((rs.drop 1).map V.ref)))
      ⟨none, none, [l4], rfl, R5.same s6, s26, h6⟩ (fun i σ H7 _ ⟨_, _, _, _, _, z1, z2⟩ => ⟨SqT.of (z1 _ _ htp), SqL.of z2⟩) ?_ ?_⟩
    · rintro i y σ H7 H8 hi ⟨v5, v6, us, rfl, R7, s7, hl7⟩ ⟨T1, y1, y2, rfl, hT, rfl, e1, e2⟩
      have hq : PS[i]? = some PS[i] := List.getElem?_eq_getElem hi
      generalize PS[i] = q at hq
      have e1 : (PS.map fun q => V.ref q.1)[i]? = some y1 := e1
      rw [get_map (f := fun q : Addr × List Nat => V.ref q.1) hq] at e1
      cases e1
      have hr1 : rs[i + 1]? = some (rs[i + 1]'(by omega)) := List.getElem?_eq_getElem _
      generalize rs[i + 1]'(by omega) = r1 at hr1
      have e2 : ((rs.drop 1).map V.ref)[i]? = some y2 := e2
      rw [List.getElem?_map, List.getElem?_drop, Nat.add_comm 1 i, hr1] at e2
      have e2 : V.ref r1 = y2 := Option.some.inj e2
      subst e2
      have s8 : Same H7 (upd H7 T1 (.tup [.ref q.1, .ref r1])) := same_upd hT
      have hT8 : (upd H7 T1 (.tup [.ref q.1, .ref r1])) T1 = some (.tup [.ref q.1, .ref r1]) := upd_same
      generalize upd H7 T1 (.tup [.ref q.1, .ref r1]) = H8 at s8 hT8
      have s28 := s7.trans s8
      have R8 := R7.same s8
      have PQ := SA2.pc q (List.mem_of_getElem? hq)
      refine ⟨T1, _, rfl, SqT.of hT8, rfl, _, _, rfl, _, _, rfl, rfl, ?_⟩
      have hu : us[i]? = some (us[i]'(by rw [R8.len]; omega)) := List.getElem?_eq_getElem _
      generalize us[i]'(by rw [R8.len]; omega) = u at hu
      have lastU : atI (us.map V.ref) (-1) = some (V.ref u) := by
        have e : us = us.take i ++ [u] := by
          have e := List.take_append_drop i us
          have l8 := R8.len
          rw [List.drop_eq_getElem_cons (by omega), List.drop_of_length_le (by omega)] at e
          have e2 : us[i]'(by omega) = u := by
            rw [List.getElem?_eq_getElem (by omega)] at hu
            exact Option.some.inj hu
          rw [e2] at e
          exact e.symm
        rw [e, List.map_append]
        exact atI_last _ _
      refine ⟨_, rfl, .inl ⟨rfl, _, SqL.of R8.at_⟩, _, rfl, _, rfl, _, rfl, 1, rfl, r5, _, _, _, rfl, rfl, SqL.of R8.at_, lastU, _, rfl, c, x, q.1, u, r1, n, cnt + 1, E, q.2, _, _, rfl, B.same (s12.trans s28), s28 _ _ PQ.1, PQ.2, R8.row i u hu, by omega, s28 _ _ (G2.row (i + 1) r1 hr1), fun H9 d9 L9 N9 cL9 _ s9 => ?_⟩
      refine ⟨_, rfl, d9, n, cnt, L9, rfl, n8, by omega, N9, fun H10 l10 LA10 f10 s10 => ?_⟩
      have s810 := s9.trans s10
      have R10 := R8.same s810
      have LA' : LotsAt n H10 l10 (cnt + 1) (preS n E p PS (missC M SN) (i + 1)) := LA10.eq fun k b hk hb => by
        rw [cL9 b k]
        refine Iff.trans ?_ pre_next.symm
        refine and_congr_right fun bn => ?_
        constructor
        · rintro ⟨k', hk', ⟨a, an, z1, z2⟩, z3⟩
          exact ⟨k', ⟨a, z1, q, hq, z2⟩, z3⟩
        · rintro ⟨k', ⟨a, z1, q', hq', z2⟩, z3⟩
          rw [hq] at hq'
          cases hq'
          exact ⟨k', by omega, ⟨a, z1.lt, z1, z2⟩, z3⟩
      have ne10 : l10 ≠ r5 := fun e => by
        have := s9 _ _ R8.at_
        rw [← e, f10] at this
        cases this
      have l10 := R10.len
      refine ⟨r5, _, _, rfl, rfl, R10.at_, ?_, _, _, _, rfl, R10.snoc LA' ne10, same_mut (s28.trans s810) H2r5, ?_⟩
      · rw [List.length_map]
        exact Nat.lt_of_le_of_lt (show us.length ≤ 13 by omega) (by decide)
      · rw [upd_ne ne6]
        exact s810 _ _ (s8 _ _ hl7)
    · rintro σ H7 ⟨v5, v6, us, rfl, R7, s7, _⟩
      have l7 := R7.len
      have hu : us[PS.length]? = some (us[PS.length]'(by omega)) := List.getElem?_eq_getElem _
      generalize us[PS.length]'(by omega) = u at hu
      have eu : us = us.take PS.length ++ [u] := by
        have e := List.take_append_drop PS.length us
        rw [List.drop_eq_getElem_cons (by omega), List.drop_of_length_le (by omega)] at e
        have e2 : us[PS.length]'(by omega) = u := by
          rw [List.getElem?_eq_getElem (by omega)] at hu
          exact Option.some.inj hu
        rw [e2] at e
        exact e.symm
      refine ⟨_, rfl, r5, u, us.take PS.length, n, cnt + 1, _, rfl, by rw [← eu]; exact R7.at_, R7.row _ _ hu, by omega, fun H8 s8 => ⟨_, rfl, ?_⟩⟩
      have s08 := (s12.trans s7).trans s8
      have H0r : H r5 = none := s12.free H2r5
      refine ite2 (fun z => ?_) (fun z => ?_)
      · have z := decB_true.mp z
        exact ⟨_, rfl, h (fun k b hk hp => z k hk b hp.lt hp) H8 r5 us (R7.same s8) H0r s08⟩
      · refine h0 ?_ H8 s08
        refine Classical.byContradiction fun no => z (decB_true.mpr fun k hk b hb hp => no ⟨k, b, hk, hp⟩)
end
end RL
/-! xs.count(v) of flat values. -/
namespace RL
open PySem PySem.Spec PyProof.Rows L2
section
variable {X : Cx} {K : PySem.W.Frag}
def rCntV (K : PySem.W.Frag) : V → List V → Hp → VK → Prop := fun x xs H Q => ∃ (a : Addr) (ys : List V) (y : V), x = V.ref a ∧ xs = [y] ∧ SqL K H a ys ∧ flatV y = true ∧ ys.all flatV = true ∧ Q (.int ((ys.countP fun z => eqV z y : Nat) : Int)) H
theorem count_eqU {y : V} : ∀ {ys : List V} {its : List Value}, Vals ys its → ys.all flatV = true → its.countP (eqU y) = ys.countP fun z => eqV z y
  | [], _, r, _ => by
    cases r
    rfl
  | z :: ys, _, r, f => by
    cases r with
    | cons r1 r2 =>
      rw [List.all_cons, Bool.and_eq_true] at f
      rw [List.countP_cons, List.countP_cons, count_eqU r2 f.2, eqU_of r1 f.1]
theorem mtCt (h : X.K = K := by rfl) : MtR X "list.count" (rCntV K) := by
  subst h
  intro pins s σ H x xs v us Q I rx rxs hh
  obtain ⟨a, ys, y, rfl, rfl, hs, fy, fys, q⟩ := hh
  cases rx
  obtain ⟨u, rfl, ru⟩ := rxs.one
  obtain ⟨its, rv, ⟨⟨cls, dd, data, sl⟩, n, ho, hc, hdn, hd⟩, hlen⟩ := I.list hs
  simp only at hc hd
  subst hc hd
  refine call_meets PySem.F.slot_list_count ⟨_, ho, rfl⟩ PySem.F.entry_list_count (PySem.F.args_list_count_2 _ _)
    (SeqAt.list_countAt a its.toArray n dd sl u (eqU y)) ⟨ho, fun u' hu' => mem_eqAt ru fy rv fys u' (by simpa using hu'), ?_⟩
  refine ⟨.int ((ys.countP fun z => eqV z y : Nat) : Int), H, I.tok _, ⟨s.toks, ?_⟩, q⟩
  show Value.int ((its.countP (eqU y) : Nat) : Int) s.toks = _
  rw [count_eqU rv fys]
end
end RL
/-! How many triples each place misses, by the law. -/
namespace RL
open PySem PySem.Spec PyProof.Rows L2 RLM
theorem missC_count {M : Nat → Nat → Nat} {SN : List (Addr × V × Triple)} {i b : Nat} : missC M SN i b = (((SN.filter fun q => decide (q.2.2.beat = i)).map fun q => V.bl (msT M q b)).countP fun z => eqV z (V.bl true)) := by
  unfold missC missG
  rw [List.countP_map, List.countP_eq_length_filter, List.filter_filter]
  congr 1
  refine List.filter_congr fun q _ => ?_
  rw [Bool.and_comm]
  congr 1
  show _ = eqV (V.bl (msT M q b)) (V.bl true)
  cases msT M q b <;> rfl
section
variable {P : Program} {w : World} {K : PySem.W.Frag} {mg : Str → Option Value} {base : Heap}
def spLCounts : Sp := fun vs H Q _ => ∃ (c D s : Addr) (n : Nat) (rs : List Addr) (M : Nat → Nat → Nat) (p : Nat → Prop) (PS : List (Addr × List Nat)) (SN : List (Addr × V × Triple)), vs = [.ref D, .ref s] ∧ n ≤ 8 ∧ TabAt c H D n rs M ∧ StoryAt n H s p PS SN ∧
  ∀ H' l, CountsAt n H' l (PS.length + 1) (missC M SN) → H l = none → Same H H' → Q (.ref l) H'
theorem sc__law_counts : FnScope ["_law_spans_here", "_law_story_here", "_law_found", "_law_beat", "_law_asked", "_law_row", "_law_when", "_law_look_here", "_law_answer_here", "_law_place", "_law_one"] ["_law_spans_here", "_law_story_here"] (defScope s__law_counts) := ⟨rfl, rfl, rfl, by decide +kernel, rfl, by decide +kernel, by decide +kernel⟩
theorem ok_lcounts (T : Tx K mg) : Has P w K mg base (He.ga K "_law_counts") 2 ["_law_spans_here", "_law_story_here"] spLCounts := by
  obtain ⟨⟨fd_law_answer, F_law_answer, b_law_answer⟩, kp_law_answer⟩ := ok_answer (P := P) (w := w) (base := base) T
  obtain ⟨fd, F⟩ := T.d__law_counts
  refine ⟨⟨fd, F.ok sc__law_counts (fun vs H Q E h => ?_) (fun cdv A outer s H vs Q E hr h => ?_), F.bindsN fun _ _ _ _ _ _ us hl => match us, hl with | [_, _], _ => rfl⟩, F.kp⟩
  · obtain ⟨c, D, sa, n, rs, M, p, PS, SN, rfl, _⟩ := h
    rfl
  · obtain ⟨c, D, sa, n, rs, M, p, PS, SN, rfl, n8, TA, SA, h⟩ := h
    have hr_law_answer : Room 1 _ := hr.mono (by decide)
    refine ⟨_, PSs.nox (pss_cons (ps_set (i := 2) sc__law_counts.nd rfl (Or.inl rfl) (pe_lst pa_nil))
      (pss_cons (ps_for PassesOwn.never rfl (pi_range1 (by rfl) T.free_range (pa_cons (pe_op op_add (pe_callB (lenK (K := K)) (by rfl) T.free_len (by decide +kernel) (pa_cons (pe_ix (ixT (K := K)) (pv 1) pe_int (fun _ _ => rfl)) pa_nil)) pe_int) pa_nil)) (pg_name (i := 3) sc__law_counts.nd rfl (Or.inr rfl)) (pss_cons (ps_set (i := 4) sc__law_counts.nd rfl (Or.inr rfl) (pe_lc (own := [("_law_when", 6), ("_law_look_here", 7), ("_law_answer_here", 8)]) rfl sc__law_counts.nd (piT (K := K) (pe_ix (ixT (K := K)) (pv 1) pe_int (fun _ _ => rfl))) (blkOk_by (by kernel_rfl)) (fun _ _ _ _ _ => (pgT (K := K) (n := 3) rfl (pgs_cons (pg_name (i := 6) sc__law_counts.nd rfl (Or.inl rfl)) (pgs_cons (pg_name (i := 7) sc__law_counts.nd rfl (Or.inl rfl)) (pgs_cons (pg_name (i := 8) sc__law_counts.nd rfl (Or.inl rfl)) pgs_nil))))) (fun _ _ _ _ _ => (pts_one (pt_cmpR op_eq (pv 6) (pv 3) (nomark _)))) (fun _ _ _ _ _ => (pe_tup (pa_cons (pv 7) (pa_cons (pv 8) pa_nil))))))
      (pss_cons (ps_setLc (i := 5) (own := [("_law_place", 9)]) (g := (gName 9)) (tt := tYes) rfl sc__law_counts.nd rfl rfl (sw_true rfl rfl rfl (by decide +kernel)) (pi_range1 (by rfl) T.free_range (pa_cons (pe_callB (lenK (K := K)) (by rfl) T.free_len (by decide +kernel) (pa_cons (pv 0) pa_nil)) pa_nil)) (blkOk_by (by kernel_rfl)) (fun _ _ _ _ _ => (pg_name (i := 9) sc__law_counts.nd rfl (Or.inr rfl))) (fun _ _ _ _ _ => pts_nil) (fun _ _ _ _ _ => (pe_lc (own := [("_law_look_here", 7), ("_law_answer_here", 8)]) (tt := tYes) rfl sc__law_counts.nd (piL (K := K) (pv 4)) (blkOk_by (by kernel_rfl)) (fun _ _ _ _ _ => (pgT (K := K) (n := 2) rfl (pgs_cons (pg_name (i := 7) sc__law_counts.nd rfl (Or.inl rfl)) (pgs_cons (pg_name (i := 8) sc__law_counts.nd rfl (Or.inl rfl)) pgs_nil)))) (fun _ _ _ _ _ => pts_nil) (fun _ _ _ _ _ => (pe_cmpR op_ne (pe_call F_law_answer hr_law_answer rfl T.glo_law_answer kp_law_answer b_law_answer .nil pass0 (pa_cons (pv 0) (pa_cons (pv 7) (pa_cons (pv 9) pa_nil)))) (pv 8) (nomark _))))))
      (pss_one (ps_expr (bmK (K := K) PySem.F.plainAttrs_list PySem.F.slot_list_append PySem.F.type_list_append mt_append (pv 2) (pa_cons (pe_lc (own := [("_law_one", 10)]) (g := (gName 10)) (tt := tYes) rfl sc__law_counts.nd (piL (K := K) (pv 5)) (blkOk_by (by kernel_rfl)) (fun _ _ _ _ _ => (pg_name (i := 10) sc__law_counts.nd rfl (Or.inl rfl))) (fun _ _ _ _ _ => pts_nil) (fun _ _ _ _ _ => (bmK (K := K) PySem.F.plainAttrs_list PySem.F.slot_list_count PySem.F.type_list_count (mtCt (K := K)) (pv 10) (pa_cons pe_bl pa_nil)))) pa_nil)))))))
      (pss_one (ps_ret (pv 2))))), ?_⟩
    obtain ⟨tl, tp, ts, hs, htl, htp, hts⟩ := SA.ex
    have lp := SA.lp
    have ls := SA.ls
    refine ⟨Nat.zero_le _, fun l hl => ?_⟩
    have s0 : Same H (upd H l (.lst [])) := same_upd hl
    refine ⟨_, rfl, sa, _, 1, _, rfl, rfl, SqT.of (s0 _ _ hs), rfl, tp, _, rfl, .inr (SqT.of (s0 _ _ htp)), _, _, rfl, rfl, _, rfl, ?_⟩
    rw [List.length_map]
    refine ⟨by omega, by omega, for_range (lo := 0) (n := (((PS.length : Nat) : Int) + 1).toNat) (fun i σ H1 => (∃ v3 v4 v5 : Option V, σ = [some (.ref D), some (.ref sa), some (.ref l), v3, v4, v5, none, none, none, none, none]) ∧ (∃ us : List Addr, H1 l = some (.lst (us.map V.ref)) ∧ us.length = i ∧ l ∉ us ∧ ∀ (k : Nat) (u : Addr), us[k]? = some u → H1 u = some (.lst ((List.range n).map fun a => vI (missC M SN k a)))) ∧ Same H H1) ?_ ?_ ?_⟩
    · exact ⟨⟨none, none, none, rfl⟩, ⟨[], upd_same, rfl, by simp, fun i u e => (by simp at e)⟩, s0⟩
    · rintro i σ H1 hi ⟨⟨v3, v4, v5, rfl⟩, ⟨us, hus, lus, lnu, rus⟩, s1⟩
      -- those of this beat
      refine ⟨_, rfl, sa, _, 2, _, rfl, rfl, SqT.of (s1 _ _ hs), rfl, ts, rfl, ⟨_, SqT.of (s1 _ _ hts)⟩, fun D4 hD4 => ?_⟩
      refine lc_relF (walk_tup (K := K) (a := ts) (xs := SN.map fun q => V.ref q.1)) SN (fun q => decide (q.2.2.beat = i)) (fun q v H2 => ∃ t : Addr, v = .ref t ∧ H2 t = some (.tup [q.2.1, vI q.2.2.told])) (by simp) (by rw [List.length_map]; omega) hD4 (fun q v H2 H3 ⟨t, e1, e2⟩ tk => ⟨t, e1, tk _ _ e2⟩) (fun H2 s2 => SqT.of (s2 _ _ (s1 _ _ hts))) ?_ ?_
      · rintro k q y H2 H3 N1 N0 hq s2 ⟨rfl, ey⟩ k1 k0
        rw [get_map (f := fun q : Addr × V × Triple => V.ref q.1) hq] at ey
        cases ey
        have TR := ((SA.sn q (List.mem_of_getElem? hq)).1.same s1).same s2
        refine ⟨q.1, _, rfl, SqT.of TR.1, rfl, _, _, rfl, _, _, rfl, _, _, rfl, rfl, rfl, ?_⟩
        refine ⟨_, rfl, _, rfl, rfl, _, rfl, ?_⟩
        have eb : decide (vI q.2.2.beat = V.int (0 + (i : Int))) = decide (q.2.2.beat = i) := by
          rw [decide_eq_decide, Int.zero_add]
          unfold vI
          exact ⟨fun z => by have := V.int.inj z; omega, fun z => by rw [z]⟩
        show if decide (vI q.2.2.beat = V.int (0 + (i : Int))) = true then _ else _
        rw [eb]
        refine ite2 (fun z => ?_) (fun z => k0 _ (Bool.eq_false_iff.mpr z) fun _ _ e => e)
        refine ⟨_, rfl, _, rfl, (by show 2 ≤ sizeLine; decide), fun t ht => k1 _ _ z ⟨t, rfl, upd_same⟩ (same_upd ht)⟩
      intro H2 Lq h2 eL rL s2
      have s12 := s1.trans s2
      have lL : Lq.length ≤ 24 := by
        have e := congrArg List.length eL
        rw [List.length_map] at e
        rw [e]
        exact Nat.le_trans (List.length_filter_le _ _) ls
      have mL : ∀ q ∈ Lq, q.2 ∈ SN := fun q hq => by
        have : q.2 ∈ Lq.map (·.2) := List.mem_map.mpr ⟨q, hq, rfl⟩
        rw [eL] at this
        exact (List.mem_filter.mp this).1
      -- which of them each place misses
      refine ⟨_, rfl, D, _, rfl, .inl (SqL.of (s12 _ _ TA.at_)), _, rfl, ?_⟩
      rw [List.length_map, TA.len]
      refine ⟨by omega, by omega, fun D5 hD5 => ?_⟩
      refine lc_rows (walk_range (lo := 0) (n := ((n : Nat) : Int).toNat)) (fun b => (Lq.map (·.2)).map fun q => V.bl (msT M q b)) (by omega) hD5 (fun _ _ => trivial) ?_ ?_
      · rintro b y H3 H4 Nx hb s3 ⟨rfl, ey⟩ kk
        have bn : b < n := by omega
        have ey : y = vI b := by
          rw [ey]
          show V.int (0 + ((b : Nat) : Int)) = V.int ((b : Nat) : Int)
          rw [Int.zero_add]
        subst ey
        refine ⟨rfl, _, rfl, D4, rfl, ⟨_, SqL.of (s3 _ _ h2)⟩, fun D6 hD6 => ?_⟩
        refine lc_val (walk_list (K := K) (a := D4) (xs := Lq.map (·.1))) (fun k => match Lq[k]? with | some q => V.bl (msT M q.2 b) | none => V.non) (by rw [List.length_map]; omega) hD6 (fun H5 s5 => SqL.of (s5 _ _ (s3 _ _ h2))) ?_ ?_
        · rintro k y H5 H6 Nx' hk s5 ⟨rfl, ey⟩ k1
          obtain ⟨q, hq, rfl⟩ := get_mapV (f := fun q : V × Addr × V × Triple => q.1) ey
          have qm := List.mem_of_getElem? hq
          obtain ⟨t, e1, e2⟩ := rL q qm
          have s35 := s3.trans s5
          have TR := (SA.sn q.2 (mL q qm)).1.same (s12.trans s35)
          refine ⟨t, _, e1, SqT.of (s35 _ _ e2), rfl, _, _, rfl, _, _, rfl, rfl, rfl, ?_⟩
          refine ⟨_, rfl, _, rfl, _, rfl, c, D, q.2.2.1, n, b, rs, M, q.2.2.2.look, rfl, n8, TA.same (s12.trans s35), TR.2.1, TR.2.2, bn, fun H7 s7 => ?_⟩
          have := k1 _ s7
          rw [hq] at this
          refine ⟨_, rfl, rfl, ?_⟩
          have ed : (!decide (vI (ans M q.2.2.2.look b) = vI q.2.2.2.told)) = msT M q.2 b := by
            unfold msT
            congr 1
            rw [decide_eq_decide]
            unfold vI
            exact ⟨fun z => by have := V.int.inj z; omega, fun z => by rw [z]⟩
          show Nx' (V.bl (!decide (vI (ans M q.2.2.2.look b) = vI q.2.2.2.told))) H7
          rw [ed]
          exact this
        · intro H5 h5 s5
          refine kk D6 H5 ?_ hD6 s5
          rw [h5]
          congr 2
          rw [List.length_map, List.map_map]
          refine List.ext_getElem? fun z => ?_
          rw [List.getElem?_map, List.getElem?_map]
          by_cases hz : z < Lq.length
          · rw [List.getElem?_range hz, List.getElem?_eq_getElem hz]
            show some (match Lq[z]? with | some q => V.bl (msT M q.2 b) | none => V.non) = _
            rw [List.getElem?_eq_getElem hz]
            rfl
          · rw [List.getElem?_eq_none (by simpa using hz), List.getElem?_eq_none (by simpa using hz)]
            rfl
      intro H3 r3 h3 l3 _ _ _ row3 s3
      rw [Int.toNat_natCast] at l3
      have s13 := s12.trans s3
      have hus3 := s3 _ _ (s2 _ _ hus)
      -- how many
      refine ⟨_, rfl, .inl ⟨rfl, _, SqL.of hus3⟩, _, rfl, D5, rfl, ⟨_, SqL.of h3⟩, fun D6 hD6 => ?_⟩
      refine lc_val (walk_list (K := K) (a := D5) (xs := r3.map V.ref)) (fun b => vI (missC M SN i b)) (by rw [List.length_map]; omega) hD6 (fun H4 s4 => SqL.of (s4 _ _ h3)) ?_ ?_
      · rintro b y H4 H5 Nx hb s4 ⟨rfl, ey⟩ kk
        obtain ⟨r, hr, rfl⟩ := get_mapV ey
        have row := s4 _ _ (row3 b r hr)
        rw [eL] at row
        have := kk _ fun _ _ e => e
        rw [missC_count] at this
        refine ⟨rfl, _, rfl, .inl ⟨rfl, _, SqL.of row⟩, r, _, _, rfl, rfl, SqL.of row, rfl, ?_, this⟩
        rw [List.all_map, List.all_eq_true]
        exact fun _ _ => rfl
      · intro H4 h4 s4
        rw [List.length_map, l3] at h4
        have hus4 := s4 _ _ hus3
        have D6l : D6 ≠ l := fun z => by
          rw [z, hus3] at hD6
          cases hD6
        refine ⟨l, _, _, rfl, rfl, hus4, ?_, ⟨_, _, _, rfl⟩, ⟨us ++ [D6], ?_, by simp [lus], fun z => ?_, fun k u e => ?_⟩, same_mut (s13.trans s4) hl⟩
        · rw [List.length_map]
          exact Nat.lt_of_le_of_lt (show us.length ≤ 13 by omega) (by decide)
        · rw [upd_same, List.map_append]
          rfl
        · rcases List.mem_append.mp z with z | z
          · exact lnu z
          · exact D6l (List.mem_singleton.mp z).symm
        · by_cases hk : k < us.length
          · rw [List.getElem?_append_left hk] at e
            have g := rus k u e
            have ul : u ≠ l := fun z => lnu (z ▸ List.mem_of_getElem? e)
            rw [upd_ne ul]
            exact s4 _ _ (s3 _ _ (s2 _ _ g))
          · rw [List.getElem?_append_right (by omega)] at e
            have ek : k = us.length := by
              obtain ⟨z1, _⟩ := List.getElem?_eq_some_iff.mp e
              simp at z1
              omega
            rw [ek, Nat.sub_self] at e
            cases e
            rw [upd_ne D6l, h4, ek, lus]
    · rintro σ H1 ⟨⟨v3, v4, v5, rfl⟩, ⟨us, hus, lus, lnu, rus⟩, s1⟩
      exact ⟨_, rfl, h H1 l ⟨us, hus, by omega, rus⟩ hl s1⟩
end
end RL
/-! Rows of lots as data, for == and !=. -/
namespace RL
open PySem PySem.Spec PyProof.Rows L2 RLM
def lotD (ns : List Int) : PyData := .tuple (ns.map PyData.int)
theorem lots_lay : ∀ dss : List (List Int), PyData.canLayAll0 (dss.map lotD) = true
  | [] => by simp [PyData.canLayAll0]
  | ns :: dss => by
    have h := SeqAt.canLay_of_shaped (shaped_tup ns)
    rw [List.map_cons]
    unfold PyData.canLayAll0
    rw [lots_lay dss]
    show ((lotD ns).canLay0 && true) = true
    rw [Bool.and_true]
    exact h
theorem lots_depth : ∀ dss : List (List Int), PyData.depthAll (dss.map lotD) ≤ 60
  | [] => by simp [PyData.depthAll]
  | ns :: dss => by
    have ih := lots_depth dss
    have h : (lotD ns).depth ≤ 60 := by
      unfold lotD
      simp [PyData.depth, PySem.W.ke_depthAll]
      try omega
    rw [List.map_cons]
    unfold PyData.depthAll
    omega
theorem lots_shaped (dss : List (List Int)) : SeqAt.shaped (.list (dss.map lotD)) = true := by
  unfold SeqAt.shaped
  rw [Bool.and_eq_true]
  constructor
  · unfold PyData.canLay0
    exact lots_lay dss
  · refine decide_eq_true ?_
    unfold PyData.depth
    have := lots_depth dss
    omega
theorem dp_lots {K : PySem.W.Frag} {n m : Nat} {H : Hp} {D : Addr} {p : Nat → Nat → Prop} (h : LotsAt n H D m p) : Dp K H (.ref D) (.list (((List.range m).map fun i => (lotP n (p i)).map nI).map lotD)) := by
  obtain ⟨us, hus, lus, rus⟩ := h.ex
  refine .lst (SqL.of hus) ?_
  have key : ∀ (us : List Addr) (i : Nat), (∀ (k : Nat) (u : Addr), us[k]? = some u → H u = some (.tup ((lotP n (p (i + k))).map vI))) → DpAll K H (us.map V.ref) (((List.range us.length).map fun k => (lotP n (p (i + k))).map nI).map lotD) := fun us => by
    induction us with
    | nil => exact fun _ _ => .nil
    | cons u us ih =>
      intro i hr
      rw [List.length_cons, List.range_succ_eq_map, List.map_cons, List.map_cons, List.map_cons]
      refine .cons (dp_lot (hr 0 u rfl)) ?_
      have := ih (i + 1) fun k v e => by
        have := hr (k + 1) v e
        rw [show i + 1 + k = i + (k + 1) by omega]
        exact this
      have e : ((fun k => (lotP n (p (i + k))).map nI) ∘ Nat.succ) = fun k => (lotP n (p (i + 1 + k))).map nI := by
        funext k
        show (lotP n (p (i + (k + 1)))).map nI = _
        rw [show i + (k + 1) = i + 1 + k by omega]
      rw [List.map_map (f := Nat.succ), e]
      exact this
  have := key us 0 fun k u e => by
    rw [Nat.zero_add]
    exact rus k u e
  rw [lus] at this
  simp only [Nat.zero_add] at this
  exact this
theorem lots_eqv {n m : Nat} {p q : Nat → Nat → Prop} (h : ∀ i, i < m → lotP n (p i) = lotP n (q i)) : PyData.eqv (.list (((List.range m).map fun i => (lotP n (p i)).map nI).map lotD)) (.list (((List.range m).map fun i => (lotP n (q i)).map nI).map lotD)) = true := by
  have e : ((List.range m).map fun i => (lotP n (p i)).map nI) = (List.range m).map fun i => (lotP n (q i)).map nI := List.map_congr_left fun i hi => by rw [h i (List.mem_range.mp hi)]
  rw [e]
  exact SeqAt.eqv_refl _ (SeqAt.canLay_of_shaped (lots_shaped _))
end RL
/-! A table is right, by the law. -/
namespace RL
open PySem PySem.Spec PyProof.Rows L2 RLM
/-- rows that shut all walks out: from the beginning on, step by step, and nothing at the end -/
structure TabOk (n m cnt : Nat) (p : Nat → Prop) (R : Nat → Nat → Nat → Prop) (c : Nat → Nat → Nat) (Z : Nat → Nat → Nat → Prop) : Prop where
  first : ∀ b, b < n → p b → ∀ k, c 0 b ≤ k → k < cnt + 1 → Z 0 k b
  next : ∀ i, i < m → ∀ l, l < cnt + 1 → ∀ a b, a < n → b < n → Z i l a → R i a b → ∀ k, l + c (i + 1) b ≤ k → k < cnt + 1 → Z (i + 1) k b
  last : ∀ k, k < cnt + 1 → ∀ b, b < n → ¬ Z m k b
section
variable {P : Program} {w : World} {K : PySem.W.Frag} {mg : Str → Option Value} {base : Heap}
def spInFrom : Sp := fun vs H Q _ => ∃ (u : Addr) (n m lo b : Nat) (q : Nat → Nat → Prop), vs = [.ref u, vI lo, vI b] ∧ LotsAt n H u m q ∧ m ≤ 100 ∧ b < n ∧ ∀ H', Same H H' → Q (.bl (decB (∀ k, lo ≤ k → k < m → q k b))) H'
theorem sc__law_in_from : FnScope ["_law_row", "_law_low", "_law_place", "_law_lot_here"] ["_law_row", "_law_low", "_law_place"] (defScope s__law_in_from) := ⟨rfl, rfl, rfl, by decide +kernel, rfl, by decide +kernel, by decide +kernel⟩
theorem ok_inFrom (T : Tx K mg) : Has P w K mg base (He.ga K "_law_in_from") 1 ["_law_row", "_law_low", "_law_place"] spInFrom := by
  obtain ⟨fd, F⟩ := T.d__law_in_from
  refine ⟨⟨fd, F.ok sc__law_in_from (fun vs H Q E h => ?_) (fun cdv A outer s H vs Q E hr h => ?_), F.bindsN fun _ _ _ _ _ _ us hl => match us, hl with | [_, _, _], _ => rfl⟩, F.kp⟩
  · obtain ⟨u, n, m, lo, b, q, rfl, _⟩ := h
    rfl
  · obtain ⟨u, n, m, lo, b, q, rfl, LA, m100, bn, h⟩ := h
    refine ⟨_, PSs.nox (pss_one (ps_ret (pe_callB (allK (K := K)) (by rfl) T.free_all (by decide +kernel) (pa_cons (pe_lc (own := [("_law_lot_here", 3)]) (g := (gName 3)) (tt := tYes) rfl sc__law_in_from.nd (piL (K := K) (pe_slice (slL (K := K)) (pv 0) (po_some (pv 1)) po_none)) (blkOk_by (by kernel_rfl)) (fun _ _ _ _ _ => (pg_name (i := 3) sc__law_in_from.nd rfl (Or.inl rfl))) (fun _ _ _ _ _ => pts_nil) (fun _ _ _ _ _ => (pe_cmpR (inSq (K := K)) (pv 2) (pv 3) (by rfl)))) pa_nil)))), ?_⟩
    obtain ⟨vs, hvs, lvs, rvs⟩ := LA.ex
    refine ⟨_, rfl, _, rfl, _, rfl, u, _, rfl, SqL.of hvs, fun l1 hl1 => ?_⟩
    have s1 := same_upd (o := HO.lst (cutV (vs.map V.ref) (some ((lo : Nat) : Int)) none)) hl1
    have h1 : (L2.upd H l1 (.lst (cutV (vs.map V.ref) (some ((lo : Nat) : Int)) none))) l1 = some (.lst ((vs.drop lo).map V.ref)) := by rw [upd_same, cut_from lo, List.map_drop]
    generalize L2.upd H l1 (.lst (cutV (vs.map V.ref) (some ((lo : Nat) : Int)) none)) = H1 at s1 h1
    refine ⟨l1, rfl, ⟨_, SqL.of h1⟩, fun D hD => ?_⟩
    refine lc_val (walk_list (K := K) (a := l1) (xs := (vs.drop lo).map V.ref)) (fun k => V.bl (decide (b ∈ lotP n (q (lo + k))))) (by rw [List.length_map, List.length_drop]; omega) hD (fun H2 s2 => SqL.of (s2 _ _ h1)) ?_ ?_
    · rintro k y H2 H3 Nx hk s2 ⟨rfl, ey⟩ kk
      obtain ⟨v, hv, rfl⟩ := get_mapV ey
      rw [List.getElem?_drop] at hv
      have hv2 := s2 _ _ (s1 _ _ (rvs (lo + k) v hv))
      have := kk _ fun _ _ e => e
      refine ⟨rfl, _, rfl, _, rfl, v, _, rfl, .inr (SqT.of hv2), rfl, flat_vI _, ?_⟩
      show Nx (V.bl (inV (vI b) ((lotP n (q (lo + k))).map vI))) H3
      rw [in_lot]
      exact this
    · intro H2 h2 s2
      rw [List.length_map, List.length_drop, lvs] at h2
      refine ⟨D, (List.range (m - lo)).map fun k => decide (b ∈ lotP n (q (lo + k))), rfl, SqL.of (by rw [h2, List.map_map]; rfl), ?_⟩
      have := h _ (s1.trans s2)
      rw [show decB (∀ k, lo ≤ k → k < m → q k b) = (((List.range (m - lo)).map fun k => decide (b ∈ lotP n (q (lo + k)))).all id) from Bool.eq_iff_iff.mpr ?_] at this
      · exact this
      · rw [decB_true, List.all_eq_true]
        constructor
        · intro z v hv
          obtain ⟨k, hk, rfl⟩ := List.mem_map.mp hv
          have hk := List.mem_range.mp hk
          exact decide_eq_true (mem_lotP.mpr ⟨bn, z (lo + k) (by omega) (by omega)⟩)
        · intro z k h1 h2
          have := of_decide_eq_true (z _ (List.mem_map.mpr ⟨k - lo, List.mem_range.mpr (by omega), rfl⟩))
          rw [show lo + (k - lo) = k by omega] at this
          exact (mem_lotP.mp this).2
def spTabRight (K : PySem.W.Frag) : Sp := fun vs H Q _ => ∃ (c D s r : Addr) (n cnt : Nat) (rs us : List Addr) (M : Nat → Nat → Nat) (E : List (Nat × Nat)) (p : Nat → Prop) (PS : List (Addr × List Nat)) (SN : List (Addr × V × Triple)) (Z : Nat → Nat → Nat → Prop), vs = [.ref D, .ref s, vI cnt, .ref r] ∧ n ≤ 8 ∧ cnt ≤ 24 ∧ TabAt c H D n rs M ∧ Spans n E M ∧ StoryAt n H s p PS SN ∧ RowsT n H r us (PS.length + 1) (cnt + 1) Z ∧ TabOk n PS.length cnt p (stepR E PS) (missC M SN) Z ∧
  ∀ H', Same H H' → Q (.bl true) H'
theorem sc__law_table_right : FnScope ["_law_spans_here", "_law_story_here", "_law_count", "_law_rows", "_law_misses", "_law_beat", "_law_low", "_law_to", "_law_row", "_law_place", "_law_lot_here"] ["_law_spans_here", "_law_story_here", "_law_count", "_law_rows"] (defScope s__law_table_right) := ⟨rfl, rfl, rfl, by decide +kernel, rfl, by decide +kernel, by decide +kernel⟩
theorem ok_tabRight (T : Tx K mg) : Has P w K mg base (He.ga K "_law_table_right") 3 ["_law_spans_here", "_law_story_here", "_law_count", "_law_rows"] (spTabRight K) := by
  obtain ⟨⟨fd_law_counts, F_law_counts, b_law_counts⟩, kp_law_counts⟩ := ok_lcounts (P := P) (w := w) (base := base) T
  obtain ⟨⟨fd_law_in_from, F_law_in_from, b_law_in_from⟩, kp_law_in_from⟩ := ok_inFrom (P := P) (w := w) (base := base) T
  obtain ⟨⟨fd_law_reached, F_law_reached, b_law_reached⟩, kp_law_reached⟩ := ok_reached (P := P) (w := w) (base := base) T
  obtain ⟨fd, F⟩ := T.d__law_table_right
  refine ⟨⟨fd, F.ok sc__law_table_right (fun vs H Q E h => ?_) (fun cdv A outer s H vs Q E hr h => ?_), F.bindsN fun _ _ _ _ _ _ us hl => match us, hl with | [_, _, _, _], _ => rfl⟩, F.kp⟩
  · obtain ⟨c, D, s, r, n, cnt, rs, us, M, E, p, PS, SN, Z, rfl, _⟩ := h
    rfl
  · obtain ⟨c, D, sa, r, n, cnt, rs, us, M, E, p, PS, SN, Z, rfl, n8, c24, TA, S, SA, R0, ok, h⟩ := h
    have hr_law_counts : Room 2 _ := hr.mono (by decide)
    have hr_law_in_from : Room 1 _ := hr.mono (by decide)
    have hr_law_reached : Room 1 _ := hr.mono (by decide)
    refine ⟨_, PSs.nox (pss_cons (ps_set (i := 4) sc__law_table_right.nd rfl (Or.inr rfl) (pe_call F_law_counts hr_law_counts rfl T.glo_law_counts kp_law_counts b_law_counts .nil pass0 (pa_cons (pv 0) (pa_cons (pv 1) pa_nil))))
      (pss_cons (ps_if (PW.pt (pw_or (pt_cmpR op_ne (pe_callB (lenK (K := K)) (by rfl) T.free_len (by decide +kernel) (pa_cons (pv 3) pa_nil)) (pe_callB (lenK (K := K)) (by rfl) T.free_len (by decide +kernel) (pa_cons (pv 4) pa_nil)) (nomark _)) (pw_or1 (pt_not (pt_val (pe_callB (allK (K := K)) (by rfl) T.free_all (by decide +kernel) (pa_cons (pe_lc (own := [("_law_row", 8)]) (g := (gName 8)) (tt := tYes) rfl sc__law_table_right.nd (piL (K := K) (pv 3)) (blkOk_by (by kernel_rfl)) (fun _ _ _ _ _ => (pg_name (i := 8) sc__law_table_right.nd rfl (Or.inl rfl))) (fun _ _ _ _ _ => pts_nil) (fun _ _ _ _ _ => (pe_cmpR op_eq (pe_callB (lenK (K := K)) (by rfl) T.free_len (by decide +kernel) (pa_cons (pv 8) pa_nil)) (pe_op op_add (pv 2) pe_int) (nomark _)))) pa_nil))))))) (pss_one (ps_ret pe_bl)) pss_nil)
      (pss_cons (ps_if (pt_not (pt_val (pe_callB (allK (K := K)) (by rfl) T.free_all (by decide +kernel) (pa_cons (pe_lc (own := [("_law_place", 9)]) (g := (gName 9)) (tt := tYes) rfl sc__law_table_right.nd (piT (K := K) (pe_ix (ixT (K := K)) (pv 1) pe_int (fun _ _ => rfl))) (blkOk_by (by kernel_rfl)) (fun _ _ _ _ _ => (pg_name (i := 9) sc__law_table_right.nd rfl (Or.inl rfl))) (fun _ _ _ _ _ => pts_nil) (fun _ _ _ _ _ => (pe_call F_law_in_from hr_law_in_from rfl T.glo_law_in_from kp_law_in_from b_law_in_from .nil pass0 (pa_cons (pe_ix (ixL (K := K)) (pv 3) pe_int (fun _ _ => rfl)) (pa_cons (pe_ix (ixL (K := K)) (pe_ix (ixL (K := K)) (pv 4) pe_int (fun _ _ => rfl)) (pv 9) (fun _ _ => rfl)) (pa_cons (pv 9) pa_nil)))))) pa_nil)))) (pss_one (ps_ret pe_bl)) pss_nil)
      (pss_cons (ps_for PassesOwn.never rfl (pi_range1 (by rfl) T.free_range (pa_cons (pe_callB (lenK (K := K)) (by rfl) T.free_len (by decide +kernel) (pa_cons (pe_ix (ixT (K := K)) (pv 1) pe_int (fun _ _ => rfl)) pa_nil)) pa_nil)) (pg_name (i := 5) sc__law_table_right.nd rfl (Or.inl rfl)) (pss_one (ps_for PassesOwn.never rfl (pi_range1 (by rfl) T.free_range (pa_cons (pe_op op_add (pv 2) pe_int) pa_nil)) (pg_name (i := 6) sc__law_table_right.nd rfl (Or.inl rfl)) (pss_one (ps_for PassesOwn.never rfl (piT (K := K) (pe_call F_law_reached hr_law_reached rfl T.glo_law_reached kp_law_reached b_law_reached .nil pass0 (pa_cons (pv 0) (pa_cons (pe_ix (ixT (K := K)) (pe_ix (ixT (K := K)) (pv 1) pe_int (fun _ _ => rfl)) (pv 5) (fun _ _ => rfl)) (pa_cons (pe_ix (ixL (K := K)) (pe_ix (ixL (K := K)) (pv 3) (pv 5) (fun _ _ => rfl)) (pv 6) (fun _ _ => rfl)) pa_nil))))) (pg_name (i := 7) sc__law_table_right.nd rfl (Or.inl rfl)) (pss_one (ps_if (pt_not (pt_val (pe_call F_law_in_from hr_law_in_from rfl T.glo_law_in_from kp_law_in_from b_law_in_from .nil pass0 (pa_cons (pe_ix (ixL (K := K)) (pv 3) (pe_op op_add (pv 5) pe_int) (fun _ _ => rfl)) (pa_cons (pe_op op_add (pv 6) (pe_ix (ixL (K := K)) (pe_ix (ixL (K := K)) (pv 4) (pe_op op_add (pv 5) pe_int) (fun _ _ => rfl)) (pv 7) (fun _ _ => rfl))) (pa_cons (pv 7) pa_nil)))))) (pss_one (ps_ret pe_bl)) pss_nil)))))))
      (pss_one (ps_ret (pe_callB (allK (K := K)) (by rfl) T.free_all (by decide +kernel) (pa_cons (pe_lc (own := [("_law_lot_here", 10)]) (g := (gName 10)) (tt := tYes) rfl sc__law_table_right.nd (piL (K := K) (pe_ix (ixL (K := K)) (pv 3) (pe_un un_neg pe_int) (fun _ _ => rfl))) (blkOk_by (by kernel_rfl)) (fun _ _ _ _ _ => (pg_name (i := 10) sc__law_table_right.nd rfl (Or.inl rfl))) (fun _ _ _ _ _ => pts_nil) (fun _ _ _ _ _ => (pe_cmpR (eqD (K := K) hr.units) (pv 10) (pe_tup pa_nil) (nomark _)))) pa_nil)))))))), ?_⟩
    have lp := SA.lp
    refine ⟨_, rfl, _, rfl, c, D, sa, n, rs, M, p, PS, SN, rfl, n8, TA, SA, fun H1 lm CA _ s1 => ?_⟩
    obtain ⟨tl, tp, ts, hs, htl, htp, hts⟩ := (SA.same s1).ex
    obtain ⟨ms, hms, lms, rms⟩ := CA.ex
    have R1 := R0.same s1
    have lus := R1.len
    refine ⟨_, rfl, r, _, rfl, .inl (SqL.of R1.at_), _, rfl, lm, _, rfl, .inl (SqL.of hms), rfl, _, rfl, ?_⟩
    have el : (!decide (V.int (((us.map V.ref).length : Nat) : Int) = V.int (((ms.map V.ref).length : Nat) : Int))) = false := by
      rw [List.length_map, List.length_map, lus, lms]
      simp
    show if (!decide (V.int (((us.map V.ref).length : Nat) : Int) = V.int (((ms.map V.ref).length : Nat) : Int))) = true then _ else _
    rw [el]
    refine iteF ?_
    have allT : ∀ k : Nat, (((List.range k).map fun _ => true).all id) = true := fun k => by
      rw [List.all_eq_true]
      intro v hv
      obtain ⟨_, _, rfl⟩ := List.mem_map.mp hv
      rfl
    -- each row has its lots
    refine ⟨_, rfl, r, rfl, ⟨_, SqL.of R1.at_⟩, fun D2 hD2 => ?_⟩
    refine lc_val (walk_list (K := K) (a := r) (xs := us.map V.ref)) (fun _ => V.bl true) (by rw [List.length_map]; omega) hD2 (fun H2 s2 => SqL.of (s2 _ _ R1.at_)) ?_ ?_
    · rintro k y H2 H3 Nx hk s2 ⟨rfl, ey⟩ kk
      obtain ⟨u, hu, rfl⟩ := get_mapV ey
      obtain ⟨vs, hvs, lvs, _⟩ := ((R1.same s2).row k u hu).ex
      refine ⟨rfl, _, rfl, u, _, rfl, .inl (SqL.of hvs), _, rfl, _, _, rfl, rfl, rfl, ?_⟩
      have := kk _ fun _ _ e => e
      have ed : decide (V.int (((vs.map V.ref).length : Nat) : Int) = V.int (((cnt : Nat) : Int) + 1)) = true := by
        rw [List.length_map, lvs]
        exact decide_eq_true rfl
      show Nx (V.bl (decide (V.int (((vs.map V.ref).length : Nat) : Int) = V.int (((cnt : Nat) : Int) + 1)))) H3
      rw [ed]
      exact this
    intro H2 h2 s2
    refine ⟨D2, (List.range (us.map V.ref).length).map fun _ => true, rfl, SqL.of (by rw [h2, List.map_map]; rfl), _, rfl, ?_⟩
    show if (!(((List.range (us.map V.ref).length).map fun _ => true).all id)) = true then _ else _
    rw [allT]
    refine iteF ?_
    clear h2 hD2
    have s12 := s1.trans s2
    have R2 := R1.same s2
    have hu0 : us[0]? = some (us[0]'(by omega)) := List.getElem?_eq_getElem _
    generalize us[0]'(by omega) = u0 at hu0
    have hm0 : ms[0]? = some (ms[0]'(by omega)) := List.getElem?_eq_getElem _
    generalize ms[0]'(by omega) = m0 at hm0
    -- the beginning
    refine ⟨_, rfl, sa, _, 0, _, rfl, rfl, SqT.of (s2 _ _ hs), rfl, tl, rfl, ⟨_, SqT.of (s2 _ _ htl)⟩, fun D3 hD3 => ?_⟩
    have ll := lotP_len n p
    refine lc_val (walk_tup (K := K) (a := tl) (xs := (lotP n p).map vI)) (fun _ => V.bl true) (by rw [List.length_map]; omega) hD3 (fun H3 s3 => SqT.of (s3 _ _ (s2 _ _ htl))) ?_ ?_
    · rintro k y H3 H4 Nx hk s3 ⟨rfl, ey⟩ kk
      obtain ⟨b, hb, rfl⟩ := get_vI ey
      have bm := mem_lotP.mp (List.mem_of_getElem? hb)
      have s23 := s2.trans s3
      refine ⟨rfl, _, rfl, r, _, 0, _, rfl, rfl, SqL.of (s23 _ _ R1.at_), atI_nat (j := 0) (get_map hu0), _, rfl, lm, _, 0, _, rfl, rfl, SqL.of (s23 _ _ hms), atI_nat (j := 0) (get_map hm0), _, rfl, m0, _, _, _, rfl, rfl, SqL.of (s23 _ _ (rms 0 m0 hm0)), atI_nat (row_get bm.1), _, rfl, u0, n, cnt + 1, _, b, Z 0, rfl, (R1.same s23).row 0 u0 hu0, by omega, bm.1, fun H5 s5 => ?_⟩
      have := kk _ s5
      rw [decB_true.mpr fun k h1 h2 => ok.first b bm.1 bm.2 k h1 h2]
      exact this
    intro H3 h3 s3
    refine ⟨D3, (List.range ((lotP n p).map vI).length).map fun _ => true, rfl, SqL.of (by rw [h3, List.map_map]; rfl), _, rfl, ?_⟩
    show if (!(((List.range ((lotP n p).map vI).length).map fun _ => true).all id)) = true then _ else _
    rw [allT]
    refine iteF ?_
    clear h3 hD3
    have s13 := s2.trans s3
    have s03 := s1.trans s13
    -- step by step
    refine ⟨_, rfl, sa, _, 1, _, rfl, rfl, SqT.of (s13 _ _ hs), rfl, tp, _, rfl, .inr (SqT.of (s13 _ _ htp)), _, rfl, ?_⟩
    rw [List.length_map]
    refine ⟨by omega, by omega, for_range (lo := 0) (n := ((PS.length : Nat) : Int).toNat) (fun i σ H4 => (∃ v5 v6 v7 : Option V, σ = [some (.ref D), some (.ref sa), some (vI cnt), some (.ref r), some (.ref lm), v5, v6, v7, none, none, none]) ∧ Same H1 H4)
      ⟨⟨none, none, none, rfl⟩, s13⟩ ?_ ?_⟩
    · rintro i σ H4 hi ⟨⟨v5, v6, v7, rfl⟩, s4⟩
      have hi : i < PS.length := by omega
      have hq : PS[i]? = some PS[i] := List.getElem?_eq_getElem hi
      generalize PS[i] = q at hq
      have PQ := (SA.same s1).pc q (List.mem_of_getElem? hq)
      have hui : us[i]? = some (us[i]'(by omega)) := List.getElem?_eq_getElem _
      generalize us[i]'(by omega) = ui at hui
      have huj : us[i + 1]? = some (us[i + 1]'(by omega)) := List.getElem?_eq_getElem _
      generalize us[i + 1]'(by omega) = uj at huj
      have hmj : ms[i + 1]? = some (ms[i + 1]'(by omega)) := List.getElem?_eq_getElem _
      generalize ms[i + 1]'(by omega) = mj at hmj
      refine ⟨_, rfl, _, _, rfl, rfl, _, rfl, by omega, by omega, for_range (lo := 0) (n := (((cnt : Nat) : Int) + 1).toNat) (fun l σ H5 => (∃ v6 v7 : Option V, σ = [some (.ref D), some (.ref sa), some (vI cnt), some (.ref r), some (.ref lm), some (.int (0 + (i : Nat))), v6, v7, none, none, none]) ∧ Same H1 H5)
        ⟨⟨_, _, rfl⟩, s4⟩ ?_ ?_⟩
      · rintro l σ H5 hl ⟨⟨w6, w7, rfl⟩, s5⟩
        have hl : l < cnt + 1 := by omega
        obtain ⟨vs, hvs, lvs, rvs⟩ := ((R1.same s5).row i ui hui).ex
        have hvl : vs[l]? = some (vs[l]'(by omega)) := List.getElem?_eq_getElem _
        generalize vs[l]'(by omega) = vl at hvl
        refine ⟨_, rfl, _, rfl, sa, _, 1, _, rfl, rfl, SqT.of (s5 _ _ hs), rfl, _, rfl, tp, _, _, _, rfl, rfl, SqT.of (s5 _ _ htp), at0 (get_map hq), _, rfl, _, rfl, r, _, _, _, rfl, rfl, SqL.of (s5 _ _ R1.at_), at0 (get_map hui), _, rfl, ui, _, _, _, rfl, rfl, SqL.of hvs, at0 (get_map hvl), ?_⟩
        have s05 := s1.trans s5
        refine ⟨c, D, q.1, vl, rs, M, n, E, q.2, Z i l, rfl, TA.same s05, S, n8, s5 _ _ PQ.1, PQ.2, rvs l vl hvl, fun H6 t6 h6 s6 => ?_⟩
        have s16 := s5.trans s6
        refine ⟨t6, rfl, ⟨_, SqT.of h6⟩, for_tup (K := K) (a := t6) (xs := (lotP n (stepP n E q.2 (Z i l))).map vI) (fun j σ H7 => (∃ v7 : Option V, σ = [some (.ref D), some (.ref sa), some (vI cnt), some (.ref r), some (.ref lm), some (.int (0 + (i : Nat))), some (.int (0 + (l : Nat))), v7, none, none, none]) ∧ Same H6 H7)
          ⟨⟨_, rfl⟩, fun _ _ e => e⟩ (fun j σ H7 _ z => SqT.of (z.2 _ _ h6)) ?_ ?_⟩
        · rintro j y σ H7 hy ⟨⟨w7', rfl⟩, s7⟩
          obtain ⟨b, hb, rfl⟩ := get_vI hy
          have bm := mem_lotP.mp (List.mem_of_getElem? hb)
          obtain ⟨a, an, z1, z2⟩ := bm.2
          have s17 := s16.trans s7
          refine ⟨_, rfl, _, rfl, _, _, rfl, rfl, r, _, _, _, rfl, rfl, SqL.of (s17 _ _ R1.at_), at1 (get_map huj), ?_⟩
          refine ⟨_, rfl, _, rfl, _, rfl, _, _, rfl, rfl, lm, _, _, _, rfl, rfl, SqL.of (s17 _ _ hms), at1 (get_map hmj), _, rfl, mj, _, _, _, rfl, rfl, SqL.of (s17 _ _ (rms (i + 1) mj hmj)), atI_nat (row_get bm.1), _, _, rfl, rfl, _, rfl, uj, n, cnt + 1, l + missC M SN (i + 1) b, b, Z (i + 1), ?_, (R1.same s17).row (i + 1) uj huj, by omega, bm.1, fun H8 s8 => ?_⟩
          · rw [Int.zero_add]
            rfl
          refine ⟨_, rfl, ?_⟩
          rw [decB_true.mpr fun k h1 h2 => ok.next i hi l hl a b an bm.1 z1 ⟨q, hq, z2⟩ k h1 h2]
          exact iteF ⟨⟨_, rfl⟩, s7.trans s8⟩
        · rintro σ H7 ⟨⟨w7', rfl⟩, s7⟩
          exact ⟨⟨_, _, rfl⟩, s16.trans s7⟩
      · rintro σ H5 ⟨⟨w6, w7, rfl⟩, s5⟩
        exact ⟨⟨_, _, _, rfl⟩, s5⟩
    · rintro σ H4 ⟨⟨v5, v6, v7, rfl⟩, s4⟩
      -- the end
      have hul : us[PS.length]? = some (us[PS.length]'(by omega)) := List.getElem?_eq_getElem _
      generalize us[PS.length]'(by omega) = ul at hul
      have lastU : atI (us.map V.ref) (-1) = some (V.ref ul) := by
        have e : us = us.take PS.length ++ [ul] := by
          have e := List.take_append_drop PS.length us
          rw [List.drop_eq_getElem_cons (by omega), List.drop_of_length_le (by omega)] at e
          have e2 : us[PS.length]'(by omega) = ul := by
            rw [List.getElem?_eq_getElem (by omega)] at hul
            exact Option.some.inj hul
          rw [e2] at e
          exact e.symm
        rw [e, List.map_append]
        exact atI_last _ _
      obtain ⟨vs, hvs, lvs, rvs⟩ := ((R1.same s4).row _ ul hul).ex
      refine ⟨_, rfl, 1, rfl, r, _, _, _, rfl, rfl, SqL.of (s4 _ _ R1.at_), lastU, ul, rfl, ⟨_, SqL.of hvs⟩, fun D5 hD5 => ?_⟩
      refine lc_val (walk_list (K := K) (a := ul) (xs := vs.map V.ref)) (fun _ => V.bl true) (by rw [List.length_map]; omega) hD5 (fun H5 s5 => SqL.of (s5 _ _ hvs)) ?_ ?_
      · rintro k y H5 H6 Nx hk s5 ⟨rfl, ey⟩ kk
        obtain ⟨v, hv, rfl⟩ := get_mapV ey
        rw [List.length_map] at hk
        have em : lotP n (Z PS.length k) = [] := List.eq_nil_iff_forall_not_mem.mpr fun b hb => by
          have hb := mem_lotP.mp hb
          exact ok.last k (by omega) b hb.1 hb.2
        have hv5 := s5 _ _ (rvs k v hv)
        rw [em] at hv5
        refine ⟨rfl, _, rfl, Nat.zero_le _, fun o ho => ?_⟩
        have s6 := same_upd (o := HO.tup []) ho
        refine ⟨_, _, dp_lot (xs := []) (s6 _ _ hv5), dp_lot (xs := []) upd_same, shaped_tup _, shaped_tup _, kk _ s6⟩
      · intro H5 h5 s5
        refine ⟨D5, (List.range (vs.map V.ref).length).map fun _ => true, rfl, SqL.of (by rw [h5, List.map_map]; rfl), ?_⟩
        rw [allT]
        exact h _ ((s1.trans s4).trans s5)
end
end RL
/-! A table holds or not, by the program: rows of lots of any lengths. -/
namespace RL
open PySem PySem.Spec PyProof.Rows L2 RLM
theorem all_snocV {bs : List Bool} {b : Bool} : (bs ++ [b]).all id = true ↔ bs.all id = true ∧ b = true := by
  rw [List.all_append]
  simp
/-- rows of lots, of any lengths -/
structure RowsV (n : Nat) (H : Hp) (r : Addr) (us : List Addr) (m : Nat) (kf : Nat → Nat) (Z : Nat → Nat → Nat → Prop) : Prop where
  at_ : H r = some (.lst (us.map V.ref))
  len : us.length = m
  row : ∀ (i : Nat) (u : Addr), us[i]? = some u → LotsAt n H u (kf i) (Z i)
  small : ∀ i, i < m → kf i ≤ 60
theorem RowsV.same {n : Nat} {H H' : Hp} {r : Addr} {us : List Addr} {m : Nat} {kf : Nat → Nat} {Z : Nat → Nat → Nat → Prop} (s : Same H H') (h : RowsV n H r us m kf Z) : RowsV n H' r us m kf Z := ⟨s _ _ h.at_, h.len, fun i u e => (h.row i u e).same s, h.small⟩
theorem RowsT.rowsV {n : Nat} {H : Hp} {r : Addr} {us : List Addr} {m k : Nat} {P : Nat → Nat → Nat → Prop} (h : RowsT n H r us m k P) (hk : k ≤ 60) : RowsV n H r us m (fun _ => k) P := ⟨h.at_, h.len, h.row, fun _ _ => hk⟩
section
variable {P : Program} {w : World} {K : PySem.W.Frag} {mg : Str → Option Value} {base : Heap}
def spRowHas : Sp := fun vs H Q _ => ∃ (u d : Addr) (n m : Nat) (q : Nat → Nat → Prop) (L : List (Nat × Nat)), vs = [.ref u, .ref d] ∧ n ≤ 8 ∧ LotsAt n H u m q ∧ m ≤ 60 ∧ NeedAt n H d L ∧ ∀ H', Same H H' → Q (.bl (decB (∀ b v, (b, v) ∈ L → ∀ k, v ≤ k → k < m → q k b))) H'
theorem sc_row_has : FnScope ["row", "needs", "place", "lot"] ["row", "needs"] (defScope s_row_has) := ⟨rfl, rfl, rfl, by decide +kernel, rfl, by decide +kernel, by decide +kernel⟩
theorem ok_rowHas (T : Tx K mg) : Has P w K mg base (He.ga K "row_has") 1 ["row", "needs"] spRowHas := by
  obtain ⟨fd, F⟩ := T.d_row_has
  refine ⟨⟨fd, F.ok sc_row_has (fun vs H Q E h => ?_) (fun cdv A outer s H vs Q E hr h => ?_), F.bindsN fun _ _ _ _ _ _ us hl => match us, hl with | [_, _], _ => rfl⟩, F.kp⟩
  · obtain ⟨u, d, n, m, q, L, rfl, _⟩ := h
    rfl
  · obtain ⟨u, d, n, m, q, L, rfl, n8, LA, m60, N, h⟩ := h
    have hu := hu_of hr
    refine ⟨_, PSs.nox (pss_one (ps_ret (pe_callB (allK (K := K)) (by rfl) T.free_all (by decide +kernel) (pa_cons (pe_lock (pe_lc2 (own := [("place", 2), ("lot", 3)]) (vs1 := [3]) (g := (gName 2)) (tt := tYes) (g1 := (gName 3)) (tt1 := tYes) rfl sc_row_has.nd (pi_keys (pv 1)) (blkOk_by (by kernel_rfl)) (by decide) (fun _ _ _ _ _ => (pg_name (i := 2) sc_row_has.nd rfl (Or.inl rfl))) (fun _ _ _ _ _ => pts_nil) (fun _ _ _ _ _ => (piL (K := K) (pe_slice (slL (K := K)) (pv 0) (po_some (pe_dget hu (pv 1) (pv 2) (fun _ _ => rfl))) po_none))) (fun _ _ _ _ _ => (pg_name (i := 3) sc_row_has.nd rfl (Or.inl rfl))) (fun _ _ _ _ _ => pts_nil) (fun _ _ _ _ _ => (pe_cmpR (inSq (K := K)) (pv 2) (pv 3) (by rfl))))) pa_nil)))), ?_⟩
    obtain ⟨us, hus, lus, rus⟩ := LA.ex
    have lL := N.len
    refine ⟨d, _, N.at_, True.intro, fun od => ?_⟩
    have s0 : Same (L2.upd H d (.frz od (.dK (nK L)))) (L2.upd H d (.frz od (.dK (nK L)))) := fun _ _ e => e
    have hd0 : (upd H d (.frz od (.dK (nK L)))) d = some (.frz od (.dK (nK L))) := upd_same
    have back : ∀ {H'}, Same (upd H d (.frz od (.dK (nK L)))) H' → Same H (upd H' d (.dK (nK L))) := fun s => same_lock N.at_ s
    have un : u ≠ d := fun e => by
      rw [e, N.at_] at hus
      cases hus
    have hus0 : (upd H d (.frz od (.dK (nK L)))) u = some (.lst (us.map V.ref)) := by rw [upd_ne un]; exact hus
    have rus0 : ∀ (i : Nat) (v : Addr), us[i]? = some v → (upd H d (.frz od (.dK (nK L)))) v = some (.tup ((lotP n (q i)).map vI)) := fun i v e => by
      rw [upd_ne (ne_of (rus i v e) N.at_ (by intro z; cases z))]
      exact rus i v e
    clear s0
    generalize upd H d (.frz od (.dK (nK L))) = H0 at hd0 back hus0 rus0
    refine ⟨_, rfl, d, od, rfl, .inl ⟨_, hd0, fun D hD => ?_⟩⟩
    refine it_any (walk_keys (d := d) (o := od) (kvs := nK L)) (fun i H1 => ∃ bs : List Bool, H1 D = some (.lst (bs.map V.bl)) ∧ bs.length ≤ 60 * i ∧ (bs.all id = true ↔ ∀ (j : Nat) (e : Nat × Nat), j < i → L[j]? = some e → ∀ k, e.2 ≤ k → k < m → q k e.1) ∧ Same H0 H1) ⟨[], upd_same, by simp, ⟨fun _ j e hj => absurd hj (Nat.not_lt_zero _), fun _ => rfl⟩, same_upd hD⟩ (fun i H1 _ ⟨_, _, _, _, s1⟩ => s1 _ _ hd0) ?_ ?_
    · rintro i y H1 H2 hi ⟨bs, hb, lb, ab, s1⟩ ⟨rfl, k', v', ekv, rfl⟩
      unfold nK at ekv hi
      rw [List.length_map] at hi
      have hq : L[i]? = some L[i] := List.getElem?_eq_getElem hi
      rw [List.getElem?_map, hq] at ekv
      generalize L[i] = e at hq ekv
      have e1 : ((Sum.inl (nI e.1) : Key), vI e.2) = (k', v') := Option.some.inj ekv
      cases e1
      have qm : (e.1, e.2) ∈ L := List.mem_of_getElem? hq
      refine ⟨rfl, yesT ?_⟩
      refine ⟨_, rfl, _, rfl, _, rfl, d, vI e.2, rfl, .inl ⟨nK L, Sum.inl (nI e.1), .inr ⟨od, s1 _ _ hd0⟩, rfl, (val_in N.nd qm).symm⟩, _, rfl, u, _, rfl, SqL.of (s1 _ _ hus0), fun l hl => ?_⟩
      have s2 := same_upd (o := HO.lst (cutV (us.map V.ref) (some ((e.2 : Nat) : Int)) none)) hl
      have h2 : (L2.upd H2 l (.lst (cutV (us.map V.ref) (some ((e.2 : Nat) : Int)) none))) l = some (.lst ((us.drop e.2).map V.ref)) := by rw [upd_same, cut_from e.2, List.map_drop]
      have lD : l ≠ D := fun z => by
        rw [z, hb] at hl
        cases hl
      generalize L2.upd H2 l (.lst (cutV (us.map V.ref) (some ((e.2 : Nat) : Int)) none)) = H3 at s2 h2
      have s12 := s1.trans s2
      refine ⟨l, rfl, ⟨_, SqL.of h2⟩, ?_⟩
      refine it_any (walk_list (K := K) (a := l) (xs := (us.drop e.2).map V.ref)) (fun t H4 => ∃ cs : List Bool, H4 D = some (.lst (cs.map V.bl)) ∧ cs.length ≤ 60 * i + t ∧ (cs.all id = true ↔ (∀ (j : Nat) (e : Nat × Nat), j < i → L[j]? = some e → ∀ k, e.2 ≤ k → k < m → q k e.1) ∧ ∀ k, e.2 ≤ k → k < e.2 + t → k < m → q k e.1) ∧ Same H0 H4 ∧ H4 l = some (.lst ((us.drop e.2).map V.ref)))
        ⟨bs, s2 _ _ hb, by omega, by rw [ab]; exact ⟨fun z => ⟨z, fun k h1 h2 _ => by omega⟩, fun z => z.1⟩, s12, h2⟩ (fun t H4 _ ⟨_, _, _, _, _, z⟩ => SqL.of z) ?_ ?_
      · rintro t z _ H4 ht ⟨cs, hc, lc, ac, s4, hl4⟩ ⟨rfl, hz⟩
        obtain ⟨v, hv, rfl⟩ := get_mapV hz
        rw [List.getElem?_drop] at hv
        have vl := (List.getElem?_eq_some_iff.mp hv).1
        refine ⟨rfl, yesT ?_⟩
        refine ⟨_, rfl, _, rfl, v, _, rfl, .inr (SqT.of (s4 _ _ (rus0 _ v hv))), rfl, flat_vI _, ?_⟩
        have ei : inV (vI e.1) ((lotP n (q (e.2 + t))).map vI) = decide (e.1 ∈ lotP n (q (e.2 + t))) := in_lot _ _
        show ∃ acc, H4 D = some (.lst acc) ∧ acc.length < sizeLine ∧ _
        refine ⟨_, hc, ?_, cs ++ [decide (e.1 ∈ lotP n (q (e.2 + t)))], ?_, by simp; omega, ?_, same_mut s4 hD, ?_⟩
        · rw [List.length_map]
          exact Nat.lt_of_le_of_lt (show cs.length ≤ 600 by omega) (by decide)
        · rw [upd_same, List.map_append]
          exact congrArg (fun b => some (HO.lst (cs.map V.bl ++ [V.bl b]))) ei
        · rw [all_snocV, ac, decide_eq_true_iff]
          have bn := N.lt _ qm
          constructor
          · rintro ⟨⟨z1, z2⟩, z3⟩
            refine ⟨z1, fun k h1 h2 h3 => ?_⟩
            rcases Nat.lt_or_ge k (e.2 + t) with y | y
            · exact z2 k h1 y h3
            · rw [show k = e.2 + t by omega]
              exact (mem_lotP.mp z3).2
          · rintro ⟨z1, z2⟩
            exact ⟨⟨z1, fun k h1 h2 h3 => z2 k h1 (by omega) h3⟩, mem_lotP.mpr ⟨bn, z2 _ (by omega) (by omega) (by omega)⟩⟩
        · rw [upd_ne lD]
          exact hl4
      · rintro H4 ⟨cs, hc, lc, ac, s4, _⟩
        rw [List.length_map, List.length_drop] at lc ac
        refine ⟨cs, hc, by omega, ?_, s4⟩
        rw [ac]
        constructor
        · rintro ⟨z1, z2⟩ j e' hj he'
          rcases Nat.lt_or_ge j i with y | y
          · exact z1 j e' y he'
          · have : j = i := by omega
            subst this
            rw [hq] at he'
            cases he'
            exact fun k h1 h3 => z2 k h1 (by omega) h3
        · intro z
          exact ⟨fun j e' hj he' => z j e' (by omega) he', fun k h1 _ h3 => z i e (Nat.lt_succ_self i) hq k h1 h3⟩
    · rintro H1 ⟨bs, hb, lb, ab, s1⟩
      have hd1 := s1 _ _ hd0
      refine ⟨hd1, ?_⟩
      have eD : D ≠ d := fun z => by
        rw [z, hd1] at hb
        cases hb
      refine ⟨D, bs, rfl, SqL.of (by rw [upd_ne eD]; exact hb), ?_⟩
      have := h _ (back s1)
      rw [show decB (∀ b v, (b, v) ∈ L → ∀ k, v ≤ k → k < m → q k b) = bs.all id from Bool.eq_iff_iff.mpr ?_] at this
      · exact this
      rw [decB_true, ab]
      constructor
      · intro z j e _ he
        exact z e.1 e.2 (List.mem_of_getElem? he)
      · intro z b v hm
        obtain ⟨j, hj⟩ := List.mem_iff_getElem?.mp hm
        exact z j (b, v) (by unfold nK; rw [List.length_map]; exact (List.getElem?_eq_some_iff.mp hj).1) hj
def spSized (K : PySem.W.Frag) : Sp := fun vs H Q _ => ∃ (c x s r : Addr) (n cnt m : Nat) (E : List (Nat × Nat)) (p : Nat → Prop) (PS : List (Addr × List Nat)) (SN : List (Addr × V × Triple)) (us : List Addr) (kf : Nat → Nat) (Z : Nat → Nat → Nat → Prop), vs = [.ref x, .ref s, vI cnt, .ref r] ∧ BoardAt K c H x n E ∧ StoryAt n H s p PS SN ∧ RowsV n H r us m kf Z ∧ m ≤ 60 ∧
  ∀ H', Same H H' → Q (.bl (decB (m = PS.length + 1 ∧ ∀ i, i < m → kf i = cnt + 1))) H'
theorem sc_is_sized : FnScope ["board", "story", "count", "rows", "row", "lot"] ["board", "story", "count", "rows"] (defScope s_is_sized) := ⟨rfl, rfl, rfl, by decide +kernel, rfl, by decide +kernel, by decide +kernel⟩
theorem ok_sized (T : Tx K mg) : Has P w K mg base (He.ga K "is_sized") 4 ["board", "story", "count", "rows"] (spSized K) := by
  obtain ⟨⟨fd_last_beat, F_last_beat, b_last_beat⟩, kp_last_beat⟩ := ok_last (P := P) (w := w) (base := base) T
  obtain ⟨⟨fd_is_lot, F_is_lot, b_is_lot⟩, kp_is_lot⟩ := ok_is_lot (P := P) (w := w) (base := base) T
  obtain ⟨fd, F⟩ := T.d_is_sized
  refine ⟨⟨fd, F.ok sc_is_sized (fun vs H Q E h => ?_) (fun cdv A outer s H vs Q E hr h => ?_), F.bindsN fun _ _ _ _ _ _ us hl => match us, hl with | [_, _, _, _], _ => rfl⟩, F.kp⟩
  · obtain ⟨c, x, s, r, n, cnt, m, E, p, PS, SN, us, kf, Z, rfl, _⟩ := h
    rfl
  · obtain ⟨c, x, sa, r, n, cnt, m, E, p, PS, SN, us, kf, Z, rfl, B, SA, R0, m60, h⟩ := h
    have hr_last_beat : Room 1 _ := hr.mono (by decide)
    have hr_is_lot : Room 3 _ := hr.mono (by decide)
    refine ⟨_, PSs.nox (pss_cons (ps_if (PW.pt (pw_or (pt_cmpR op_ne (pe_callB (lenK (K := K)) (by rfl) T.free_len (by decide +kernel) (pa_cons (pv 3) pa_nil)) (pe_op op_add (pe_call F_last_beat hr_last_beat rfl T.glo_last_beat kp_last_beat b_last_beat .nil pass0 (pa_cons (pv 1) pa_nil)) pe_int) (nomark _)) (pw_or1 (pt_not (pt_val (pe_callB (allK (K := K)) (by rfl) T.free_all (by decide +kernel) (pa_cons (pe_lc (own := [("row", 4)]) (g := (gName 4)) (tt := tYes) rfl sc_is_sized.nd (piL (K := K) (pv 3)) (blkOk_by (by kernel_rfl)) (fun _ _ _ _ _ => (pg_name (i := 4) sc_is_sized.nd rfl (Or.inl rfl))) (fun _ _ _ _ _ => pts_nil) (fun _ _ _ _ _ => (pe_cmpR op_eq (pe_callB (lenK (K := K)) (by rfl) T.free_len (by decide +kernel) (pa_cons (pv 4) pa_nil)) (pe_op op_add (pv 2) pe_int) (nomark _)))) pa_nil))))))) (pss_one (ps_ret pe_bl)) pss_nil)
      (pss_one (ps_ret (pe_callB (allK (K := K)) (by rfl) T.free_all (by decide +kernel) (pa_cons (pe_lc2 (own := [("row", 4), ("lot", 5)]) (vs1 := [5]) (g := (gName 4)) (tt := tYes) (g1 := (gName 5)) (tt1 := tYes) rfl sc_is_sized.nd (piL (K := K) (pv 3)) (blkOk_by (by kernel_rfl)) (by decide) (fun _ _ _ _ _ => (pg_name (i := 4) sc_is_sized.nd rfl (Or.inl rfl))) (fun _ _ _ _ _ => pts_nil) (fun _ _ _ _ _ => (piL (K := K) (pv 4))) (fun _ _ _ _ _ => (pg_name (i := 5) sc_is_sized.nd rfl (Or.inl rfl))) (fun _ _ _ _ _ => pts_nil) (fun _ _ _ _ _ => (pe_call F_is_lot hr_is_lot rfl T.glo_is_lot kp_is_lot b_is_lot .nil pass0 (pa_cons (pv 0) (pa_cons (pv 5) pa_nil))))) pa_nil))))), ?_⟩
    have lus := R0.len
    refine ⟨_, rfl, r, _, rfl, .inl (SqL.of R0.at_), _, rfl, sa, n, p, PS, SN, rfl, SA, ?_⟩
    refine ⟨_, _, rfl, rfl, rfl, _, rfl, ?_⟩
    have no : ∀ {H'}, Same H H' → ¬ (m = PS.length + 1 ∧ ∀ i, i < m → kf i = cnt + 1) → Q (.bl false) H' := fun s k => by
      have := h _ s
      rw [show decB (m = PS.length + 1 ∧ ∀ i, i < m → kf i = cnt + 1) = false from Bool.eq_false_iff.mpr fun z => k (decB_true.mp z)] at this
      exact this
    have el : (!decide (V.int (((us.map V.ref).length : Nat) : Int) = V.int (((PS.length : Nat) : Int) + 1))) = !decide (m = PS.length + 1) := by
      rw [List.length_map, lus]
      congr 1
      rw [decide_eq_decide]
      exact ⟨fun z => by have := V.int.inj z; omega, fun z => by rw [z]; rfl⟩
    show if (!decide (V.int (((us.map V.ref).length : Nat) : Int) = V.int (((PS.length : Nat) : Int) + 1))) = true then _ else _
    rw [el]
    by_cases hm : m = PS.length + 1
    rotate_left
    · rw [decide_eq_false hm]
      exact iteT (no (Same.refl _) fun z => hm z.1)
    rw [decide_eq_true hm]
    refine iteF ?_
    refine ⟨_, rfl, r, rfl, ⟨_, SqL.of R0.at_⟩, fun D2 hD2 => ?_⟩
    refine lc_val (walk_list (K := K) (a := r) (xs := us.map V.ref)) (fun k => V.bl (decide (kf k = cnt + 1))) (by rw [List.length_map]; omega) hD2 (fun H2 s2 => SqL.of (s2 _ _ R0.at_)) ?_ ?_
    · rintro k y H2 H3 Nx hk s2 ⟨rfl, ey⟩ kk
      obtain ⟨u, hu, rfl⟩ := get_mapV ey
      obtain ⟨vs, hvs, lvs, _⟩ := ((R0.same s2).row k u hu).ex
      refine ⟨rfl, _, rfl, u, _, rfl, .inl (SqL.of hvs), _, rfl, _, _, rfl, rfl, rfl, ?_⟩
      have := kk _ fun _ _ e => e
      have ed : decide (V.int (((vs.map V.ref).length : Nat) : Int) = V.int (((cnt : Nat) : Int) + 1)) = decide (kf k = cnt + 1) := by
        rw [List.length_map, lvs, decide_eq_decide]
        exact ⟨fun z => by have := V.int.inj z; omega, fun z => by rw [z]; rfl⟩
      show Nx (V.bl (decide (V.int (((vs.map V.ref).length : Nat) : Int) = V.int (((cnt : Nat) : Int) + 1)))) H3
      rw [ed]
      exact this
    intro H2 h2 s2
    refine ⟨D2, (List.range (us.map V.ref).length).map fun k => decide (kf k = cnt + 1), rfl, SqL.of (by rw [h2, List.map_map]; rfl), _, rfl, ?_⟩
    have ek : ((List.range (us.map V.ref).length).map fun k => decide (kf k = cnt + 1)).all id = decB (∀ i, i < m → kf i = cnt + 1) := by
      refine Bool.eq_iff_iff.mpr ?_
      rw [decB_true, List.all_eq_true, List.length_map, lus]
      constructor
      · intro z i hi
        exact of_decide_eq_true (z _ (List.mem_map.mpr ⟨i, List.mem_range.mpr hi, rfl⟩))
      · intro z v hv
        obtain ⟨i, hi, rfl⟩ := List.mem_map.mp hv
        exact decide_eq_true (z i (List.mem_range.mp hi))
    show if (!(((List.range (us.map V.ref).length).map fun k => decide (kf k = cnt + 1)).all id)) = true then _ else _
    rw [ek]
    by_cases hk : ∀ i, i < m → kf i = cnt + 1
    rotate_left
    · rw [show decB (∀ i, i < m → kf i = cnt + 1) = false from Bool.eq_false_iff.mpr fun z => hk (decB_true.mp z)]
      exact iteT (no s2 fun z => hk z.2)
    rw [decB_true.mpr hk]
    refine iteF ?_
    clear h2 hD2 ek el
    have R2 := R0.same s2
    refine ⟨_, rfl, r, rfl, ⟨_, SqL.of R2.at_⟩, fun D hD => ?_⟩
    refine it_any (walk_list (K := K) (a := r) (xs := us.map V.ref)) (fun i H3 => ∃ bs : List Bool, H3 D = some (.lst (bs.map V.bl)) ∧ bs.length ≤ 60 * i ∧ bs.all id = true ∧ Same H2 H3) ⟨[], upd_same, by simp, rfl, same_upd hD⟩ (fun i H3 _ ⟨_, _, _, _, s3⟩ => SqL.of (s3 _ _ R2.at_)) ?_ ?_
    · rintro i y _ H3 hi ⟨bs, hb, lb, ab, s3⟩ ⟨rfl, hy⟩
      obtain ⟨u, hu, rfl⟩ := get_mapV hy
      have il : i < m := by
        have := (List.getElem?_eq_some_iff.mp hu).1
        omega
      obtain ⟨vs, hvs, lvs, rvs⟩ := (R2.row i u hu).ex
      have k60 := R2.small i il
      refine ⟨rfl, yesT ?_⟩
      refine ⟨_, rfl, u, rfl, ⟨_, SqL.of (s3 _ _ hvs)⟩, ?_⟩
      refine it_any (walk_list (K := K) (a := u) (xs := vs.map V.ref)) (fun t H4 => ∃ cs : List Bool, H4 D = some (.lst (cs.map V.bl)) ∧ cs.length ≤ 60 * i + t ∧ cs.all id = true ∧ Same H2 H4) ⟨bs, hb, by omega, ab, s3⟩ (fun t H4 _ ⟨_, _, _, _, s4⟩ => SqL.of (s4 _ _ hvs)) ?_ ?_
      · rintro t z _ H4 ht ⟨cs, hc, lc, ac, s4⟩ ⟨rfl, hz⟩
        obtain ⟨v, hv, rfl⟩ := get_mapV hz
        have vl := (List.getElem?_eq_some_iff.mp hv).1
        refine ⟨rfl, yesT ?_⟩
        refine ⟨_, rfl, _, rfl, c, x, v, n, E, Z i t, rfl, B.same (s2.trans s4), s4 _ _ (rvs t v hv), fun H5 s5 => ?_⟩
        refine ⟨_, s5 _ _ hc, ?_, cs ++ [true], ?_, by simp; omega, ?_, same_mut (s4.trans s5) hD⟩
        · rw [List.length_map]
          exact Nat.lt_of_le_of_lt (show cs.length ≤ 3700 by omega) (by decide)
        · rw [upd_same, List.map_append]
          rfl
        · rw [all_snocV]
          exact ⟨ac, rfl⟩
      · rintro H4 ⟨cs, hc, lc, ac, s4⟩
        rw [List.length_map, lvs] at lc
        exact ⟨cs, hc, by omega, ac, s4⟩
    · rintro H3 ⟨bs, hb, lb, ab, s3⟩
      refine ⟨D, bs, rfl, SqL.of hb, ?_⟩
      have := h _ (s2.trans s3)
      rw [decB_true.mpr ⟨hm, hk⟩] at this
      rw [ab]
      exact this
end
end RL
/-! A table of rows of any lengths is right or not, by the law. -/
namespace RL
open PySem PySem.Spec PyProof.Rows L2 RLM
/-- a table: as many rows, as long as they must be, and right -/
def TabAll (n l cnt m : Nat) (kf : Nat → Nat) (p : Nat → Prop) (R : Nat → Nat → Nat → Prop) (c : Nat → Nat → Nat) (Z : Nat → Nat → Nat → Prop) : Prop := m = l + 1 ∧ (∀ i, i < m → kf i = cnt + 1) ∧ TabOk n l cnt p R c Z
/-- one step of it -/
def NextOk (n cnt : Nat) (R : Nat → Nat → Nat → Prop) (c : Nat → Nat → Nat) (Z : Nat → Nat → Nat → Prop) (i l : Nat) : Prop := ∀ a b, a < n → b < n → Z i l a → R i a b → ∀ k, l + c (i + 1) b ≤ k → k < cnt + 1 → Z (i + 1) k b
section
variable {P : Program} {w : World} {K : PySem.W.Frag} {mg : Str → Option Value} {base : Heap}
def spTabRightV (K : PySem.W.Frag) : Sp := fun vs H Q _ => ∃ (c D s r : Addr) (n cnt m : Nat) (rs us : List Addr) (M : Nat → Nat → Nat) (E : List (Nat × Nat)) (p : Nat → Prop) (PS : List (Addr × List Nat)) (SN : List (Addr × V × Triple)) (kf : Nat → Nat) (Z : Nat → Nat → Nat → Prop), vs = [.ref D, .ref s, vI cnt, .ref r] ∧ n ≤ 8 ∧ cnt ≤ 24 ∧ TabAt c H D n rs M ∧ Spans n E M ∧ StoryAt n H s p PS SN ∧ RowsV n H r us m kf Z ∧ m ≤ 60 ∧
  ∀ H', Same H H' → Q (.bl (decB (TabAll n PS.length cnt m kf p (stepR E PS) (missC M SN) Z))) H'
theorem ok_tabRightV (T : Tx K mg) : Has P w K mg base (He.ga K "_law_table_right") 3 ["_law_spans_here", "_law_story_here", "_law_count", "_law_rows"] (spTabRightV K) := by
  obtain ⟨⟨fd_law_counts, F_law_counts, b_law_counts⟩, kp_law_counts⟩ := ok_lcounts (P := P) (w := w) (base := base) T
  obtain ⟨⟨fd_law_in_from, F_law_in_from, b_law_in_from⟩, kp_law_in_from⟩ := ok_inFrom (P := P) (w := w) (base := base) T
  obtain ⟨⟨fd_law_reached, F_law_reached, b_law_reached⟩, kp_law_reached⟩ := ok_reached (P := P) (w := w) (base := base) T
  obtain ⟨fd, F⟩ := T.d__law_table_right
  refine ⟨⟨fd, F.ok sc__law_table_right (fun vs H Q E h => ?_) (fun cdv A outer s H vs Q E hr h => ?_), F.bindsN fun _ _ _ _ _ _ us hl => match us, hl with | [_, _, _, _], _ => rfl⟩, F.kp⟩
  · obtain ⟨c, D, s, r, n, cnt, m, rs, us, M, E, p, PS, SN, kf, Z, rfl, _⟩ := h
    rfl
  · obtain ⟨c, D, sa, r, n, cnt, m, rs, us, M, E, p, PS, SN, kf, Z, rfl, n8, c24, TA, S, SA, R0, m60, h⟩ := h
    have hr_law_counts : Room 2 _ := hr.mono (by decide)
    have hr_law_in_from : Room 1 _ := hr.mono (by decide)
    have hr_law_reached : Room 1 _ := hr.mono (by decide)
    refine ⟨_, PSs.nox (pss_cons (ps_set (i := 4) sc__law_table_right.nd rfl (Or.inr rfl) (pe_call F_law_counts hr_law_counts rfl T.glo_law_counts kp_law_counts b_law_counts .nil pass0 (pa_cons (pv 0) (pa_cons (pv 1) pa_nil))))
      (pss_cons (ps_if (PW.pt (pw_or (pt_cmpR op_ne (pe_callB (lenK (K := K)) (by rfl) T.free_len (by decide +kernel) (pa_cons (pv 3) pa_nil)) (pe_callB (lenK (K := K)) (by rfl) T.free_len (by decide +kernel) (pa_cons (pv 4) pa_nil)) (nomark _)) (pw_or1 (pt_not (pt_val (pe_callB (allK (K := K)) (by rfl) T.free_all (by decide +kernel) (pa_cons (pe_lc (own := [("_law_row", 8)]) (g := (gName 8)) (tt := tYes) rfl sc__law_table_right.nd (piL (K := K) (pv 3)) (blkOk_by (by kernel_rfl)) (fun _ _ _ _ _ => (pg_name (i := 8) sc__law_table_right.nd rfl (Or.inl rfl))) (fun _ _ _ _ _ => pts_nil) (fun _ _ _ _ _ => (pe_cmpR op_eq (pe_callB (lenK (K := K)) (by rfl) T.free_len (by decide +kernel) (pa_cons (pv 8) pa_nil)) (pe_op op_add (pv 2) pe_int) (nomark _)))) pa_nil))))))) (pss_one (ps_ret pe_bl)) pss_nil)
      (pss_cons (ps_if (pt_not (pt_val (pe_callB (allK (K := K)) (by rfl) T.free_all (by decide +kernel) (pa_cons (pe_lc (own := [("_law_place", 9)]) (g := (gName 9)) (tt := tYes) rfl sc__law_table_right.nd (piT (K := K) (pe_ix (ixT (K := K)) (pv 1) pe_int (fun _ _ => rfl))) (blkOk_by (by kernel_rfl)) (fun _ _ _ _ _ => (pg_name (i := 9) sc__law_table_right.nd rfl (Or.inl rfl))) (fun _ _ _ _ _ => pts_nil) (fun _ _ _ _ _ => (pe_call F_law_in_from hr_law_in_from rfl T.glo_law_in_from kp_law_in_from b_law_in_from .nil pass0 (pa_cons (pe_ix (ixL (K := K)) (pv 3) pe_int (fun _ _ => rfl)) (pa_cons (pe_ix (ixL (K := K)) (pe_ix (ixL (K := K)) (pv 4) pe_int (fun _ _ => rfl)) (pv 9) (fun _ _ => rfl)) (pa_cons (pv 9) pa_nil)))))) pa_nil)))) (pss_one (ps_ret pe_bl)) pss_nil)
      (pss_cons (ps_for PassesOwn.never rfl (pi_range1 (by rfl) T.free_range (pa_cons (pe_callB (lenK (K := K)) (by rfl) T.free_len (by decide +kernel) (pa_cons (pe_ix (ixT (K := K)) (pv 1) pe_int (fun _ _ => rfl)) pa_nil)) pa_nil)) (pg_name (i := 5) sc__law_table_right.nd rfl (Or.inl rfl)) (pss_one (ps_for PassesOwn.never rfl (pi_range1 (by rfl) T.free_range (pa_cons (pe_op op_add (pv 2) pe_int) pa_nil)) (pg_name (i := 6) sc__law_table_right.nd rfl (Or.inl rfl)) (pss_one (ps_for PassesOwn.never rfl (piT (K := K) (pe_call F_law_reached hr_law_reached rfl T.glo_law_reached kp_law_reached b_law_reached .nil pass0 (pa_cons (pv 0) (pa_cons (pe_ix (ixT (K := K)) (pe_ix (ixT (K := K)) (pv 1) pe_int (fun _ _ => rfl)) (pv 5) (fun _ _ => rfl)) (pa_cons (pe_ix (ixL (K := K)) (pe_ix (ixL (K := K)) (pv 3) (pv 5) (fun _ _ => rfl)) (pv 6) (fun _ _ => rfl)) pa_nil))))) (pg_name (i := 7) sc__law_table_right.nd rfl (Or.inl rfl)) (pss_one (ps_if (pt_not (pt_val (pe_call F_law_in_from hr_law_in_from rfl T.glo_law_in_from kp_law_in_from b_law_in_from .nil pass0 (pa_cons (pe_ix (ixL (K := K)) (pv 3) (pe_op op_add (pv 5) pe_int) (fun _ _ => rfl)) (pa_cons (pe_op op_add (pv 6) (pe_ix (ixL (K := K)) (pe_ix (ixL (K := K)) (pv 4) (pe_op op_add (pv 5) pe_int) (fun _ _ => rfl)) (pv 7) (fun _ _ => rfl))) (pa_cons (pv 7) pa_nil)))))) (pss_one (ps_ret pe_bl)) pss_nil)))))))
      (pss_one (ps_ret (pe_callB (allK (K := K)) (by rfl) T.free_all (by decide +kernel) (pa_cons (pe_lc (own := [("_law_lot_here", 10)]) (g := (gName 10)) (tt := tYes) rfl sc__law_table_right.nd (piL (K := K) (pe_ix (ixL (K := K)) (pv 3) (pe_un un_neg pe_int) (fun _ _ => rfl))) (blkOk_by (by kernel_rfl)) (fun _ _ _ _ _ => (pg_name (i := 10) sc__law_table_right.nd rfl (Or.inl rfl))) (fun _ _ _ _ _ => pts_nil) (fun _ _ _ _ _ => (pe_cmpR (eqD (K := K) hr.units) (pv 10) (pe_tup pa_nil) (nomark _)))) pa_nil)))))))), ?_⟩
    have lp := SA.lp
    obtain ⟨TO, eTO⟩ : ∃ TO : Prop, TO = TabAll n PS.length cnt m kf p (stepR E PS) (missC M SN) Z := ⟨_, rfl⟩
    have no : ∀ {H'}, Same H H' → ¬ TO → Q (.bl false) H' := fun s k => by
      have := h _ s
      rw [← eTO, show decB TO = false from Bool.eq_false_iff.mpr fun z => k (decB_true.mp z)] at this
      exact this
    refine ⟨_, rfl, _, rfl, c, D, sa, n, rs, M, p, PS, SN, rfl, n8, TA, SA, fun H1 lm CA _ s1 => ?_⟩
    obtain ⟨tl, tp, ts, hs, htl, htp, hts⟩ := (SA.same s1).ex
    obtain ⟨ms, hms, lms, rms⟩ := CA.ex
    have R1 := R0.same s1
    have lus := R1.len
    refine ⟨_, rfl, r, _, rfl, .inl (SqL.of R1.at_), _, rfl, lm, _, rfl, .inl (SqL.of hms), rfl, _, rfl, ?_⟩
    have el : (!decide (V.int (((us.map V.ref).length : Nat) : Int) = V.int (((ms.map V.ref).length : Nat) : Int))) = !decide (m = PS.length + 1) := by
      rw [List.length_map, List.length_map, lus, lms]
      congr 1
      rw [decide_eq_decide]
      exact ⟨fun z => by have := V.int.inj z; omega, fun z => by rw [z]⟩
    show if (!decide (V.int (((us.map V.ref).length : Nat) : Int) = V.int (((ms.map V.ref).length : Nat) : Int))) = true then _ else _
    rw [el]
    by_cases hm : m = PS.length + 1
    rotate_left
    · rw [decide_eq_false hm]
      exact iteT (no s1 fun z => hm (by rw [eTO] at z; exact z.1))
    rw [decide_eq_true hm]
    refine iteF ?_
    -- each row has its lots
    refine ⟨_, rfl, r, rfl, ⟨_, SqL.of R1.at_⟩, fun D2 hD2 => ?_⟩
    refine lc_val (walk_list (K := K) (a := r) (xs := us.map V.ref)) (fun k => V.bl (decide (kf k = cnt + 1))) (by rw [List.length_map]; omega) hD2 (fun H2 s2 => SqL.of (s2 _ _ R1.at_)) ?_ ?_
    · rintro k y H2 H3 Nx hk s2 ⟨rfl, ey⟩ kk
      obtain ⟨u, hu, rfl⟩ := get_mapV ey
      obtain ⟨vs, hvs, lvs, _⟩ := ((R1.same s2).row k u hu).ex
      refine ⟨rfl, _, rfl, u, _, rfl, .inl (SqL.of hvs), _, rfl, _, _, rfl, rfl, rfl, ?_⟩
      have := kk _ fun _ _ e => e
      have ed : decide (V.int (((vs.map V.ref).length : Nat) : Int) = V.int (((cnt : Nat) : Int) + 1)) = decide (kf k = cnt + 1) := by
        rw [List.length_map, lvs, decide_eq_decide]
        exact ⟨fun z => by have := V.int.inj z; omega, fun z => by rw [z]; rfl⟩
      show Nx (V.bl (decide (V.int (((vs.map V.ref).length : Nat) : Int) = V.int (((cnt : Nat) : Int) + 1)))) H3
      rw [ed]
      exact this
    intro H2 h2 s2
    refine ⟨D2, (List.range (us.map V.ref).length).map fun k => decide (kf k = cnt + 1), rfl, SqL.of (by rw [h2, List.map_map]; rfl), _, rfl, ?_⟩
    have ek : ((List.range (us.map V.ref).length).map fun k => decide (kf k = cnt + 1)).all id = decB (∀ i, i < m → kf i = cnt + 1) := by
      refine Bool.eq_iff_iff.mpr ?_
      rw [decB_true, List.all_eq_true, List.length_map, lus]
      constructor
      · intro z i hi
        exact of_decide_eq_true (z _ (List.mem_map.mpr ⟨i, List.mem_range.mpr hi, rfl⟩))
      · intro z v hv
        obtain ⟨i, hi, rfl⟩ := List.mem_map.mp hv
        exact decide_eq_true (z i (List.mem_range.mp hi))
    show if (!(((List.range (us.map V.ref).length).map fun k => decide (kf k = cnt + 1)).all id)) = true then _ else _
    rw [ek]
    have s12 := s1.trans s2
    by_cases hk : ∀ i, i < m → kf i = cnt + 1
    rotate_left
    · rw [show decB (∀ i, i < m → kf i = cnt + 1) = false from Bool.eq_false_iff.mpr fun z => hk (decB_true.mp z)]
      exact iteT (no s12 fun z => hk (by rw [eTO] at z; exact z.2.1))
    rw [decB_true.mpr hk]
    refine iteF ?_
    clear h2 hD2 ek el
    have R2 := R1.same s2
    have hu0 : us[0]? = some (us[0]'(by omega)) := List.getElem?_eq_getElem _
    generalize us[0]'(by omega) = u0 at hu0
    have hm0 : ms[0]? = some (ms[0]'(by omega)) := List.getElem?_eq_getElem _
    generalize ms[0]'(by omega) = m0 at hm0
    have kf0 := hk 0 (by omega)
    -- the beginning
    refine ⟨_, rfl, sa, _, 0, _, rfl, rfl, SqT.of (s2 _ _ hs), rfl, tl, rfl, ⟨_, SqT.of (s2 _ _ htl)⟩, fun D3 hD3 => ?_⟩
    have ll := lotP_len n p
    refine lc_val (walk_tup (K := K) (a := tl) (xs := (lotP n p).map vI)) (fun k => V.bl (decB (∀ k', missC M SN 0 ((lotP n p).getD k 0) ≤ k' → k' < cnt + 1 → Z 0 k' ((lotP n p).getD k 0)))) (by rw [List.length_map]; omega) hD3 (fun H3 s3 => SqT.of (s3 _ _ (s2 _ _ htl))) ?_ ?_
    · rintro k y H3 H4 Nx hk3 s3 ⟨rfl, ey⟩ kk
      obtain ⟨b, hb, rfl⟩ := get_vI ey
      have bm := mem_lotP.mp (List.mem_of_getElem? hb)
      have s23 := s2.trans s3
      have eb : (lotP n p).getD k 0 = b := by rw [List.getD_eq_getElem?_getD, hb]; rfl
      rw [eb] at kk
      refine ⟨rfl, _, rfl, r, _, 0, _, rfl, rfl, SqL.of (s23 _ _ R1.at_), atI_nat (j := 0) (get_map hu0), _, rfl, lm, _, 0, _, rfl, rfl, SqL.of (s23 _ _ hms), atI_nat (j := 0) (get_map hm0), _, rfl, m0, _, _, _, rfl, rfl, SqL.of (s23 _ _ (rms 0 m0 hm0)), atI_nat (row_get bm.1), _, rfl, u0, n, kf 0, _, b, Z 0, rfl, (R1.same s23).row 0 u0 hu0, by omega, bm.1, fun H5 s5 => ?_⟩
      have := kk _ s5
      rw [← kf0] at this
      exact this
    intro H3 h3 s3
    refine ⟨D3, (List.range ((lotP n p).map vI).length).map fun k => decB (∀ k', missC M SN 0 ((lotP n p).getD k 0) ≤ k' → k' < cnt + 1 → Z 0 k' ((lotP n p).getD k 0)), rfl, SqL.of (by rw [h3, List.map_map]; rfl), _, rfl, ?_⟩
    have e1 : ((List.range ((lotP n p).map vI).length).map fun k => decB (∀ k', missC M SN 0 ((lotP n p).getD k 0) ≤ k' → k' < cnt + 1 → Z 0 k' ((lotP n p).getD k 0))).all id = decB (∀ b, b < n → p b → ∀ k, missC M SN 0 b ≤ k → k < cnt + 1 → Z 0 k b) := by
      refine Bool.eq_iff_iff.mpr ?_
      rw [decB_true, List.all_eq_true, List.length_map]
      constructor
      · intro z b bn pb
        obtain ⟨j, hj⟩ := List.mem_iff_getElem?.mp (mem_lotP.mpr ⟨bn, pb⟩)
        have := decB_true.mp (z _ (List.mem_map.mpr ⟨j, List.mem_range.mpr (List.getElem?_eq_some_iff.mp hj).1, rfl⟩))
        rw [show (lotP n p).getD j 0 = b by rw [List.getD_eq_getElem?_getD, hj]; rfl] at this
        exact this
      · intro z v hv
        obtain ⟨j, hj, rfl⟩ := List.mem_map.mp hv
        have hj := List.mem_range.mp hj
        have bm := mem_lotP.mp (List.getElem_mem hj)
        refine decB_true.mpr ?_
        rw [show (lotP n p).getD j 0 = (lotP n p)[j] by rw [List.getD_eq_getElem?_getD, List.getElem?_eq_getElem hj]; rfl]
        exact z _ bm.1 bm.2
    show if (!(((List.range ((lotP n p).map vI).length).map fun k => decB (∀ k', missC M SN 0 ((lotP n p).getD k 0) ≤ k' → k' < cnt + 1 → Z 0 k' ((lotP n p).getD k 0))).all id)) = true then _ else _
    rw [e1]
    have s13 := s2.trans s3
    have s03 := s1.trans s13
    by_cases hf : ∀ b, b < n → p b → ∀ k, missC M SN 0 b ≤ k → k < cnt + 1 → Z 0 k b
    rotate_left
    · rw [show decB (∀ b, b < n → p b → ∀ k, missC M SN 0 b ≤ k → k < cnt + 1 → Z 0 k b) = false from Bool.eq_false_iff.mpr fun z => hf (decB_true.mp z)]
      exact iteT (no s03 fun z => hf (by rw [eTO] at z; exact z.2.2.first))
    rw [decB_true.mpr hf]
    refine iteF ?_
    clear h3 hD3 e1
    -- step by step
    refine ⟨_, rfl, sa, _, 1, _, rfl, rfl, SqT.of (s13 _ _ hs), rfl, tp, _, rfl, .inr (SqT.of (s13 _ _ htp)), _, rfl, ?_⟩
    rw [List.length_map]
    refine ⟨by omega, by omega, for_range (lo := 0) (n := ((PS.length : Nat) : Int).toNat) (fun i σ H4 => (∃ v5 v6 v7 : Option V, σ = [some (.ref D), some (.ref sa), some (vI cnt), some (.ref r), some (.ref lm), v5, v6, v7, none, none, none]) ∧ Same H1 H4 ∧ ∀ j l, j < i → l < cnt + 1 → NextOk n cnt (stepR E PS) (missC M SN) Z j l)
      ⟨⟨none, none, none, rfl⟩, s13, fun j l hj => absurd hj (Nat.not_lt_zero _)⟩ ?_ ?_⟩
    · rintro i σ H4 hi ⟨⟨v5, v6, v7, rfl⟩, s4, sofar⟩
      have hi : i < PS.length := by omega
      have hq : PS[i]? = some PS[i] := List.getElem?_eq_getElem hi
      generalize PS[i] = q at hq
      have PQ := (SA.same s1).pc q (List.mem_of_getElem? hq)
      have hui : us[i]? = some (us[i]'(by omega)) := List.getElem?_eq_getElem _
      generalize us[i]'(by omega) = ui at hui
      have huj : us[i + 1]? = some (us[i + 1]'(by omega)) := List.getElem?_eq_getElem _
      generalize us[i + 1]'(by omega) = uj at huj
      have hmj : ms[i + 1]? = some (ms[i + 1]'(by omega)) := List.getElem?_eq_getElem _
      generalize ms[i + 1]'(by omega) = mj at hmj
      have kfi := hk i (by omega)
      have kfj := hk (i + 1) (by omega)
      refine ⟨_, rfl, _, _, rfl, rfl, _, rfl, by omega, by omega, for_range (lo := 0) (n := (((cnt : Nat) : Int) + 1).toNat) (fun l σ H5 => (∃ v6 v7 : Option V, σ = [some (.ref D), some (.ref sa), some (vI cnt), some (.ref r), some (.ref lm), some (.int (0 + (i : Nat))), v6, v7, none, none, none]) ∧ Same H1 H5 ∧ ∀ l', l' < l → l' < cnt + 1 → NextOk n cnt (stepR E PS) (missC M SN) Z i l')
        ⟨⟨_, _, rfl⟩, s4, fun l' hl => absurd hl (Nat.not_lt_zero _)⟩ ?_ ?_⟩
      · rintro l σ H5 hl ⟨⟨w6, w7, rfl⟩, s5, sof5⟩
        have hl : l < cnt + 1 := by omega
        obtain ⟨vs, hvs, lvs, rvs⟩ := ((R1.same s5).row i ui hui).ex
        have hvl : vs[l]? = some (vs[l]'(by omega)) := List.getElem?_eq_getElem _
        generalize vs[l]'(by omega) = vl at hvl
        refine ⟨_, rfl, _, rfl, sa, _, 1, _, rfl, rfl, SqT.of (s5 _ _ hs), rfl, _, rfl, tp, _, _, _, rfl, rfl, SqT.of (s5 _ _ htp), at0 (get_map hq), _, rfl, _, rfl, r, _, _, _, rfl, rfl, SqL.of (s5 _ _ R1.at_), at0 (get_map hui), _, rfl, ui, _, _, _, rfl, rfl, SqL.of hvs, at0 (get_map hvl), ?_⟩
        have s05 := s1.trans s5
        refine ⟨c, D, q.1, vl, rs, M, n, E, q.2, Z i l, rfl, TA.same s05, S, n8, s5 _ _ PQ.1, PQ.2, rvs l vl hvl, fun H6 t6 h6 s6 => ?_⟩
        have s16 := s5.trans s6
        refine ⟨t6, rfl, ⟨_, SqT.of h6⟩, for_tup (K := K) (a := t6) (xs := (lotP n (stepP n E q.2 (Z i l))).map vI) (fun j σ H7 => (∃ v7 : Option V, σ = [some (.ref D), some (.ref sa), some (vI cnt), some (.ref r), some (.ref lm), some (.int (0 + (i : Nat))), some (.int (0 + (l : Nat))), v7, none, none, none]) ∧ Same H6 H7 ∧ ∀ b ∈ (lotP n (stepP n E q.2 (Z i l))).take j, ∀ k, l + missC M SN (i + 1) b ≤ k → k < cnt + 1 → Z (i + 1) k b)
          ⟨⟨_, rfl⟩, fun _ _ e => e, fun b hb => by simp at hb⟩ (fun j σ H7 _ z => SqT.of (z.2.1 _ _ h6)) ?_ ?_⟩
        · rintro j y σ H7 hy ⟨⟨w7', rfl⟩, s7, sof7⟩
          obtain ⟨b, hb, rfl⟩ := get_vI hy
          have bm := mem_lotP.mp (List.mem_of_getElem? hb)
          obtain ⟨a, an, z1, z2⟩ := bm.2
          have s17 := s16.trans s7
          refine ⟨_, rfl, _, rfl, _, _, rfl, rfl, r, _, _, _, rfl, rfl, SqL.of (s17 _ _ R1.at_), at1 (get_map huj), ?_⟩
          refine ⟨_, rfl, _, rfl, _, rfl, _, _, rfl, rfl, lm, _, _, _, rfl, rfl, SqL.of (s17 _ _ hms), at1 (get_map hmj), _, rfl, mj, _, _, _, rfl, rfl, SqL.of (s17 _ _ (rms (i + 1) mj hmj)), atI_nat (row_get bm.1), _, _, rfl, rfl, _, rfl, uj, n, kf (i + 1), l + missC M SN (i + 1) b, b, Z (i + 1), ?_, (R1.same s17).row (i + 1) uj huj, by omega, bm.1, fun H8 s8 => ?_⟩
          · rw [Int.zero_add]
            rfl
          refine ⟨_, rfl, ?_⟩
          rw [kfj]
          by_cases good : ∀ k, l + missC M SN (i + 1) b ≤ k → k < cnt + 1 → Z (i + 1) k b
          · rw [decB_true.mpr good]
            refine iteF ⟨⟨_, rfl⟩, s7.trans s8, fun b' hb' => ?_⟩
            rw [List.take_add_one, hb] at hb'
            rcases List.mem_append.mp hb' with e | e
            · exact sof7 b' e
            · have : b' = b := by simpa using e
              rw [this]
              exact good
          · rw [show decB (∀ k, l + missC M SN (i + 1) b ≤ k → k < cnt + 1 → Z (i + 1) k b) = false from Bool.eq_false_iff.mpr fun z => good (decB_true.mp z)]
            exact iteT (no (s1.trans (s17.trans s8)) fun z => good (by rw [eTO] at z; exact z.2.2.next i hi l hl a b an bm.1 z1 ⟨q, hq, z2⟩))
        · rintro σ H7 ⟨⟨w7', rfl⟩, s7, sof7⟩
          rw [List.length_map, List.take_length] at sof7
          refine ⟨⟨_, _, rfl⟩, s16.trans s7, fun l' h1 h2 => ?_⟩
          rcases Nat.lt_or_ge l' l with z | z
          · exact sof5 l' z h2
          · have : l' = l := by omega
            subst this
            rintro a b an bn z1 ⟨q', hq', z2⟩
            rw [hq] at hq'
            cases hq'
            exact sof7 b (mem_lotP.mpr ⟨bn, a, an, z1, z2⟩)
      · rintro σ H5 ⟨⟨w6, w7, rfl⟩, s5, sof5⟩
        refine ⟨⟨_, _, _, rfl⟩, s5, fun j l hj hl => ?_⟩
        rcases Nat.lt_or_ge j i with z | z
        · exact sofar j l z hl
        · have : j = i := by omega
          subst this
          exact sof5 l (by omega) hl
    · rintro σ H4 ⟨⟨v5, v6, v7, rfl⟩, s4, sofar⟩
      -- the end
      have hul : us[PS.length]? = some (us[PS.length]'(by omega)) := List.getElem?_eq_getElem _
      generalize us[PS.length]'(by omega) = ul at hul
      have lastU : atI (us.map V.ref) (-1) = some (V.ref ul) := by
        have e : us = us.take PS.length ++ [ul] := by
          have e := List.take_append_drop PS.length us
          rw [List.drop_eq_getElem_cons (by omega), List.drop_of_length_le (by omega)] at e
          have e2 : us[PS.length]'(by omega) = ul := by
            rw [List.getElem?_eq_getElem (by omega)] at hul
            exact Option.some.inj hul
          rw [e2] at e
          exact e.symm
        rw [e, List.map_append]
        exact atI_last _ _
      obtain ⟨vs, hvs, lvs, rvs⟩ := ((R1.same s4).row _ ul hul).ex
      have kfl := hk PS.length (by omega)
      refine ⟨_, rfl, 1, rfl, r, _, _, _, rfl, rfl, SqL.of (s4 _ _ R1.at_), lastU, ul, rfl, ⟨_, SqL.of hvs⟩, fun D5 hD5 => ?_⟩
      refine lc_val (walk_list (K := K) (a := ul) (xs := vs.map V.ref)) (fun k => V.bl (decide (lotP n (Z PS.length k) = []))) (by rw [List.length_map]; omega) hD5 (fun H5 s5 => SqL.of (s5 _ _ hvs)) ?_ ?_
      · rintro k y H5 H6 Nx hk5 s5 ⟨rfl, ey⟩ kk
        obtain ⟨v, hv, rfl⟩ := get_mapV ey
        rw [List.length_map] at hk5
        have hv5 := s5 _ _ (rvs k v hv)
        have ee : PyData.eqv (lotD ((lotP n (Z PS.length k)).map nI)) (lotD []) = decide (lotP n (Z PS.length k) = []) := by
          unfold lotD
          rw [PyData.eqv]
          refine (PySem.W.ked_eqvAll _ []).trans ?_
          rw [decide_eq_decide]
          exact List.map_eq_nil_iff
        refine ⟨rfl, _, rfl, Nat.zero_le _, fun o ho => ?_⟩
        have s6 := same_upd (o := HO.tup []) ho
        refine ⟨_, _, dp_lot (xs := lotP n (Z PS.length k)) (s6 _ _ hv5), dp_lot (xs := []) upd_same, shaped_tup _, shaped_tup _, ?_⟩
        have := kk _ s6
        rw [← ee] at this
        exact this
      · intro H5 h5 s5
        refine ⟨D5, (List.range (vs.map V.ref).length).map fun k => decide (lotP n (Z PS.length k) = []), rfl, SqL.of (by rw [h5, List.map_map]; rfl), ?_⟩
        have := h _ ((s1.trans s4).trans s5)
        rw [← eTO, show decB TO = ((List.range (vs.map V.ref).length).map fun k => decide (lotP n (Z PS.length k) = [])).all id from Bool.eq_iff_iff.mpr ?_] at this
        · exact this
        rw [decB_true, List.all_eq_true, List.length_map, lvs, kfl, eTO]
        constructor
        · rintro ⟨_, _, ok⟩ v hv
          obtain ⟨k, hk1, rfl⟩ := List.mem_map.mp hv
          refine decide_eq_true (List.eq_nil_iff_forall_not_mem.mpr fun b hb => ?_)
          have hb := mem_lotP.mp hb
          exact ok.last k (List.mem_range.mp hk1) b hb.1 hb.2
        · intro z
          refine ⟨hm, hk, hf, fun i hi l hl a b an bn z1 z2 => sofar i l (by omega) hl a b an bn z1 z2, fun k hk1 b bn zb => ?_⟩
          have := of_decide_eq_true (z _ (List.mem_map.mpr ⟨k, List.mem_range.mpr hk1, rfl⟩))
          have hm' := mem_lotP.mpr ⟨bn, zb⟩
          rw [this] at hm'
          cases hm'
end
end RL
/-! (x, ..) * k of a tuple, whichever it is. -/
namespace RL
open PySem PySem.Spec PyProof.Rows L2
section
variable {X : Cx}
def rRepS : R2 := fun x y H Q => ∃ (l : Addr) (k : Int) (xs : List V), x = .ref l ∧ y = .int k ∧ H l = some (.tup xs) ∧ xs ≠ [] ∧ 1 ≤ k ∧ k ≤ 1000 ∧ xs.length ≤ 1000 ∧ ∀ q H', H' q = some (.tup (List.replicate k.toNat xs).flatten) → Same H H' → Q (.ref q) H'
theorem repTS : OpR X (binaryOp .Mult) rRepS := by
  intro pins s σ H x y v u Q I rx ry h
  obtain ⟨l, k, xs, rfl, rfl, hl, ne, k1, k2, lx, q⟩ := h
  refine op_repT1 pins s σ H (.ref l) (.int k) v u Q I rx ry ⟨l, k, xs, rfl, rfl, SqT.of hl, ne, k1, k2, lx, fun e => q l H ?_ fun _ _ e => e, fun p hp => q p _ upd_same (same_new hp)⟩
  subst e
  rw [hl]
  simp
end
end RL
/-! (x, ..) * k of a tuple, k nought too. -/
namespace RL
open PySem PySem.Spec PyProof.Rows L2
theorem tuple_mul0 (l : Addr) (items : Array Value) (n : Nat) (dd : Option Addr) (sl : Array (Option Value)) (u : Tok) (c : items.isEmpty = false) :
    Meets (Builtin.«tuple.__mul__» ⟨[.ref l, .int 0 u], []⟩) (fun _ R s => s.heap.get? l = some { cls := .type "tuple", dict := dd, data := .seq items n, slots := sl } ∧
      R (.ok (.ret (Value.ref s.heap.objs.size))) { s with heap := s.heap.push { cls := Value.type "tuple", data := Data.seq #[] }, toks := s.toks }) :=
  .of_wp fun prog w A R s h => by
    obtain ⟨hp, g, d, tk, os⟩ := s
    obtain ⟨hl, h⟩ := h
    have f1 := AutoSeq1.idx_int
    have c1 : (items.isEmpty || (0 : Int) == 1) = false := by rw [c]; rfl
    have c2 : (decide ((0 : Int) ≤ 0) || items.isEmpty) = true := by simp
    wp_walk using wpAny_loadPart' hl
    repeat (first
      | (refine wpAny_ite_false (decide_eq_false (by rw [c1]; exact Bool.false_ne_true)) ?_; wp_walk using wpAny_loadPart' hl)
      | (refine wpAny_ite_true (decide_eq_true (by rw [c2])) ?_; wp_walk using wpAny_loadPart' hl))
    exact ⟨_, rfl, h⟩
section
variable {X : Cx}
def rRepS0 : R2 := fun x y H Q => ∃ (l : Addr) (k : Nat) (xs : List V), x = .ref l ∧ y = .int k ∧ H l = some (.tup xs) ∧ xs ≠ [] ∧ k ≤ 1000 ∧ xs.length ≤ 1000 ∧ ∀ q H', H' q = some (.tup (List.replicate k xs).flatten) → Same H H' → Q (.ref q) H'
theorem repTS0 : OpR X (binaryOp .Mult) rRepS0 := by
  intro pins s σ H x y v u Q I rx ry h
  obtain ⟨l, k, xs, rfl, rfl, hl, ne, k2, lx, q⟩ := h
  by_cases hk : k = 0
  · subst hk
    cases rx
    obtain ⟨t, rfl⟩ := ry
    obtain ⟨its, r, ⟨⟨cls, dd, data, sl⟩, ho, hc, n, hd⟩, hs⟩ := I.tuple (SqT.of hl)
    cases (show cls = _ from hc)
    cases (show data = _ from hd)
    have hn : its.toArray.isEmpty = false := by
      have hle : its.length = xs.length := r.length.symm
      cases its with
      | nil => exact absurd (List.eq_nil_of_length_eq_zero hle.symm) ne
      | cons a b => rfl
    refine wpAny_binaryOp_repeat_ref (T := "tuple") (U := "int") (by decide) ⟨_, ho, rfl⟩ (fun s' => typeIs_int s' 0 t) noFill_tuple_mul F.fills_int_mul F.slot_int_rmul repeat_tuple F.slot_int_index.lookup
      (call_meets F.slot_int_rmul (typeIs_int s 0 t) F.entry_int_rmul (F.args_int_rmul_2 _ _) (int_rmul_tuple 0 t l its.toArray n dd sl)
        ⟨ho, rfl, ⟨_, ho, rfl⟩, call_meets F.slot_tuple_mul ⟨_, ho, rfl⟩ F.entry_tuple_mul (F.args_tuple_mul_2 _ _) (tuple_mul0 l its.toArray n dd sl t hn) ⟨ho, ?_⟩⟩)
    refine ⟨.ref s.heap.objs.size, _, I.laid (t' := s.toks) (o := .tup []) (fun b ob q => Heap.get?_push_of_some _ q) (Nat.le_refl _) ?_, rfl, q _ _ upd_same (same_new (I.hok.fresh (Nat.le_refl _)))⟩
    exact ⟨Nat.zero_le _, _, .nil, IsTup.new _ _⟩
  · exact repTS pins s σ H (.ref l) (.int k) v u Q I rx ry ⟨l, k, xs, rfl, rfl, hl, ne, by omega, by omega, lx, fun p H' hp s' => q p H' (by rw [hp, Int.toNat_natCast]) s'⟩
end
end RL
/-! repr(x) of data: lists, tuples, numbers, texts, one within another. -/
namespace RL
open PySem PySem.Spec PyProof.Rows L2
section
variable {X : Cx} {K : PySem.W.Frag}
def rRepr (K : PySem.W.Frag) : List V → Hp → VK → Prop := fun xs H Q => ∃ (a : Addr) (d : PyData), xs = [.ref a] ∧ Dp K H (.ref a) d ∧ d.showable = true ∧ d.hasDict = false ∧ d.depth ≤ 60 ∧ d.shown.length ≤ sizeLine ∧ Q (.str d.shown) H
theorem reprK (hg : X.A.guards = some []) (hu : X.A.units + 64 < cLine) (h : X.K = K := by rfl) : CallR X (.builtin "repr") (rRepr K) := by
  subst h
  intro pins s σ H xs us Q I r h
  obtain ⟨a, d, rfl, dp, sh, nd, dd, sz, q⟩ := h
  rw [Vals.ref1 r]
  obtain ⟨as, rd⟩ := Dp.reads I d (.ref a) (.ref a) dp rfl
  exact PySem.repr_of_reads' rd sh (fun e => by rw [nd] at e; cases e) hg (by omega) (fun _ _ e => e) (fun h' u tk kp => ⟨.str _, H, I.kept (t' := tk) kp, ⟨_, rfl⟩, q⟩) sz
end
end RL
/-! The end of a law whose def shows data by repr: there it must be known that nothing is being shown around it (the caller's guards). -/
namespace RLG
open PySem PySem.Spec PyProof.Rows L2
section
variable {P : Program} {w : World} {K : PySem.W.Frag} {mg mb : Str → Option Value} {fa a : Addr} {s : Shared} {vs : List Value} {ns : List Int}
/-- what is asked of the law's def: its run at the caller's own place -/
def RunsTrue (P : Program) (w : World) (K : PySem.W.Frag) (mg : Str → Option Value) (fa a : Addr) (ns : List Int) (s : Shared) : Prop :=
  ∀ (base : Heap) (H : Hp), Env0 P w K mg base callerA [] s H → SqL K H a (ns.map V.int) →
    codeAny (model P w) callerA (.call (.ref fa) ⟨[.ref a], []⟩) (CR CX0 [] P w H s (fun v _ => v = .bl true) fun _ _ _ => False) s
/-- by a heap H in which at most the script is tracked -/
theorem runs_by {H : Hp} (hM : Mod K mg (hidT s.heap H)) (hok : HOk P w H s.heap) (hg : s.gens = #[]) (hO : Only H) (hS : SqL K H a (ns.map V.int)) (F : RunsTrue P w K mg fa a ns s) :
    codeAny (model P w) callerA (.call (.ref fa) ⟨[.ref a], []⟩) (fun r s' => r = .ok (.ret (.bool true)) ∧ OldK s.heap s'.heap ∧ s'.os = s.os ∧ AllBare s'.gens) s := by
  have e0 : Env0 P w K mg (hidT s.heap H) callerA [] s H := ⟨rfl, hM, fun _ _ e => of_hidT e, Nat.le_of_eq (hidT_size _ _), trivial, fun b hb => (by cases (show b ∈ ([] : List Addr) from hb)), hok, .of_eq hg⟩
  refine codeAny_mono (F _ H e0 hS) fun r s' h => ?_
  match r, h with
  | .error _, h => exact (show False from h).elim
  | .ok .next, h => exact (show False from h).elim
  | .ok .brk, h => exact (show False from h).elim
  | .ok .cont, h => exact (show False from h).elim
  | .ok (.ret u), h =>
    obtain ⟨v, H', os, bare, un, hok', rv, q⟩ := h
    cases (show v = .bl true from q)
    cases (show u = Value.bool true from rv)
    refine ⟨rfl, OldK.of_keep fun b o e => ?_, os, bare⟩
    rcases hO b with z | ⟨ob, xs, z⟩
    · exact un.keep b o e z (fun y => by cases (show b ∈ ([] : List Addr) from y)) (by simp)
    · have e1 := (hok b _ z).1
      rw [e] at e1
      cases e1
      exact (hok' b _ (un.frzs b _ _ z)).1
theorem law_callG (KX : K.In s.heap) (hns : s.heap.Ns mainGlobals mg) (hb : s.heap.Ns builtinsNs mb) (hbb : ∀ x : Str, x ≠ "__name__" → mb x = bootBuiltins x) (hlim : s.heap.NoLimit) (hg : s.gens = #[])
    (ha : s.heap.get? a = some { cls := .type "list", data := .seq vs.toArray }) (hi : IntsAre vs ns) (hl : ns.length ≤ sizeLine) (F : RunsTrue P w K mg fa a ns s) :
    codeAny (model P w) callerA (.call (.ref fa) ⟨[.ref a], []⟩) (fun r s' => r = .ok (.ret (.bool true)) ∧ OldK s.heap s'.heap ∧ s'.os = s.os ∧ AllBare s'.gens) s := by
  have rv := vals_ints hi
  have lv := hi.length
  -- what the module keeps stays in sight
  have mod_of : ∀ H : Hp, (∀ b, H b ≠ none → b = a ∧ K.lookup a = none) → Mod K mg (hidT s.heap H) := fun H only => by
    have no : ∀ {b : Addr} {o : Obj}, s.heap.get? b = some o → (b = a → K.lookup a ≠ none ∨ ∀ vs n, o.data ≠ .seq vs n) → (hidT s.heap H).get? b = some o := fun {b o} e h => by
      refine hidT_get e ?_
      cases q : H b with
      | none => rfl
      | some u =>
        obtain ⟨e1, e2⟩ := only b (by rw [q]; simp)
        rcases h e1 with z | z
        · exact absurd e2 z
        · subst e1
          rw [ha] at e
          cases e
          exact absurd rfl (z _ _)
    have ns' : ∀ {b : Addr} {m : Str → Option Value}, s.heap.Ns b m → (hidT s.heap H).Ns b m := fun ⟨o, es, ep, e, d, r⟩ => ⟨o, es, ep, no e (fun _ => .inr fun _ _ z => by rw [d] at z; cases z), d, r⟩
    refine ⟨fun b o e => no (KX b o e) fun eb => .inl fun z => ?_, ns' hns, ⟨mb, ns' hb, hbb⟩, ?_⟩
    · rw [← eb, e] at z
      cases z
    · obtain ⟨mc, h1, h2⟩ := hlim
      exact ⟨mc, ns' h1, h2⟩
  cases hk : K.lookup a with
  | some o =>
    have e := KX a o hk
    rw [ha] at e
    cases e
    have h0 : ∀ b, (fun _ => none : Hp) b ≠ none → b = a ∧ K.lookup a = none := fun b z => absurd rfl z
    exact runs_by (H := fun _ => none) (mod_of _ h0) (fun b u z => by cases (show (none : Option HO) = some u from z)) hg (fun _ => .inl rfl) (.inr ⟨_, vs.toArray, _, hk, rfl, rfl, rfl, by rw [List.size_toArray, lv]; exact hl, by simpa using rv⟩) F
  | none =>
    let H : Hp := fun b => if b = a then some (.frz { cls := .type "list", data := .seq vs.toArray } (.lst (ns.map V.int))) else none
    have at_ : H a = some (.frz { cls := .type "list", data := .seq vs.toArray } (.lst (ns.map V.int))) := if_pos rfl
    have off : ∀ b, b ≠ a → H b = none := fun b z => if_neg z
    have h0 : ∀ b, H b ≠ none → b = a ∧ K.lookup a = none := fun b z => ⟨Classical.byContradiction fun y => z (off b y), hk⟩
    refine runs_by (H := H) (mod_of H h0) (fun b u z => ?_) hg (fun b => ?_) (.inl (.inr ⟨_, at_⟩)) F
    · by_cases e : b = a
      · subst e
        rw [at_] at z
        cases z
        exact ⟨ha, by rw [List.length_map]; exact hl, vs, _, rv, ha⟩
      · rw [off b e] at z
        cases z
    · by_cases e : b = a
      · subst e
        exact .inr ⟨_, _, at_⟩
      · exact .inl (off b e)
/-- the end of the row -/
theorem walk_ofG {l : PySem.W.OpenLaw} {n : Nat} {q : Program} {loose : List Str} {XP : (Str → Option Value) → Heap → Prop} {YP : World → Heap → Prop} {d : DefRec} (hn : l.most = some n) (hn2 : n ≤ sizeLine) (hdf : d.params.defaults = [])
    (F : ∀ (w : World) (mg : Str → Option Value) (fa : Addr) (h : Heap), YP w h → h.Ns mainGlobals mg → mg d.name = some (.ref fa) →
      ∃ K : PySem.W.Frag, K.In h ∧ ∀ (a : Addr) (ns : List Int) (s : Shared), ns.length ≤ n → RunsTrue l.prog w K mg fa a ns s) :
    PySem.W.WalkO q loose XP YP l.row.toRowW d [] (fun f vs => PySem.call f vs) := by
  refine Att.attach_call hn hdf fun w s₀ s₁ mg mb fa o pm cd doc a vs ns G Y ho hd hcd hmg hobj hints hlen hg => ?_
  obtain ⟨K, KX, hF⟩ := F w mg fa _ Y G.T.g hmg
  exact law_callG KX G.T.g G.T.b G.T.builtins G.T.nolimit hg hobj hints (Nat.le_trans hlen hn2) (hF a ns s₁ hlen)
end
end RLG
namespace RLG
open PySem PySem.Spec PyProof.Rows L2
/-- by the body of its def -/
theorem runs_of {P : Program} {w : World} {K : PySem.W.Frag} {mg : Str → Option Value} {f a : Addr} {s : Shared} {ns : List Int} {N : List Str} {k : Nat} {x qual y : Str} {params : Arguments} {body : List Stmt} {scope : Scope} {dvs : List V} {kws : List (Str × V)} {fd : FuncData}
    (F : FunD K x qual params body scope dvs kws f fd) (S : FnScope N [y] scope) (hr : Room (k + 1) callerA) (hb : ∀ (s : Shared) (u : Value), BindsTo s fd ⟨[u], []⟩ [(y, u)])
    (hbody : ∀ (cdv : Value) (base : Heap) (H : Hp), Room k (callerA.deeper (envOfC qual scope s.heap.objs.size f cdv)) → SqL K H a (ns.map V.int) →
      ∃ t, PSs (cxOf CX0 P w K mg base N qual scope f cdv callerA [] s H fun _ _ _ => False) body t ∧ t { nx := fun _ _ => V.non = .bl true, rt := fun v _ => v = .bl true } (start N [.ref a]) H) : RunsTrue P w K mg f a ns s := by
  intro base H e0 hS
  obtain ⟨oc, od, dV, kV, doc, pm, an, cdv, ct, osl, rfl, lk, hcd, _, _⟩ := F.ex
  exact LamX.run_ofS (N := N) (ps := [y]) (us := [.ref a]) (vs := [.ref a]) lk hcd S hr e0 (hb s (.ref a)) (.cons rfl .nil) rfl fun hr' => hbody cdv base H hr' hS
end RLG
namespace RL
open PySem PySem.Spec PyProof.Rows L2 RLM
/-- two lists, two tuples of the same numbers are alike -/
theorem nums_sameL {H : Hp} {a b : Addr} {xs : List Nat} (l : xs.length ≤ 1000) (ha : H a = some (.lst (xs.map vI))) (hb : H b = some (.lst (xs.map vI))) : SameV 1 H (.ref a) (.ref b) := by
  refine .inr ⟨a, b, _, _, rfl, rfl, .inl ⟨.inl ha, .inl hb⟩, rfl, by rw [List.length_map]; exact l, fun j x y e1 e2 => ?_⟩
  rw [e1] at e2
  cases e2
  obtain ⟨z, _, rfl⟩ := get_mapV e1
  exact ⟨rfl, .inl ⟨_, rfl⟩⟩
theorem nums_sameT {H : Hp} {a b : Addr} {xs : List Nat} (l : xs.length ≤ 1000) (ha : H a = some (.tup (xs.map vI))) (hb : H b = some (.tup (xs.map vI))) : SameV 1 H (.ref a) (.ref b) := by
  refine .inr ⟨a, b, _, _, rfl, rfl, .inr ⟨.inl ha, .inl hb⟩, rfl, by rw [List.length_map]; exact l, fun j x y e1 e2 => ?_⟩
  rw [e1] at e2
  cases e2
  obtain ⟨z, _, rfl⟩ := get_mapV e1
  exact ⟨rfl, .inl ⟨_, rfl⟩⟩
end RL
namespace RL
open PySem PySem.Spec PyProof.Rows L2 RLM
theorem LookAt.tk {n : Nat} {H H' : Hp} {v : V} (k : TK H H') : ∀ {L : Look}, LookAt n H v L → LookAt n H' v L
  | .lot _, ⟨t, u, e, h1, h2⟩ => ⟨t, u, e, k _ _ h1, k _ _ h2⟩
  | .parts _, ⟨t, u, us, e, h1, h2, l, h3⟩ => ⟨t, u, us, e, k _ _ h1, k _ _ h2, l, fun i a p e1 e2 => k _ _ (h3 i a p e1 e2)⟩
  | .near _ _, ⟨t, e, h1⟩ => ⟨t, e, k _ _ h1⟩
theorem TripAt.tk {n : Nat} {H H' : Hp} {q : Addr × V × Triple} (k : TK H H') (h : TripAt n H q) : TripAt n H' q := ⟨k _ _ h.1, h.2.1.tk k, h.2.2⟩
theorem StoryAt.tk {n : Nat} {H H' : Hp} {a : Addr} {p : Nat → Prop} {PS : List (Addr × List Nat)} {SN : List (Addr × V × Triple)} (k : TK H H') (h : StoryAt n H a p PS SN) : StoryAt n H' a p PS SN := by
  obtain ⟨tl, tp, ts, h1, h2, h3, h4⟩ := h.ex
  exact ⟨⟨tl, tp, ts, k _ _ h1, k _ _ h2, k _ _ h3, k _ _ h4⟩, fun q hq => ⟨k _ _ (h.pc q hq).1, (h.pc q hq).2⟩, fun q hq => ⟨(h.sn q hq).1.tk k, (h.sn q hq).2⟩, h.lp, h.ls⟩
theorem kc_lst {c a : Addr} {H H' : Hp} {xs : List V} (k : Kc c H H') (n : a ≠ c) (h : H a = some (.lst xs)) : H' a = some (.lst xs) := k _ _ n (fun _ z => by cases z) h
section
variable {P : Program} {w : World} {K : PySem.W.Frag} {mg : Str → Option Value} {base : Heap}
def spSeen : Sp := fun vs H Q _ => ∃ (b c t l D wk : Addr) (n m : Nat) (rs : List Addr) (M : Nat → Nat → Nat) (ws : List Nat), vs = [.ref b, .ref t, .ref D, .ref wk, vI m] ∧ Box b c H ∧ H t = some (.tup [vI n, .ref l]) ∧ 1 ≤ n ∧ n ≤ 8 ∧ TabAt c H D n rs M ∧ H wk = some (.lst (ws.map vI)) ∧ wk ≠ c ∧ 1 ≤ ws.length ∧ ws.length ≤ 13 ∧ (∀ a ∈ ws, a < n) ∧ m ≤ 24 ∧
  ∀ (H' : Hp) (ts : Addr) (SN : List (Addr × V × Triple)), H' ts = some (.tup (SN.map fun q => V.ref q.1)) → (∀ q ∈ SN, TripAt n H' q ∧ q.2.2.beat < ws.length) → SN.length ≤ m → Kc c H H' → Box b c H' → Q (.ref ts) H'
theorem sc__law_seen : FnScope ["_law_box_here", "_law_board_here", "_law_spans_here", "_law_walk", "_law_most", "_law_many", "_law_rows", "_law_k", "_law_beat", "_law_look_here", "_law_answer_here"] ["_law_box_here", "_law_board_here", "_law_spans_here", "_law_walk", "_law_most"] (defScope s__law_seen) := ⟨rfl, rfl, rfl, by decide +kernel, rfl, by decide +kernel, by decide +kernel⟩
theorem ok_seen (T : Tx K mg) : Has P w K mg base (He.ga K "_law_seen") 4 ["_law_box_here", "_law_board_here", "_law_spans_here", "_law_walk", "_law_most"] spSeen := by
  obtain ⟨⟨fd_law_pick, F_law_pick, b_law_pick⟩, kp_law_pick⟩ := ok_pick (P := P) (w := w) (base := base) T
  obtain ⟨⟨fd_law_look, F_law_look, b_law_look⟩, kp_law_look⟩ := ok_look (P := P) (w := w) (base := base) T
  obtain ⟨⟨fd_law_answer, F_law_answer, b_law_answer⟩, kp_law_answer⟩ := ok_answer (P := P) (w := w) (base := base) T
  obtain ⟨fd, F⟩ := T.d__law_seen
  refine ⟨⟨fd, F.ok sc__law_seen (fun vs H Q E h => ?_) (fun cdv A outer s H vs Q E hr h => ?_), F.bindsN fun _ _ _ _ _ _ us hl => match us, hl with | [_, _, _, _, _], _ => rfl⟩, F.kp⟩
  · obtain ⟨b, c, t, l, D, wk, n, m, rs, M, ws, rfl, _⟩ := h
    rfl
  · obtain ⟨b, c, t, l, D, wk, n, m, rs, M, ws, rfl, B, ht, n1, n8, TA, hw, wc, w1, w13, wn, m24, h⟩ := h
    have hr_law_pick : Room 1 _ := hr.mono (by decide)
    have hr_law_look : Room 3 _ := hr.mono (by decide)
    have hr_law_answer : Room 1 _ := hr.mono (by decide)
    refine ⟨_, PSs.nox (pss_cons (ps_par (i := 5) (j := 6) rfl sc__law_seen.nd rfl rfl (by decide) rfl rfl (pa_cons (pe_ix (ixT (K := K)) (pv 1) pe_int (fun _ _ => rfl)) (pa_cons (pe_lst pa_nil) pa_nil)) (by rfl))
      (pss_cons (ps_for PassesOwn.never rfl (pi_range1 (by rfl) T.free_range (pa_cons (pe_call F_law_pick hr_law_pick rfl T.glo_law_pick kp_law_pick b_law_pick .nil pass0 (pa_cons (pv 0) (pa_cons (pe_op op_add (pv 4) pe_int) pa_nil))) pa_nil)) (pg_name (i := 7) sc__law_seen.nd rfl (Or.inl rfl)) (pss_cons (ps_par (i := 8) (j := 9) rfl sc__law_seen.nd rfl rfl (by decide) rfl rfl (pa_cons (pe_call F_law_pick hr_law_pick rfl T.glo_law_pick kp_law_pick b_law_pick .nil pass0 (pa_cons (pv 0) (pa_cons (pe_callB (lenK (K := K)) (by rfl) T.free_len (by decide +kernel) (pa_cons (pv 3) pa_nil)) pa_nil))) (pa_cons (pe_call F_law_look hr_law_look rfl T.glo_law_look kp_law_look b_law_look .nil pass0 (pa_cons (pv 0) (pa_cons (pv 5) pa_nil))) pa_nil)) (by rfl))
      (pss_cons (ps_set (i := 10) sc__law_seen.nd rfl (Or.inl rfl) (pe_call F_law_answer hr_law_answer rfl T.glo_law_answer kp_law_answer b_law_answer .nil pass0 (pa_cons (pv 2) (pa_cons (pv 9) (pa_cons (pe_ix (ixL (K := K)) (pv 3) (pv 8) (fun _ _ => rfl)) pa_nil)))))
      (C8.pss_cut (ps_if (pt_cmpR op_eq (pe_call F_law_pick hr_law_pick rfl T.glo_law_pick kp_law_pick b_law_pick .nil pass0 (pa_cons (pv 0) (pa_cons pe_int pa_nil))) pe_int (nomark _)) (pss_one (ps_set (i := 10) sc__law_seen.nd rfl (Or.inl rfl) (pe_call F_law_answer hr_law_answer rfl T.glo_law_answer kp_law_answer b_law_answer .nil pass0 (pa_cons (pv 2) (pa_cons (pv 9) (pa_cons (pe_call F_law_pick hr_law_pick rfl T.glo_law_pick kp_law_pick b_law_pick .nil pass0 (pa_cons (pv 0) (pa_cons (pv 5) pa_nil))) pa_nil)))))) pss_nil)
      (pss_one (ps_expr (bmK (K := K) PySem.F.plainAttrs_list PySem.F.slot_list_append PySem.F.type_list_append mt_append (pv 6) (pa_cons (pe_tup (pa_cons (pv 8) (pa_cons (pv 9) (pa_cons (pv 10) pa_nil)))) pa_nil))))))))
      (pss_one (ps_ret (pe_callTy (tupK (K := K)) (by rfl) T.free_tuple (by decide +kernel) (pa_cons (pv 6) pa_nil)))))), ?_⟩
    refine ⟨_, rfl, t, _, 0, _, rfl, rfl, SqT.of ht, rfl, Nat.zero_le _, fun rw_ hrw => ?_⟩
    have s0 : Same H (L2.upd H rw_ (.lst [])) := same_upd hrw
    have rc := (B.new hrw).1
    have rb := (B.new hrw).2
    refine ⟨_, _, rfl, _, rfl, _, rfl, _, _, rfl, rfl, b, c, _, rfl, B.same s0, by omega, by omega, fun H1 x k1 B1 x0 x1 => ?_⟩
    have k01 := (kc_same s0).trans k1
    refine ⟨_, rfl, by omega, by omega, for_range (lo := 0) (n := x.toNat) (fun i σ H2 => ∃ (v7 v8 v9 v10 : Option V) (SN : List (Addr × V × Triple)), σ = [some (.ref b), some (.ref t), some (.ref D), some (.ref wk), some (vI m), some (vI n), some (.ref rw_), v7, v8, v9, v10] ∧ H2 rw_ = some (.lst (SN.map fun q => V.ref q.1)) ∧ SN.length = i ∧ (∀ q ∈ SN, TripAt n H2 q ∧ q.2.2.beat < ws.length) ∧ Kc c H H2 ∧ Box b c H2) ?_ ?_ ?_⟩
    · exact ⟨none, none, none, none, [], rfl, kc_lst k1 rc upd_same, rfl, by simp, k01, B1⟩
    · rintro i σ H2 hi ⟨v7, v8, v9, v10, SN, rfl, h2, l2, t2, k2, B2⟩
      refine ⟨_, rfl, _, rfl, wk, _, rfl, .inl (SqL.of (kc_lst k2 wc hw)), b, c, _, rfl, B2, by rw [List.length_map]; omega, by rw [List.length_map]; omega, fun H3 y k3 B3 y0 y1 => ?_⟩
      rw [List.length_map] at y1
      obtain ⟨j, rfl⟩ : ∃ j : Nat, y = (j : Nat) := ⟨y.toNat, by omega⟩
      have jl : j < ws.length := by omega
      have hj : ws[j]? = some ws[j] := List.getElem?_eq_getElem jl
      refine ⟨_, rfl, _, rfl, b, c, n, rfl, B3, n1, n8, fun H4 v L LA LO k4 B4 => ?_⟩
      have k24 := (k2.trans k3).trans k4
      refine ⟨_, _, rfl, _, rfl, _, rfl, _, rfl, _, rfl, wk, _, _, _, rfl, rfl, SqL.of (kc_lst k24 wc hw), atI_nat (get_map hj), ?_⟩
      refine ⟨c, D, v, n, ws[j], rs, M, L, rfl, n8, TA.keep k24, LA, LO, wn _ (List.getElem_mem jl), fun H5 s5 => ?_⟩
      have k5 := k24.trans (kc_same s5)
      have h5 : H5 rw_ = some (.lst (SN.map fun q => V.ref q.1)) := s5 _ _ (kc_lst (k3.trans k4) rc h2)
      have t5 : TK H2 H5 := ((k3.trans k4).tk B2.lst).trans (tk_same s5)
      refine ⟨fun σ H6 => ∃ (a : Nat), σ = [some (.ref b), some (.ref t), some (.ref D), some (.ref wk), some (vI m), some (vI n), some (.ref rw_), some (.int (0 + (i : Nat))), some (vI j), some v, some (vI a)] ∧ Kc c H5 H6 ∧ Box b c H6, ?_, ?_⟩
      · refine ⟨_, rfl, b, c, _, rfl, B4.same s5, by decide, by decide, fun H6 z k6 B6 z0 z1 => ?_⟩
        refine ⟨rfl, _, rfl, ?_⟩
        refine ite2 (fun _ => ?_) (fun _ => ⟨_, rfl, k6, B6⟩)
        refine ⟨_, rfl, _, rfl, _, rfl, _, rfl, b, c, _, rfl, B6, by omega, by omega, fun H7 u k7 B7 u0 u1 => ?_⟩
        obtain ⟨d, rfl⟩ : ∃ d : Nat, u = (d : Nat) := ⟨u.toNat, by omega⟩
        refine ⟨c, D, v, n, d, rs, M, L, rfl, n8, TA.keep ((k5.trans k6).trans k7), (LA.same s5).tk ((k6.trans k7).tk (B4.same s5).lst), LO, by omega, fun H8 s8 => ?_⟩
        exact ⟨_, rfl, (k6.trans k7).trans (kc_same s8), B7.same s8⟩
      · rintro σ H6 ⟨a, rfl, k6, B6⟩
        have h6 := kc_lst k6 rc h5
        have tk6 : TK H5 H6 := k6.tk (B4.same s5).lst
        refine ⟨_, rfl, .inl ⟨rfl, _, SqL.of h6⟩, _, rfl, _, rfl, _, rfl, (by show 3 ≤ sizeLine; decide), fun q hq => ?_⟩
        have s7 := same_upd (o := HO.tup [vI j, v, vI a]) hq
        have h7 := s7 _ _ h6
        have hq7 : (L2.upd H6 q (.tup [vI j, v, vI a])) q = some (.tup [vI j, v, vI a]) := upd_same
        generalize L2.upd H6 q (.tup [vI j, v, vI a]) = H7 at s7 h7 hq7
        refine ⟨rw_, _, _, rfl, rfl, h7, ?_, ?_⟩
        · rw [List.length_map]
          exact Nat.lt_of_le_of_lt (show SN.length ≤ 24 by omega) (by decide)
        have tk8 : ∀ {o : List V}, TK H7 (L2.upd H7 rw_ (.lst o)) := fun {o} => tk_lst h7
        refine ⟨_, _, _, _, SN ++ [(q, v, ⟨j, L, a⟩)], rfl, ?_, by simp [l2], fun q' hq' => ?_, ?_, (B6.same s7).upd rc rb⟩
        · rw [upd_same, List.map_append]
          rfl
        · rcases List.mem_append.mp hq' with z | z
          · exact ⟨(t2 q' z).1.tk (t5.trans (tk6.trans ((tk_same s7).trans tk8))), (t2 q' z).2⟩
          · rw [List.mem_singleton.mp z]
            exact ⟨⟨tk8 _ _ hq7, (LA.same s5).tk (tk6.trans ((tk_same s7).trans tk8)), LO⟩, jl⟩
        · exact ((k5.trans k6).trans (kc_same s7)).upd hrw
    · rintro σ H2 ⟨v7, v8, v9, v10, SN, rfl, h2, l2, t2, k2, B2⟩
      refine ⟨_, rfl, rw_, _, rfl, .inl ⟨SqL.of h2, fun u hu => ?_⟩⟩
      have s3 := same_upd (o := HO.tup (SN.map fun q => V.ref q.1)) hu
      exact h _ u SN upd_same (fun q hq => ⟨(t2 q hq).1.same s3, (t2 q hq).2⟩) (by omega) (k2.trans (kc_same s3)) (B2.same s3)
end
end RL
namespace RL
open PySem PySem.Spec PyProof.Rows L2 RLM
/-- what is new now is not among what was to be kept -/
theorem kc_new {c p : Addr} {H H1 : Hp} (k : Kc c H H1) (h : H1 p = none) (n : p ≠ c) : ∀ o : HO, (∀ kvs, o ≠ .dK kvs) → H p ≠ some o := fun o hk e => by
  have := k p o n hk e
  rw [h] at this
  cases this
theorem Kc.put {c p : Addr} {H H2 : Hp} {o : HO} (k : Kc c H H2) (h : ∀ o : HO, (∀ kvs, o ≠ .dK kvs) → H p ≠ some o) : Kc c H (L2.upd H2 p o) := fun a u h1 h2 e => by
  have ne : a ≠ p := fun z => by
    rw [z] at e
    exact h u h2 e
  rw [upd_ne ne]
  exact k a u h1 h2 e
section
variable {P : Program} {w : World} {K : PySem.W.Frag} {mg : Str → Option Value} {base : Heap}
def spStory : Sp := fun vs H Q _ => ∃ (b c t l D : Addr) (n i m : Nat) (rs : List Addr) (M : Nat → Nat → Nat) (E : List (Nat × Nat)), vs = [.ref b, .ref t, .ref D, vI i, vI m] ∧ Box b c H ∧ H t = some (.tup [vI n, .ref l]) ∧ 1 ≤ n ∧ n ≤ 8 ∧ TabAt c H D n rs M ∧ Spans n E M ∧ i ≤ 12 ∧ m ≤ 24 ∧
  ∀ (H' : Hp) (s : Addr) (p : Nat → Prop) (PS : List (Addr × List Nat)) (SN : List (Addr × V × Triple)), StoryAt n H' s p PS SN → (∃ a, a < n ∧ p a) → PS.length = i → SN.length ≤ m → Kc c H H' → Box b c H' → Q (.ref s) H'
theorem sc__law_story : FnScope ["_law_box_here", "_law_board_here", "_law_spans_here", "_law_beats", "_law_most", "_law_many", "_law_lot_here", "_law_paces", "_law_walk", "_law_pace_here", "_law_k"] ["_law_box_here", "_law_board_here", "_law_spans_here", "_law_beats", "_law_most"] (defScope s__law_story) := ⟨rfl, rfl, rfl, by decide +kernel, rfl, by decide +kernel, by decide +kernel⟩
theorem ok_story (T : Tx K mg) : Has P w K mg base (He.ga K "_law_story") 5 ["_law_box_here", "_law_board_here", "_law_spans_here", "_law_beats", "_law_most"] spStory := by
  obtain ⟨⟨fd_law_start, F_law_start, b_law_start⟩, kp_law_start⟩ := ok_start (P := P) (w := w) (base := base) T
  obtain ⟨⟨fd_law_pace, F_law_pace, b_law_pace⟩, kp_law_pace⟩ := ok_pace (P := P) (w := w) (base := base) T
  obtain ⟨⟨fd_law_from, F_law_from, b_law_from⟩, kp_law_from⟩ := ok_fromT (P := P) (w := w) (base := base) T
  obtain ⟨⟨fd_law_reached, F_law_reached, b_law_reached⟩, kp_law_reached⟩ := ok_reached (P := P) (w := w) (base := base) T
  obtain ⟨⟨fd_law_seen, F_law_seen, b_law_seen⟩, kp_law_seen⟩ := ok_seen (P := P) (w := w) (base := base) T
  obtain ⟨fd, F⟩ := T.d__law_story
  refine ⟨⟨fd, F.ok sc__law_story (fun vs H Q E h => ?_) (fun cdv A outer s H vs Q E hr h => ?_), F.bindsN fun _ _ _ _ _ _ us hl => match us, hl with | [_, _, _, _, _], _ => rfl⟩, F.kp⟩
  · obtain ⟨b, c, t, l, D, n, i, m, rs, M, E, rfl, _⟩ := h
    rfl
  · obtain ⟨b, c, t, l, D, n, i, m, rs, M, E, rfl, B, ht, n1, n8, TA, S, i12, m24, h⟩ := h
    have hr_law_start : Room 3 _ := hr.mono (by decide)
    have hr_law_pace : Room 3 _ := hr.mono (by decide)
    have hr_law_from : Room 2 _ := hr.mono (by decide)
    have hr_law_reached : Room 1 _ := hr.mono (by decide)
    have hr_law_seen : Room 4 _ := hr.mono (by decide)
    refine ⟨_, PSs.nox (pss_cons (ps_set (i := 5) sc__law_story.nd rfl (Or.inr rfl) (pe_ix (ixT (K := K)) (pv 1) pe_int (fun _ _ => rfl)))
      (pss_cons (ps_par (i := 6) (j := 7) rfl sc__law_story.nd rfl rfl (by decide) rfl rfl (pa_cons (pe_call F_law_start hr_law_start rfl T.glo_law_start kp_law_start b_law_start .nil pass0 (pa_cons (pv 0) (pa_cons (pv 5) pa_nil))) (pa_cons (pe_callTy (tupK (K := K)) (by rfl) T.free_tuple (by decide +kernel) (pa_cons (pe_lc (own := [("_law_k", 10)]) (g := (gName 10)) (tt := tYes) rfl sc__law_story.nd (pi_range1 (by rfl) T.free_range (pa_cons (pv 3) pa_nil)) (blkOk_by (by kernel_rfl)) (fun _ _ _ _ _ => (pg_name (i := 10) sc__law_story.nd rfl (Or.inl rfl))) (fun _ _ _ _ _ => pts_nil) (fun _ _ _ _ _ => (pe_call F_law_pace hr_law_pace rfl T.glo_law_pace kp_law_pace b_law_pace .nil pass0 (pa_cons (pv 0) (pa_cons (pv 5) pa_nil))))) pa_nil)) pa_nil)) (by rfl))
      (pss_cons (ps_set (i := 8) sc__law_story.nd rfl (Or.inl rfl) (pe_lst (pa_cons (pe_call F_law_from hr_law_from rfl T.glo_law_from kp_law_from b_law_from .nil pass0 (pa_cons (pv 0) (pa_cons (pv 6) pa_nil))) pa_nil)))
      (pss_cons (ps_for PassesOwn.never rfl (piT (K := K) (pv 7)) (pg_name (i := 9) sc__law_story.nd rfl (Or.inl rfl)) (pss_one (ps_expr (bmK (K := K) PySem.F.plainAttrs_list PySem.F.slot_list_append PySem.F.type_list_append mt_append (pv 8) (pa_cons (pe_call F_law_from hr_law_from rfl T.glo_law_from kp_law_from b_law_from .nil pass0 (pa_cons (pv 0) (pa_cons (pe_call F_law_reached hr_law_reached rfl T.glo_law_reached kp_law_reached b_law_reached .nil pass0 (pa_cons (pv 2) (pa_cons (pv 9) (pa_cons (pe_tup (pa_cons (pe_ix (ixL (K := K)) (pv 8) (pe_un un_neg pe_int) (fun _ _ => rfl)) pa_nil)) pa_nil)))) pa_nil))) pa_nil)))))
      (pss_one (ps_ret (pe_tup (pa_cons (pv 6) (pa_cons (pv 7) (pa_cons (pe_call F_law_seen hr_law_seen rfl T.glo_law_seen kp_law_seen b_law_seen .nil pass0 (pa_cons (pv 0) (pa_cons (pv 1) (pa_cons (pv 2) (pa_cons (pv 8) (pa_cons (pv 4) pa_nil)))))) pa_nil)))))))))), ?_⟩
    refine ⟨_, rfl, t, _, 0, _, rfl, rfl, SqT.of ht, rfl, ?_⟩
    refine ⟨_, rfl, _, rfl, b, c, n, rfl, B, n1, n8, fun H1 tl p htl ⟨a0, a0n, pa0⟩ k1 B1 => ?_⟩
    refine ⟨_, rfl, _, rfl, by omega, by omega, fun D1 hD1 => ?_⟩
    refine lc_relK (walk_range (lo := 0) (n := ((i : Nat) : Int).toNat)) (fun _ v H' => ∃ (t : Addr) (ps : List Nat), v = .ref t ∧ PaceOk n ps ∧ H' t = some (.tup (ps.map vI))) (by omega) B1 hD1 (fun _ _ _ _ ⟨t, ps, e, po, h'⟩ tk => ⟨t, ps, e, po, tk _ _ h'⟩) (fun _ _ _ => trivial) ?_ ?_
    · rintro j x H2 H3 Nx hj k2 B2 ⟨rfl, rfl⟩ kk
      refine ⟨rfl, _, rfl, _, rfl, b, c, n, rfl, B2, n1, n8, fun H4 t4 ps l4 p7 h4 k4 B4 => ?_⟩
      exact kk _ _ ⟨t4, ps, rfl, ⟨l4, p7⟩, h4⟩ k4 B4
    · intro H2 ys h2 ly hy k2 B2 D1c
      rw [Int.toNat_natCast] at ly
      obtain ⟨PS, lq, hq⟩ := beside (R := fun _ v (q : Addr × List Nat) => v = .ref q.1 ∧ PaceOk n q.2 ∧ H2 q.1 = some (.tup (q.2.map vI))) ys 0 fun k y e => by
        obtain ⟨t4, ps, e4, po, h4⟩ := hy k y e
        exact ⟨(t4, ps), e4, po, h4⟩
      have ey : ys = PS.map fun q => V.ref q.1 := ys_of lq fun k y a e1 e2 => (hq k y a e1 e2).1
      have pc2 : ∀ q ∈ PS, H2 q.1 = some (.tup (q.2.map vI)) ∧ PaceOk n q.2 := fun q hm => by
        obtain ⟨k, hk, e⟩ := List.getElem_of_mem hm
        have e1 : ys[k]? = some (ys[k]'(by omega)) := List.getElem?_eq_getElem _
        have := hq k _ q e1 (by rw [List.getElem?_eq_getElem hk, e])
        exact ⟨this.2.2, this.2.1⟩
      subst ey
      have lPS : PS.length = i := by rw [← ly, List.length_map]
      refine ⟨D1, _, rfl, .inl ⟨SqL.of h2, fun tp htp => ?_⟩⟩
      have s3 := same_upd (o := HO.tup (PS.map fun q => V.ref q.1)) htp
      have htp3 : (L2.upd H2 tp (.tup (PS.map fun q => V.ref q.1))) tp = some (.tup (PS.map fun q => V.ref q.1)) := upd_same
      generalize L2.upd H2 tp (.tup (PS.map fun q => V.ref q.1)) = H3 at s3 htp3
      have k13 := k2.trans (kc_same (c := c) s3)
      have k03 := k1.trans k13
      have B3 := B2.same s3
      have htl3 := k13.tup B1.lst htl
      have pl : 1 ≤ ((lotP n p).map vI).length := by
        rw [List.length_map]
        exact List.length_pos_of_mem (mem_lotP.mpr ⟨a0n, pa0⟩)
      have pl8 : ((lotP n p).map vI).length ≤ 8 := by
        rw [List.length_map]
        have := lotP_len n p
        omega
      refine ⟨_, _, rfl, _, rfl, _, rfl, b, c, tl, _, rfl, B3, htl3, pl, by omega, fun H4 v k4 B4 hv => ?_⟩
      obtain ⟨a, ha, rfl⟩ := List.mem_map.mp hv
      have an := (mem_lotP.mp ha).1
      refine ⟨(by show 1 ≤ sizeLine; decide), fun wk hwk => ?_⟩
      have s5 := same_upd (o := HO.lst [vI a]) hwk
      have hwk5 : (L2.upd H4 wk (.lst [vI a])) wk = some (.lst [vI a]) := upd_same
      have wc := (B4.new hwk).1
      have wb := (B4.new hwk).2
      have k05 := (k03.trans k4).trans (kc_same (c := c) s5)
      have k35 := k4.trans (kc_same (c := c) s5)
      have B5 := B4.same s5
      have Hwk := kc_new (k03.trans k4) hwk wc
      generalize L2.upd H4 wk (.lst [vI a]) = H5 at s5 hwk5 k05 k35 B5
      refine ⟨_, rfl, tp, rfl, ⟨_, SqT.of (k35.tup B3.lst htp3)⟩, ?_⟩
      refine for_it (walk_tup (K := K) (a := tp) (xs := PS.map fun q => V.ref q.1)) (fun j σ H6 => ∃ (v9 : Option V) (ws : List Nat), σ = [some (.ref b), some (.ref t), some (.ref D), some (vI i), some (vI m), some (vI n), some (.ref tl), some (.ref tp), some (.ref wk), v9, none] ∧ H6 wk = some (.lst (ws.map vI)) ∧ ws.length = j + 1 ∧ (∀ z ∈ ws, z < n) ∧ TK H3 H6 ∧ TabAt c H6 D n rs M ∧ Box b c H6 ∧ Kc c H H6) ?_ (fun j σ H6 _ ⟨_, _, _, _, _, _, k6, _⟩ => SqT.of (k6 _ _ htp3)) ?_ ?_
      · exact ⟨none, [a], rfl, hwk5, rfl, by simpa using an, k35.tk B3.lst, TA.keep k05, B5, k05⟩
      · rintro j y σ H6' H6 hj ⟨v9, ws, rfl, h6, l6, w6, k6, T6, B6, q6⟩ ⟨rfl, hy⟩
        obtain ⟨q, hq2, rfl⟩ := get_mapV hy
        have pq := pc2 q (List.mem_of_getElem? hq2)
        obtain ⟨ws', z, rfl⟩ : ∃ ws' z, ws = ws' ++ [z] := ⟨ws.dropLast, ws.getLast (by intro e; rw [e] at l6; simp at l6), (List.dropLast_concat_getLast _).symm⟩
        have zn : z < n := w6 z (by simp)
        refine ⟨_, rfl, .inl ⟨rfl, _, SqL.of h6⟩, _, rfl, _, rfl, _, rfl, _, rfl, 1, rfl, wk, _, _, _, rfl, rfl, SqL.of h6, (by rw [List.map_append]; exact atI_last _ _), ?_⟩
        refine ⟨(by show 1 ≤ sizeLine; decide), fun o ho => ?_⟩
        have s7 := same_upd (o := HO.tup [vI z]) ho
        have ho7 : (L2.upd H6 o (.tup [vI z])) o = some (.tup ((lotP n fun x => x = z).map vI)) := by
          rw [upd_same, lotP_one zn]
          rfl
        generalize L2.upd H6 o (.tup [vI z]) = H7 at s7 ho7
        refine ⟨c, D, q.1, o, rs, M, n, E, q.2, _, rfl, T6.same s7, S, n8, s7 _ _ (k6 _ _ (s3 _ _ pq.1)), pq.2, ho7, fun H8 t8 ht8 s8 => ?_⟩
        have st : z ∈ lotP n (stepP n E q.2 fun x => x = z) := mem_lotP.mpr ⟨zn, z, zn, rfl, near_refl (by omega)⟩
        have l1 : 1 ≤ ((lotP n (stepP n E q.2 fun x => x = z)).map vI).length := by
          rw [List.length_map]
          exact List.length_pos_of_mem st
        have l8 : ((lotP n (stepP n E q.2 fun x => x = z)).map vI).length ≤ 8 := by
          rw [List.length_map]
          have := lotP_len n (stepP n E q.2 fun x => x = z)
          omega
        have s78 := s7.trans s8
        refine ⟨b, c, t8, _, rfl, B6.same s78, ht8, l1, by omega, fun H9 v k9 B9 hv => ?_⟩
        obtain ⟨d, hd, rfl⟩ := List.mem_map.mp hv
        have dn := (mem_lotP.mp hd).1
        have k69 := (kc_same (c := c) s78).trans k9
        have h9 := kc_lst k69 wc h6
        refine ⟨wk, _, _, rfl, rfl, h9, ?_, ?_⟩
        · rw [List.length_map]
          exact Nat.lt_of_le_of_lt (show _ ≤ 13 by rw [l6]; rw [List.length_map] at hj; omega) (by decide)
        refine ⟨_, ws' ++ [z] ++ [d], rfl, ?_, by rw [List.length_append, l6]; rfl, fun z' hz' => ?_, ?_, ?_, B9.upd wc wb, ?_⟩
        · rw [upd_same, List.map_append (l₁ := ws' ++ [z])]
          rfl
        · rcases List.mem_append.mp hz' with e | e
          · exact w6 z' e
          · rw [List.mem_singleton.mp e]
            exact dn
        · exact k6.trans ((k69.tk B6.lst).trans (tk_lst h9))
        · exact TA.keep ((q6.trans k69).put Hwk)
        · exact (q6.trans k69).put Hwk
      · rintro σ H6 ⟨v9, ws, rfl, h6, l6, w6, k6, T6, B6, q6⟩
        rw [List.length_map] at l6
        have ht6 := q6.tup B.lst ht
        refine ⟨_, rfl, _, rfl, _, rfl, _, rfl, _, rfl, _, rfl, _, rfl, b, c, t, l, D, wk, n, m, rs, M, ws, rfl, B6, ht6, n1, n8, T6, h6, wc, by omega, by omega, w6, m24, fun H7 ts SN hts t7 lSN k7 B7 => ?_⟩
        refine ⟨(by show 3 ≤ sizeLine; decide), fun sa hsa => ?_⟩
        have s8 := same_upd (o := HO.tup [.ref tl, .ref tp, .ref ts]) hsa
        have tk7 : TK H3 (L2.upd H7 sa (.tup [.ref tl, .ref tp, .ref ts])) := k6.trans ((k7.tk B6.lst).trans (tk_same s8))
        refine h _ sa p PS SN ⟨⟨tl, tp, ts, upd_same, tk7 _ _ htl3, tk7 _ _ htp3, s8 _ _ hts⟩, fun q hm => ⟨tk7 _ _ (s3 _ _ (pc2 q hm).1), (pc2 q hm).2⟩, fun q hm => ⟨(t7 q hm).1.same s8, ?_⟩, by omega, by omega⟩ ⟨a0, a0n, pa0⟩ lPS lSN ((q6.trans k7).trans (kc_same s8)) (B7.same s8)
        have := (t7 q hm).2
        omega
end
end RL
/-! A story on its board, by the law and by the program; lots that are kept while numbers are drawn. -/
namespace RL
open PySem PySem.Spec PyProof.Rows L2 RLM
structure Dat (K : PySem.W.Frag) (b c : Addr) (H : Hp) (D x sa : Addr) (n : Nat) (rs : List Addr) (M : Nat → Nat → Nat) (E : List (Nat × Nat)) (p : Nat → Prop) (PS : List (Addr × List Nat)) (SN : List (Addr × V × Triple)) : Prop where
  ta : TabAt c H D n rs M
  bd : BoardAt K c H x n E
  sa : StoryAt n H sa p PS SN
  bx : Box b c H
theorem Dat.same {K : PySem.W.Frag} {b c : Addr} {H H' : Hp} {D x sa : Addr} {n : Nat} {rs : List Addr} {M : Nat → Nat → Nat} {E : List (Nat × Nat)} {p : Nat → Prop} {PS : List (Addr × List Nat)} {SN : List (Addr × V × Triple)} (s : Same H H') (d : Dat K b c H D x sa n rs M E p PS SN) : Dat K b c H' D x sa n rs M E p PS SN :=
  ⟨d.ta.same s, d.bd.same s, d.sa.same s, d.bx.same s⟩
theorem Dat.keep {K : PySem.W.Frag} {b c : Addr} {H H' : Hp} {D x sa : Addr} {n : Nat} {rs : List Addr} {M : Nat → Nat → Nat} {E : List (Nat × Nat)} {p : Nat → Prop} {PS : List (Addr × List Nat)} {SN : List (Addr × V × Triple)} (k : Kc c H H') (B : Box b c H') (d : Dat K b c H D x sa n rs M E p PS SN) : Dat K b c H' D x sa n rs M E p PS SN :=
  ⟨d.ta.keep k, d.bd.keep k d.bx.lst, d.sa.tk (k.tk d.bx.lst), B⟩
theorem LotsAt.keep {n : Nat} {c : Addr} {H H' : Hp} {D : Addr} {m : Nat} {p : Nat → Nat → Prop} (k : Kc c H H') (hc : ∃ ys, H c = some (.lst ys)) (ne : D ≠ c) (h : LotsAt n H D m p) : LotsAt n H' D m p := by
  obtain ⟨us, h1, l1, r1⟩ := h.ex
  exact ⟨⟨us, k _ _ ne (fun _ z => by cases z) h1, l1, fun i v e => k.tup hc (r1 i v e)⟩⟩
theorem LotsAt.ne {n : Nat} {b c : Addr} {H : Hp} {D : Addr} {m : Nat} {p : Nat → Nat → Prop} (h : LotsAt n H D m p) (B : Box b c H) : D ≠ b := by
  obtain ⟨us, h1, _⟩ := h.ex
  obtain ⟨kvs, hb⟩ := B.dict
  exact ne_of h1 hb (by intro z; cases z)
/-- one lot more at the end -/
def snocP (q : Nat → Nat → Prop) (m : Nat) (r : Nat → Prop) : Nat → Nat → Prop := fun i => if i = m then r else q i
theorem snocP_old {q : Nat → Nat → Prop} {m i : Nat} {r : Nat → Prop} (h : i < m) : snocP q m r i = q i := if_neg (by omega)
theorem snocP_new {q : Nat → Nat → Prop} {m : Nat} {r : Nat → Prop} : snocP q m r m = r := if_pos rfl
theorem LotsAt.snoc {n : Nat} {H : Hp} {D t : Addr} {m : Nat} {q : Nat → Nat → Prop} {r : Nat → Prop} {us : List Addr} (h1 : H D = some (.lst (us.map V.ref))) (l1 : us.length = m) (r1 : ∀ (i : Nat) (u : Addr), us[i]? = some u → H u = some (.tup ((lotP n (q i)).map vI))) (ht : H t = some (.tup ((lotP n r).map vI))) : LotsAt n (L2.upd H D (.lst (us.map V.ref ++ [V.ref t]))) D (m + 1) (snocP q m r) := by
  refine ⟨⟨us ++ [t], by rw [upd_same, List.map_append]; rfl, by simp [l1], fun k u e => ?_⟩⟩
  by_cases hk : k < us.length
  · rw [List.getElem?_append_left hk] at e
    have g := r1 k u e
    rw [upd_ne (ne_of g h1 (by intro z; cases z)), snocP_old (by omega)]
    exact g
  · rw [List.getElem?_append_right (by omega)] at e
    have ek : k = us.length := by
      obtain ⟨z1, _⟩ := List.getElem?_eq_some_iff.mp e
      have z1 : k - us.length < 1 := z1
      omega
    rw [ek, Nat.sub_self] at e
    cases e
    rw [upd_ne (ne_of ht h1 (by intro z; cases z)), ek, l1, snocP_new]
    exact ht
/-- one lot more at the beginning -/
def consP (r : Nat → Prop) (q : Nat → Nat → Prop) : Nat → Nat → Prop
  | 0 => r
  | i + 1 => q i
theorem LotsAt.one {n : Nat} {H : Hp} {D t : Addr} {r : Nat → Prop} (h : H D = some (.lst [V.ref t])) (ht : H t = some (.tup ((lotP n r).map vI))) : LotsAt n H D 1 (fun _ => r) := by
  refine ⟨⟨[t], h, rfl, fun i u e => ?_⟩⟩
  cases i with
  | zero =>
    cases e
    exact ht
  | succ i => simp at e
theorem refs_inj : ∀ {us vs : List Addr}, us.map V.ref = vs.map V.ref → us = vs
  | [], [], _ => rfl
  | [], _ :: _, h => by cases h
  | _ :: _, [], h => by cases h
  | u :: us, v :: vs, h => by
    have h := List.cons.inj h
    rw [V.ref.inj h.1, refs_inj h.2]
theorem LotsAt.take {n : Nat} {H H' : Hp} {D D' : Addr} {m k : Nat} {q : Nat → Nat → Prop} (h : LotsAt n H D m q) (s : Same H H') (hk : k ≤ m) (us : List Addr) (hu : H D = some (.lst (us.map V.ref))) (h' : H' D' = some (.lst ((us.take k).map V.ref))) : LotsAt n H' D' k q := by
  obtain ⟨vs, h1, l1, r1⟩ := h.ex
  rw [hu] at h1
  have e : us = vs := by
    have e1 := HO.lst.inj (Option.some.inj h1)
    exact refs_inj e1
  subst e
  refine ⟨⟨us.take k, h', by rw [List.length_take]; omega, fun i u e => s _ _ (r1 i u ?_)⟩⟩
  have il := (List.getElem?_eq_some_iff.mp e).1
  rw [List.length_take] at il
  rw [List.getElem?_take_of_lt (by omega)] at e
  exact e
theorem LotsAt.drop {n : Nat} {H H' : Hp} {D D' : Addr} {m k : Nat} {q : Nat → Nat → Prop} (h : LotsAt n H D m q) (s : Same H H') (us : List Addr) (hu : H D = some (.lst (us.map V.ref))) (h' : H' D' = some (.lst ((us.drop k).map V.ref))) : LotsAt n H' D' (m - k) (fun i => q (k + i)) := by
  obtain ⟨vs, h1, l1, r1⟩ := h.ex
  rw [hu] at h1
  have e : us = vs := by
    have e1 := HO.lst.inj (Option.some.inj h1)
    exact refs_inj e1
  subst e
  refine ⟨⟨us.drop k, h', by rw [List.length_drop]; omega, fun i u e => s _ _ (r1 (k + i) u ?_)⟩⟩
  rw [List.getElem?_drop] at e
  exact e
end RL
/-! A board with a start and paces, and rows of triples on it. -/
namespace RL
open PySem PySem.Spec PyProof.Rows L2 RLM
structure Lay (K : PySem.W.Frag) (b c : Addr) (H : Hp) (D x tl tp : Addr) (n : Nat) (rs : List Addr) (M : Nat → Nat → Nat) (E : List (Nat × Nat)) (p : Nat → Prop) (PS : List (Addr × List Nat)) : Prop where
  ta : TabAt c H D n rs M
  bd : BoardAt K c H x n E
  bx : Box b c H
  hl : H tl = some (.tup ((lotP n p).map vI))
  hp : H tp = some (.tup (PS.map fun q => V.ref q.1))
  pc : ∀ q ∈ PS, H q.1 = some (.tup (q.2.map vI)) ∧ PaceOk n q.2
  lp : PS.length ≤ 12
structure Seen (n : Nat) (H : Hp) (t : Addr) (m : Nat) (SN : List (Addr × V × Triple)) : Prop where
  at_ : H t = some (.tup (SN.map fun q => V.ref q.1))
  each : ∀ q ∈ SN, TripAt n H q ∧ q.2.2.beat ≤ m
section
variable {K : PySem.W.Frag} {b c D x tl tp t o s : Addr} {H H' : Hp} {n m : Nat} {rs : List Addr} {M : Nat → Nat → Nat} {E : List (Nat × Nat)} {p : Nat → Prop} {PS : List (Addr × List Nat)} {SN SN' : List (Addr × V × Triple)}
theorem Lay.same (s : Same H H') (h : Lay K b c H D x tl tp n rs M E p PS) : Lay K b c H' D x tl tp n rs M E p PS :=
  ⟨h.ta.same s, h.bd.same s, h.bx.same s, s _ _ h.hl, s _ _ h.hp, fun q hq => ⟨s _ _ (h.pc q hq).1, (h.pc q hq).2⟩, h.lp⟩
theorem Lay.keep (k : Kc c H H') (B : Box b c H') (h : Lay K b c H D x tl tp n rs M E p PS) : Lay K b c H' D x tl tp n rs M E p PS :=
  ⟨h.ta.keep k, h.bd.keep k h.bx.lst, B, k.tup h.bx.lst h.hl, k.tup h.bx.lst h.hp, fun q hq => ⟨k.tup h.bx.lst (h.pc q hq).1, (h.pc q hq).2⟩, h.lp⟩
theorem Seen.same (s : Same H H') (h : Seen n H t m SN) : Seen n H' t m SN := ⟨s _ _ h.at_, fun q hq => ⟨(h.each q hq).1.same s, (h.each q hq).2⟩⟩
theorem Seen.keep (k : Kc c H H') (hc : ∃ ys, H c = some (.lst ys)) (h : Seen n H t m SN) : Seen n H' t m SN := ⟨k.tup hc h.at_, fun q hq => ⟨(h.each q hq).1.tk (k.tk hc), (h.each q hq).2⟩⟩
/-- other triples of those -/
theorem Seen.other (h : Seen n H t m SN) (s : Same H H') (ho : H' o = some (.tup (SN'.map fun q => V.ref q.1))) (sub : ∀ q ∈ SN', q ∈ SN) : Seen n H' o m SN' := ⟨ho, fun q hq => ⟨(h.each q (sub q hq)).1.same s, (h.each q (sub q hq)).2⟩⟩
theorem Lay.story (h : Lay K b c H D x tl tp n rs M E p PS) (g : Seen n H t PS.length SN) (ho : H o = some (.tup [.ref tl, .ref tp, .ref t])) (l : SN.length ≤ 24) : StoryAt n H o p PS SN :=
  ⟨⟨tl, tp, t, ho, h.hl, h.hp, g.at_⟩, h.pc, g.each, h.lp, l⟩
theorem lay_of (ta : TabAt c H D n rs M) (bd : BoardAt K c H x n E) (bx : Box b c H) (sa : StoryAt n H s p PS SN) : ∃ tl tp ts, H s = some (.tup [.ref tl, .ref tp, .ref ts]) ∧ Lay K b c H D x tl tp n rs M E p PS ∧ Seen n H ts PS.length SN := by
  obtain ⟨tl, tp, ts, h1, h2, h3, h4⟩ := sa.ex
  exact ⟨tl, tp, ts, h1, ⟨ta, bd, bx, h2, h3, sa.pc, sa.lp⟩, ⟨h4, sa.sn⟩⟩
theorem cut_seen (SN : List (Addr × V × Triple)) (lo hi : Option Int) : ∃ SN' : List (Addr × V × Triple), cutV (SN.map fun q => V.ref q.1) lo hi = SN'.map (fun q => V.ref q.1) ∧ (∀ q ∈ SN', q ∈ SN) ∧ SN'.length ≤ SN.length := by
  refine ⟨(SN.drop (HT.sIx (SN.map fun q => V.ref q.1).length 0 lo)).take (HT.sIx (SN.map fun q => V.ref q.1).length (SN.map fun q => V.ref q.1).length hi - HT.sIx (SN.map fun q => V.ref q.1).length 0 lo), ?_, fun q hq => List.drop_subset _ _ (List.take_subset _ _ hq), ?_⟩
  · unfold cutV
    rw [List.map_take, List.map_drop]
  · rw [List.length_take, List.length_drop]
    omega
end
end RL
/-! The walk at a number, place by place. -/
namespace RL
open PySem PySem.Spec PyProof.Rows L2 RLM
/-- the place that the walk with this number takes, and its number among the walks there -/
def pickN (f : Nat → Nat) : List Nat → Nat → Nat × Nat
  | [], k => (0, k)
  | x :: xs, k => if k < f x then (x, k) else pickN f xs (k - f x)
theorem pickN_cons {f : Nat → Nat} {x : Nat} {xs : List Nat} {k : Nat} : pickN f (x :: xs) k = if k < f x then (x, k) else pickN f xs (k - f x) := rfl
theorem pick_in {f : Nat → Nat} : ∀ {xs : List Nat} {k : Nat}, k < (xs.map f).sum → (pickN f xs k).1 ∈ xs ∧ (pickN f xs k).2 < f (pickN f xs k).1
  | [], k, h => by simp at h
  | x :: xs, k, h => by
    rw [List.map_cons, List.sum_cons] at h
    unfold pickN
    split
    · exact ⟨by simp, by assumption⟩
    · obtain ⟨h1, h2⟩ := pick_in (f := f) (xs := xs) (k := k - f x) (by omega)
      exact ⟨List.mem_cons_of_mem _ h1, h2⟩
theorem pick_grow {f : Nat → Nat} {O : Nat → Bool} {g : Nat → List (List Nat)} (h1 : ∀ x, O x = true → f x = (g x).length) (h0 : ∀ x, O x = false → f x = 0) : ∀ {xs : List Nat} {k : Nat}, k < (xs.map f).sum → (grow (xs.filter O) g)[k]? = ((g (pickN f xs k).1)[(pickN f xs k).2]?).map ((pickN f xs k).1 :: ·)
  | [], k, h => by simp at h
  | x :: xs, k, h => by
    rw [List.map_cons, List.sum_cons] at h
    unfold pickN
    rw [List.filter_cons]
    cases e : O x with
    | true =>
      rw [if_pos rfl, get_grow, ← h1 x e]
      split
      · rfl
      · exact pick_grow h1 h0 (by omega)
    | false =>
      have z := h0 x e
      rw [if_neg (by simp), if_neg (by omega), z, Nat.sub_zero]
      exact pick_grow h1 h0 (by omega)
theorem lot_filter {n : Nat} {A O : Nat → Prop} : lotP n (fun b => A b ∧ O b) = (lotP n A).filter fun b => decB (O b) := by
  refine (lotP_of ((lotP_sorted n A).filter _) fun b => ?_).symm
  rw [List.mem_filter, mem_lotP, decB_true]
  exact ⟨fun z => ⟨z.1.1, z.1.2, z.2⟩, fun z => ⟨⟨z.1, z.2.1⟩, z.2.2⟩⟩
/-- what is left to be found of the walk k, when it has begun by ws and has the number r among those -/
def Rem (n : Nat) (p : Nat → Prop) (E : List (Nat × Nat)) (PS : List (Addr × List Nat)) (O : Nat → Nat → Prop) (k : Nat) (ws : List Nat) (r : Nat) : Prop :=
  (ws.length ≤ PS.length → (walks n PS.length p (stepR E PS) O)[k]? = ((grow (lotP n fun b => nextP p E PS ws b ∧ O ws.length b) (tails n PS.length (stepR E PS) O (PS.length - ws.length)))[r]?).map (ws ++ ·) ∧ r < ((lotP n (nextP p E PS ws)).map (cntN n PS.length (stepR E PS) O ws.length)).sum) ∧
  (ws.length = PS.length + 1 → (walks n PS.length p (stepR E PS) O)[k]? = some ws)
theorem rem_start {n : Nat} {p : Nat → Prop} {E : List (Nat × Nat)} {PS : List (Addr × List Nat)} {O : Nat → Nat → Prop} {k : Nat} (h : k < (walks n PS.length p (stepR E PS) O).length) : Rem n p E PS O k [] k := by
  refine ⟨fun _ => ⟨?_, ?_⟩, fun e => by simp at e⟩
  · rw [walks_grow]
    show _ = Option.map (fun v => v) _
    rw [Option.map_id']
    rfl
  · rw [walks_cnt] at h
    exact h
theorem rem_next {n : Nat} {p : Nat → Prop} {E : List (Nat × Nat)} {PS : List (Addr × List Nat)} {O : Nat → Nat → Prop} {k : Nat} {ws : List Nat} {r : Nat} (h : Rem n p E PS O k ws r) (hw : ws.length ≤ PS.length) :
    (pickN (cntN n PS.length (stepR E PS) O ws.length) (lotP n (nextP p E PS ws)) r).1 < n ∧ Rem n p E PS O k (ws ++ [(pickN (cntN n PS.length (stepR E PS) O ws.length) (lotP n (nextP p E PS ws)) r).1]) (pickN (cntN n PS.length (stepR E PS) O ws.length) (lotP n (nextP p E PS ws)) r).2 := by
  obtain ⟨h1, h2⟩ := h.1 hw
  have hg := pick_grow (f := cntN n PS.length (stepR E PS) O ws.length) (O := fun b => decB (O ws.length b)) (g := tails n PS.length (stepR E PS) O (PS.length - ws.length)) (fun x e => cnt_in (decB_true.mp e)) (fun x e => cnt_out fun z => by rw [decB_true.mpr z] at e; cases e) h2
  obtain ⟨hb, hr⟩ := pick_in h2
  rw [lot_filter, hg] at h1
  generalize (pickN (cntN n PS.length (stepR E PS) O ws.length) (lotP n (nextP p E PS ws)) r).1 = b at hb hr h1
  generalize (pickN (cntN n PS.length (stepR E PS) O ws.length) (lotP n (nextP p E PS ws)) r).2 = r' at hr h1
  have bn := (mem_lotP.mp hb).1
  have ob : O ws.length b := by
    rcases Classical.em (O ws.length b) with z | z
    · exact z
    · rw [cnt_out z] at hr
      omega
  have h1' : (walks n PS.length p (stepR E PS) O)[k]? = ((tails n PS.length (stepR E PS) O (PS.length - ws.length) b)[r']?).map ((ws ++ [b]) ++ ·) := by
    rw [h1, Option.map_map]
    congr 1
    funext v
    simp
  have lw : (ws ++ [b]).length = ws.length + 1 := by simp
  refine ⟨bn, fun hl => ?_, fun hl => ?_⟩
  · rw [lw] at hl ⊢
    have e1 : PS.length - ws.length = (PS.length - (ws.length + 1)) + 1 := by omega
    have nx : nextP p E PS (ws ++ [b]) = stepR E PS ws.length b := by
      funext c
      unfold nextP
      rw [lw]
      show stepR E PS ws.length ((ws ++ [b]).getLastD 0) c = _
      rw [List.getLastD_concat]
    rw [nx]
    refine ⟨?_, ?_⟩
    · rw [h1', e1, tails_grow, show PS.length - (PS.length - (ws.length + 1) + 1) = ws.length by omega, show PS.length - (PS.length - (ws.length + 1)) = ws.length + 1 by omega]
    · rw [cnt_next (by omega) ob] at hr
      exact hr
  · have e1 : ws.length = PS.length := by omega
    rw [e1] at hr ob
    rw [cnt_last ob] at hr
    have r0 : r' = 0 := by omega
    rw [h1', e1, Nat.sub_self, r0]
    show (([[]] : List (List Nat))[0]?).map ((ws ++ [b]) ++ ·) = _
    simp
end RL
namespace RL
open PySem PySem.Spec PyProof.Rows L2 RLM
/-- no defaults: positional values, the rest by keywords in the parameters' order -/
theorem kbindsA {K : PySem.W.Frag} {x qual : Str} {params : Arguments} {body : List Stmt} {scope : Scope} {kws : List (Str × V)} {f : Addr} {fd : FuncData} {ps : List Str} (F : FunD K x qual params body scope [] kws f fd) (n : Nat) (ks : List Str)
    (h : ∀ (kV doc pm : Value) (an : Option Addr) (cdv ct : Value) (us ws : List Value), us.length = n → ws.length = ks.length → bindArgs (PySem.W.fnOf x qual params body scope .none kV doc pm an cdv ct) ⟨us, ks.zip ws⟩ = pure (ps.zip (us ++ ws))) : KBn K fd ps n ks (fun us ws => us ++ ws) (fun vs zs => vs ++ zs) := by
  obtain ⟨oc, od, dV, kV, doc, pm, an, cdv, ct, osl, rfl, lk, hcd, hD, hK⟩ := F.ex
  rcases hD with ⟨_, rfl⟩ | ⟨e, _⟩
  · exact ⟨fun s us ws _ l1 l2 => .of_eq (h kV doc pm an cdv ct us ws l1 l2), fun r1 r2 => r1.append r2⟩
  · exact absurd rfl e
/-- a def with keywords keeps its promise -/
structure HasK (P : Program) (w : World) (K : PySem.W.Frag) (mg : Str → Option Value) (base : Heap) (f : Addr) (k : Nat) (ps : List Str) (n : Nat) (ks : List Str) (sp : Sp) : Prop where
  ex : ∃ fd, FnOk P w K mg base CX0 k f fd ps sp ∧ KBn K fd ps n ks (fun us ws => us ++ ws) (fun vs zs => vs ++ zs)
  kp : PySem.W.keepIn K (.ref f) = true
section
variable {P : Program} {w : World} {K : PySem.W.Frag} {mg : Str → Option Value} {base : Heap}
def spPPick : Sp := fun vs H Q _ => ∃ (tp r : Addr) (n k : Nat) (f : Nat → Nat) (xs : List Nat), vs = [.ref tp, .ref r, vI k] ∧ H tp = some (.tup (xs.map vI)) ∧ H r = some (.lst ((List.range n).map fun a => vI (f a))) ∧ (∀ x ∈ xs, x < n) ∧ k < (xs.map f).sum ∧
  ∀ H' t, H' t = some (.tup [vI (pickN f xs k).1, vI (pickN f xs k).2]) → Same H H' → Q (.ref t) H'
def spCounted (K : PySem.W.Frag) : Sp := fun vs H Q _ => ∃ (c x s r : Addr) (n k : Nat) (E : List (Nat × Nat)) (p : Nat → Prop) (PS : List (Addr × List Nat)) (SN : List (Addr × V × Triple)) (O : Nat → Nat → Prop), vs = [.ref x, .ref s, .ref r, vI k] ∧ BoardAt K c H x n E ∧ StoryAt n H s p PS SN ∧ CountsAt n H r (PS.length + 1) (cntN n PS.length (stepR E PS) O) ∧ k < (walks n PS.length p (stepR E PS) O).length ∧
  ∀ H' t ws, H' t = some (.tup (ws.map vI)) → (walks n PS.length p (stepR E PS) O)[k]? = some ws → Same H H' → Q (.ref t) H'
end
end RL
namespace RL
open PySem PySem.Spec PyProof.Rows L2 RLM
section
variable {P : Program} {w : World} {K : PySem.W.Frag} {mg : Str → Option Value} {base : Heap}
end
end RL
namespace RL
open PySem PySem.Spec PyProof.Rows L2 RLM
section
variable {P : Program} {w : World} {K : PySem.W.Frag} {mg : Str → Option Value} {base : Heap}
def spProgForth (K : PySem.W.Frag) : Sp := fun vs H Q _ => ∃ (c x s : Addr) (n : Nat) (E : List (Nat × Nat)) (M : Nat → Nat → Nat) (p : Nat → Prop) (PS : List (Addr × List Nat)) (SN : List (Addr × V × Triple)), vs = [.ref x, .ref s] ∧ BoardAt K c H x n E ∧ Spans n E M ∧ StoryAt n H s p PS SN ∧ (∃ a, a < n ∧ p a) ∧
  ∀ H' l, LotsAt n H' l (PS.length + 1) (ForthP n p (stepR E PS) (openP M SN)) → H l = none → Same H H' → Q (.ref l) H'
def spNextLot (K : PySem.W.Frag) : Sp := fun vs H Q _ => ∃ (c x s l f : Addr) (n : Nat) (E : List (Nat × Nat)) (O : Nat → Nat → Prop) (p : Nat → Prop) (PS : List (Addr × List Nat)) (SN : List (Addr × V × Triple)) (us : List Addr), vs = [.ref x, .ref s, .ref l, .ref f] ∧ BoardAt K c H x n E ∧ StoryAt n H s p PS SN ∧ LotsAt n H l (PS.length + 1) O ∧ H f = some (.lst (us.map V.ref)) ∧ us.length ≤ PS.length ∧ (∀ (k : Nat) (u : Addr), us[k]? = some u → H u = some (.tup ((lotP n (ForthP n p (stepR E PS) O k)).map vI))) ∧
  ∀ H' t, H' t = some (.tup ((lotP n (ForthP n p (stepR E PS) O us.length)).map vI)) → Same H H' → Q (.ref t) H'
end
end RL
namespace RL
open PySem PySem.Spec PyProof.Rows L2 RLM
theorem back_next {n : Nat} {E : List (Nat × Nat)} {PS : List (Addr × List Nat)} {O : Nat → Nat → Prop} {i : Nat} {q : Addr × List Nat} (hq : PS[PS.length - (i + 1)]? = some q) :
    lotP n (fun a => beforeP n E q.2 (BackP n PS.length (stepR E PS) O i) a ∧ O (PS.length - (i + 1)) a) = lotP n (BackP n PS.length (stepR E PS) O (i + 1)) := lotP_congr fun a ha => by
  constructor
  · rintro ⟨⟨b, bn, fb, nr⟩, o⟩
    exact ⟨ha, o, b, fb, q, hq, nr⟩
  · rintro ⟨_, o, b, fb, q', hq', nr⟩
    rw [hq] at hq'
    cases hq'
    have bn : b < n := by
      cases i with
      | zero => exact fb.1
      | succ i => exact fb.1
    exact ⟨⟨b, bn, fb, nr⟩, o⟩
theorem back_zero {n m : Nat} {R : Nat → Nat → Nat → Prop} {O : Nat → Nat → Prop} : lotP n (O m) = lotP n (BackP n m R O 0) := lotP_congr fun b hb => ⟨fun h => ⟨hb, h⟩, fun h => h.2⟩
/-- a row of lots that grows at its end -/
theorem grow_lots {n : Nat} {H : Hp} {f t : Addr} {vs : List Addr} {xs : List V} {p : Nat → Nat → Prop} (hf : H f = some (.lst xs)) (rv : ∀ (k : Nat) (u : Addr), vs[k]? = some u → H u = some (.tup ((lotP n (p k)).map vI))) (ht : H t = some (.tup ((lotP n (p vs.length)).map vI))) {ys : List V} :
    ∀ (k : Nat) (u : Addr), (vs ++ [t])[k]? = some u → (upd H f (.lst ys)) u = some (.tup ((lotP n (p k)).map vI)) := fun k u e => by
  by_cases hk : k < vs.length
  · rw [List.getElem?_append_left hk] at e
    have g := rv k u e
    rw [upd_ne (ne_of g hf (by intro z; cases z))]
    exact g
  · rw [List.getElem?_append_right (by omega)] at e
    have ek : k = vs.length := by
      obtain ⟨h1, _⟩ := List.getElem?_eq_some_iff.mp e
      have h1 : k - vs.length < 1 := h1
      omega
    rw [ek, Nat.sub_self] at e
    cases e
    rw [upd_ne (ne_of ht hf (by intro z; cases z)), ek]
    exact ht
section
variable {P : Program} {w : World} {K : PySem.W.Frag} {mg : Str → Option Value} {base : Heap}
def spProgBack (K : PySem.W.Frag) : Sp := fun vs H Q _ => ∃ (c x s : Addr) (n : Nat) (E : List (Nat × Nat)) (M : Nat → Nat → Nat) (p : Nat → Prop) (PS : List (Addr × List Nat)) (SN : List (Addr × V × Triple)), vs = [.ref x, .ref s] ∧ BoardAt K c H x n E ∧ Spans n E M ∧ StoryAt n H s p PS SN ∧ (∃ a, a < n ∧ p a) ∧
  ∀ H' l, LotsAt n H' l (PS.length + 1) (fun i => BackP n PS.length (stepR E PS) (openP M SN) (PS.length - i)) → H l = none → Same H H' → Q (.ref l) H'
end
end RL
namespace RL
open PySem PySem.Spec PyProof.Rows L2 RLM
/-- the lots known -/
def KnownP (n : Nat) (p : Nat → Prop) (E : List (Nat × Nat)) (PS : List (Addr × List Nat)) (O : Nat → Nat → Prop) (i b : Nat) : Prop := ForthP n p (stepR E PS) O i b ∧ BackP n PS.length (stepR E PS) O (PS.length - i) b
/-- what a list of refs to lots is, from what each is -/
theorem lots_of {n m : Nat} {H : Hp} {D : Addr} {ys : List V} {p : Nat → Nat → Prop} (h : H D = some (.lst ys)) (l : ys.length = m) (hy : ∀ k y, ys[k]? = some y → ∃ t : Addr, y = .ref t ∧ H t = some (.tup ((lotP n (p k)).map vI))) : LotsAt n H D m p := by
  obtain ⟨us, lu, hu⟩ := beside (R := fun k y (t : Addr) => y = .ref t ∧ H t = some (.tup ((lotP n (p k)).map vI))) ys 0 fun k y e => by
    rw [Nat.zero_add]
    exact hy k y e
  have e : ys = us.map V.ref := ys_of lu fun k y a e1 e2 => (hu k y a e1 e2).1
  refine ⟨⟨us, by rw [h, e], by omega, fun i u eu => ?_⟩⟩
  have yi : ys[i]? = some (ys[i]'(by have := (List.getElem?_eq_some_iff.mp eu).1; omega)) := List.getElem?_eq_getElem _
  have := (hu i _ u yi eu).2
  rw [Nat.zero_add] at this
  exact this
section
variable {P : Program} {w : World} {K : PySem.W.Frag} {mg : Str → Option Value} {base : Heap}
/-- [meet(a, b) for a, b in zip(xs, ys)] of two rows of lots: what is in both -/
theorem zip_both {n m : Nat} {H : Hp} {a b D : Addr} {p q : Nat → Nat → Prop} {g : TG} {te : TE} {vs : List Nat} {σ : L2.St} {Qd : Hp → Prop} (ha : LotsAt n H a m p) (hb : LotsAt n H b m q) (m13 : m ≤ 13) (hD : H D = none)
    (hs : ∀ (i : Nat) (H1 H2 : Hp) (u v T1 : Addr) (Nx : V → Hp → Prop), Same H H1 → Same H1 H2 → H2 T1 = some (.tup [.ref u, .ref v]) → H2 u = some (.tup ((lotP n (p i)).map vI)) → H2 v = some (.tup ((lotP n (q i)).map vI)) → (∀ H4 t, H4 t = some (.tup ((lotP n fun b => p i b ∧ q i b).map vI)) → Same H2 H4 → Nx (.ref t) H4) →
      g (.ref T1) (wipe σ vs) H2 fun σ2 H3 => wipe σ2 vs = wipe σ vs ∧ te σ2 H3 Nx)
    (hd : ∀ H1, LotsAt n H1 D m (fun i b => p i b ∧ q i b) → Same H H1 → Qd H1) :
    ∃ W : Nat → Nat → Hp → Prop, (∃ m, W 0 m (upd H D (.lst []))) ∧ ∀ i m H, W i m H →
      ((Itzh false false K a b).stop i H ∧ Qd H) ∨ ((Itzh false false K a b).go i H ∧ ∃ Nx : Hp → Prop, (∀ H', Nx H' → ∃ m', m' < m ∧ W (i + 1) m' H') ∧ ∀ x H', (Itzh false false K a b).yld i H x H' → g x (wipe σ vs) H' fun σ2 H2 => wipe σ2 vs = wipe σ vs ∧ tYes σ2 H2 fun b H3 =>
        if b = true then te σ2 H3 fun y H4 => ∃ acc, H4 D = some (.lst acc) ∧ acc.length < sizeLine ∧ Nx (upd H4 D (.lst (acc ++ [y]))) else Nx H3) := by
  obtain ⟨us, h1, l1, r1⟩ := ha.ex
  obtain ⟨ws, h2, l2, r2⟩ := hb.ex
  refine lc_rel (walk_zh (u1 := false) (u2 := false) (K := K) (a := a) (b := b) (xs := us.map V.ref) (ys := ws.map V.ref) (n := m) (by simp [l1, l2])) (fun k v H' => ∃ t : Addr, v = .ref t ∧ H' t = some (.tup ((lotP n fun b => p k b ∧ q k b).map vI))) (by omega) hD (fun k v Ha Hb ⟨t, e, h'⟩ tk => ⟨t, e, tk _ _ h'⟩) (fun H1 s1 => ⟨SqL.of (s1 _ _ h1), SqL.of (s1 _ _ h2)⟩) ?_ ?_
  · rintro i x H1 H2 Nx hi s1 ⟨T1, y1, y2, rfl, hT, rfl, e1, e2⟩ k
    obtain ⟨u, hu, rfl⟩ := get_mapV (show (us.map V.ref)[i]? = some y1 from e1)
    obtain ⟨v, hv, rfl⟩ := get_mapV (show (ws.map V.ref)[i]? = some y2 from e2)
    have s2 : Same H1 (upd H1 T1 (.tup [.ref u, .ref v])) := same_upd hT
    exact hs i H1 _ u v T1 Nx s1 s2 upd_same (s2 _ _ (s1 _ _ (r1 i u hu))) (s2 _ _ (s1 _ _ (r2 i v hv))) fun H4 t ht s4 => k _ _ ⟨t, rfl, ht⟩ (s2.trans s4)
  · intro H1 ys h3 l3 hy s1
    exact hd H1 (lots_of h3 l3 hy) s1
def spKnown (K : PySem.W.Frag) : Sp := fun vs H Q _ => ∃ (c x s : Addr) (n : Nat) (E : List (Nat × Nat)) (M : Nat → Nat → Nat) (p : Nat → Prop) (PS : List (Addr × List Nat)) (SN : List (Addr × V × Triple)), vs = [.ref x, .ref s] ∧ BoardAt K c H x n E ∧ Spans n E M ∧ StoryAt n H s p PS SN ∧ (∃ a, a < n ∧ p a) ∧
  ∀ H' l, LotsAt n H' l (PS.length + 1) (KnownP n p E PS (openP M SN)) → H l = none → Same H H' → Q (.ref l) H'
end
end RL
namespace RL
open PySem PySem.Spec PyProof.Rows L2 RLM
/-- what lets a walk be that is in this place at this beat -/
def atP (O : Nat → Nat → Prop) (i b : Nat) : Nat → Nat → Prop := fun j c => O j c ∧ (j = i → c = b)
theorem tail_at {n m : Nat} {R : Nat → Nat → Nat → Prop} {O : Nat → Nat → Prop} {i b : Nat} {k a : Nat} {w : List Nat} : Tail n m R (atP O i b) k a w ↔ Tail n m R O k a w ∧ ∀ j c, w[j]? = some c → k + 1 + j = i → c = b := by
  constructor
  · intro h
    induction h with
    | stop a => exact ⟨.stop a, fun j c e => by simp at e⟩
    | @go k a d w hi hb r o t ih =>
      refine ⟨.go hi hb r o.1 ih.1, fun j c e => ?_⟩
      cases j with
      | zero =>
        have : d = c := by simpa using e
        subst this
        intro z
        exact o.2 (by omega)
      | succ j =>
        intro z
        exact ih.2 j c (by simpa using e) (by omega)
  · rintro ⟨h, h2⟩
    induction h with
    | stop a => exact .stop a
    | @go k a d w hi hb r o t ih =>
      exact .go hi hb r ⟨o, fun z => h2 0 d rfl (by omega)⟩ (ih fun j c e z => h2 (j + 1) c (by simpa using e) (by omega))
theorem fit_at {n m : Nat} {S : Nat → Prop} {R : Nat → Nat → Nat → Prop} {O : Nat → Nat → Prop} {i b : Nat} {w : List Nat} (hi : i ≤ m) : Fit n m S R (atP O i b) w ↔ Fit n m S R O w ∧ w[i]? = some b := by
  cases w with
  | nil => exact ⟨fun h => h.elim, fun h => h.1.elim⟩
  | cons a w =>
    show (a < n ∧ S a ∧ atP O i b 0 a ∧ Tail n m R (atP O i b) 0 a w) ↔ (a < n ∧ S a ∧ O 0 a ∧ Tail n m R O 0 a w) ∧ _
    rw [tail_at]
    constructor
    · rintro ⟨h1, h2, h3, h4, h5⟩
      refine ⟨⟨h1, h2, h3.1, h4⟩, ?_⟩
      cases i with
      | zero => rw [h3.2 rfl]; rfl
      | succ i =>
        have l := h4.len
        have e : w[i]? = some (w[i]'(by omega)) := List.getElem?_eq_getElem _
        show w[i]? = _
        rw [e, h5 i _ e (by omega)]
    · rintro ⟨⟨h1, h2, h3, h4⟩, h5⟩
      refine ⟨h1, h2, ⟨h3, fun z => ?_⟩, h4, fun j c e z => ?_⟩
      · rw [← z] at h5
        simpa using h5
      · rw [← z, show 0 + 1 + j = j + 1 by omega] at h5
        have h5 : w[j]? = some b := h5
        rw [e] at h5
        cases h5
        rfl
/-- some walk that fits is there just where the place is known -/
theorem at_known {n : Nat} {p : Nat → Prop} {E : List (Nat × Nat)} {PS : List (Addr × List Nat)} {O : Nat → Nat → Prop} {i b : Nat} (hi : i ≤ PS.length) : walks n PS.length p (stepR E PS) (atP O i b) ≠ [] ↔ KnownP n p E PS O i b := by
  unfold KnownP
  rw [← known_iff hi]
  constructor
  · intro h
    obtain ⟨w, ws, e⟩ := List.exists_cons_of_ne_nil h
    have hw : w ∈ walks n PS.length p (stepR E PS) (atP O i b) := by rw [e]; simp
    exact ⟨w, (fit_at hi).1 (mem_walks.1 hw)⟩
  · rintro ⟨w, hw⟩ e
    have := mem_walks.2 ((fit_at (S := p) hi).2 hw)
    rw [e] at this
    cases this
section
variable {P : Program} {w : World} {K : PySem.W.Frag} {mg : Str → Option Value} {base : Heap}
def spCheckBeat : Sp := fun vs H Q _ => ∃ (s : Addr) (n i : Nat) (p : Nat → Prop) (PS : List (Addr × List Nat)) (SN : List (Addr × V × Triple)), vs = [.ref s, vI i] ∧ StoryAt n H s p PS SN ∧ i ≤ PS.length ∧ Q .non H
def spWalkBy (K : PySem.W.Frag) : Sp := fun vs H Q _ => ∃ (c x s : Addr) (n i b : Nat) (E : List (Nat × Nat)) (M : Nat → Nat → Nat) (p : Nat → Prop) (PS : List (Addr × List Nat)) (SN : List (Addr × V × Triple)), vs = [.ref x, .ref s, vI i, vI b] ∧ BoardAt K c H x n E ∧ Spans n E M ∧ StoryAt n H s p PS SN ∧ (∃ a, a < n ∧ p a) ∧ i ≤ PS.length ∧ b < n ∧
  (walks n PS.length p (stepR E PS) (atP (openP M SN) i b) = [] → ∀ H', Same H H' → Q .non H') ∧
  ∀ H' t ws, H' t = some (.tup (ws.map vI)) → (walks n PS.length p (stepR E PS) (atP (openP M SN) i b))[0]? = some ws → Same H H' → Q (.ref t) H'
end
end RL
/-! Places called otherwise. Plain mathematics. -/
namespace RLM
/-- places called otherwise -/
structure Calls (n : Nat) (f : Nat → Nat) : Prop where
  lt : ∀ {a}, a < n → f a < n
  inj : ∀ {a b}, a < n → b < n → f a = f b → a = b
  sur : ∀ {b}, b < n → ∃ a, a < n ∧ f a = b
variable {n m : Nat} {f : Nat → Nat} {S S' : Nat → Prop} {R R' : Nat → Nat → Nat → Prop} {O O' : Nat → Nat → Prop} {c c' : Nat → Nat → Nat}
theorem map_inj_on (C : Calls n f) : ∀ {v w : List Nat}, (∀ a ∈ v, a < n) → (∀ a ∈ w, a < n) → v.map f = w.map f → v = w
  | [], [], _, _, _ => rfl
  | [], _ :: _, _, _, h => by cases h
  | _ :: _, [], _, _, h => by cases h
  | a :: v, b :: w, hv, hw, h => by
    have h := List.cons.inj h
    rw [C.inj (hv a (by simp)) (hw b (by simp)) h.1, map_inj_on C (fun x hx => hv x (by simp [hx])) (fun x hx => hw x (by simp [hx])) h.2]
theorem map_sur (C : Calls n f) : ∀ {w : List Nat}, (∀ b ∈ w, b < n) → ∃ v : List Nat, v.map f = w ∧ ∀ a ∈ v, a < n
  | [], _ => ⟨[], rfl, fun a h => by cases h⟩
  | b :: w, h => by
    obtain ⟨a, an, e⟩ := C.sur (h b (by simp))
    obtain ⟨v, ev, vn⟩ := map_sur C (w := w) fun x hx => h x (by simp [hx])
    exact ⟨a :: v, by rw [List.map_cons, e, ev], fun x hx => by
      rcases List.mem_cons.mp hx with z | z
      · rw [z]; exact an
      · exact vn x z⟩
theorem goes_lt : ∀ {i : Nat} {w : List Nat}, Goes n S R i w → ∀ b ∈ w, b < n
  | 0, w, ⟨a, an, _, e⟩, b, hb => by
    subst e
    rw [List.mem_singleton.mp hb]; exact an
  | i + 1, w, ⟨v, a, g, an, _, e⟩, b, hb => by
    subst e
    rcases List.mem_append.mp hb with z | z
    · exact goes_lt g b z
    · rw [List.mem_singleton.mp z]; exact an
theorem getLast_map {v : List Nat} (h : v ≠ []) : (v.map f).getLastD 0 = f (v.getLastD 0) := by
  rw [List.getLastD_eq_getLast?, List.getLastD_eq_getLast?, List.getLast?_map]
  cases e : v.getLast? with
  | none => exact absurd (List.getLast?_eq_none_iff.mp e) h
  | some a => rfl
theorem goes_ren (C : Calls n f) (hS : ∀ a, a < n → (S' (f a) ↔ S a)) (hR : ∀ i a b, a < n → b < n → (R' i (f a) (f b) ↔ R i a b)) : ∀ {i : Nat} {w : List Nat}, (∀ b ∈ w, b < n) → (Goes n S' R' i (w.map f) ↔ Goes n S R i w)
  | 0, w, wn => by
    constructor
    · rintro ⟨a, an, s, e⟩
      match w, e with
      | [b], e =>
        have e : f b = a := by simpa using e
        subst e
        exact ⟨b, wn b (by simp), (hS b (wn b (by simp))).1 s, rfl⟩
    · rintro ⟨a, an, s, rfl⟩
      exact ⟨f a, C.lt an, (hS a an).2 s, rfl⟩
  | i + 1, w, wn => by
    constructor
    · rintro ⟨v', b', g, bn, r, e⟩
      rcases List.eq_nil_or_concat w with z | ⟨v, b, z⟩
      · subst z
        have := congrArg List.length e
        simp at this
      · rw [List.concat_eq_append] at z
        subst z
        rw [List.map_append] at e
        obtain ⟨e1, e2⟩ := List.append_inj' e rfl
        have e2 : f b = b' := by simpa using e2
        subst e1 e2
        have vn : ∀ x ∈ v, x < n := fun x hx => wn x (List.mem_append_left _ hx)
        have bn' := wn b (by simp)
        have g' := (goes_ren C hS hR vn).1 g
        have lv := g'.len
        have nev : v ≠ [] := fun e => by rw [e] at lv; simp at lv
        rw [getLast_map nev] at r
        have ln : v.getLastD 0 < n := vn _ (by
          rw [List.getLastD_eq_getLast?]
          cases e : v.getLast? with
          | none => exact absurd (List.getLast?_eq_none_iff.mp e) nev
          | some a => exact List.mem_of_getLast? e)
        exact ⟨v, b, g', bn', (hR i _ _ ln bn').1 r, rfl⟩
    · rintro ⟨v, b, g, bn, r, rfl⟩
      have vn : ∀ x ∈ v, x < n := fun x hx => wn x (List.mem_append_left _ hx)
      have lv := g.len
      have nev : v ≠ [] := fun e => by rw [e] at lv; simp at lv
      have ln : v.getLastD 0 < n := vn _ (by
        rw [List.getLastD_eq_getLast?]
        cases e : v.getLast? with
        | none => exact absurd (List.getLast?_eq_none_iff.mp e) nev
        | some a => exact List.mem_of_getLast? e)
      refine ⟨v.map f, f b, (goes_ren C hS hR vn).2 g, C.lt bn, ?_, by rw [List.map_append]; rfl⟩
      rw [getLast_map nev]
      exact (hR i _ _ ln bn).2 r
theorem fit_lt {w : List Nat} (h : Fit n m S R O w) : ∀ b ∈ w, b < n := goes_lt (fit_iff.1 h).1
theorem fit_ren (C : Calls n f) (hS : ∀ a, a < n → (S' (f a) ↔ S a)) (hR : ∀ i a b, a < n → b < n → (R' i (f a) (f b) ↔ R i a b)) (hO : ∀ i b, b < n → (O' i (f b) ↔ O i b)) {w : List Nat} (wn : ∀ b ∈ w, b < n) : Fit n m S' R' O' (w.map f) ↔ Fit n m S R O w := by
  rw [fit_iff, fit_iff, goes_ren C hS hR wn]
  refine and_congr_right fun _ => ?_
  constructor
  · intro h j b e
    have := h j (f b) (by rw [List.getElem?_map, e]; rfl)
    exact (hO j b (wn b (List.mem_of_getElem? e))).1 this
  · intro h j b' e
    rw [List.getElem?_map] at e
    cases e2 : w[j]? with
    | none => rw [e2] at e; cases e
    | some b =>
      rw [e2] at e
      have : f b = b' := Option.some.inj e
      subst this
      exact (hO j b (wn b (List.mem_of_getElem? e2))).2 (h j b e2)
/-- all walks there are walks from here -/
theorem fit_all (C : Calls n f) (hS : ∀ a, a < n → (S' (f a) ↔ S a)) (hR : ∀ i a b, a < n → b < n → (R' i (f a) (f b) ↔ R i a b)) (hO : ∀ i b, b < n → (O' i (f b) ↔ O i b)) {w' : List Nat} (h : Fit n m S' R' O' w') : ∃ w : List Nat, w.map f = w' ∧ Fit n m S R O w := by
  obtain ⟨w, e, wn⟩ := map_sur C (fit_lt h)
  refine ⟨w, e, (fit_ren C hS hR hO wn).1 (by rw [e]; exact h)⟩
theorem forth_ren (C : Calls n f) (hS : ∀ a, a < n → (S' (f a) ↔ S a)) (hR : ∀ i a b, a < n → b < n → (R' i (f a) (f b) ↔ R i a b)) (hO : ∀ i b, b < n → (O' i (f b) ↔ O i b)) : ∀ {i b : Nat}, b < n → (ForthP n S' R' O' i (f b) ↔ ForthP n S R O i b)
  | 0, b, bn => by
    show _ ∧ _ ∧ _ ↔ _ ∧ _ ∧ _
    rw [hS b bn, hO 0 b bn]
    exact ⟨fun z => ⟨bn, z.2⟩, fun z => ⟨C.lt bn, z.2⟩⟩
  | i + 1, b, bn => by
    show _ ∧ _ ∧ _ ↔ _ ∧ _ ∧ _
    rw [hO (i + 1) b bn]
    constructor
    · rintro ⟨_, o, a', fa, r⟩
      obtain ⟨a, an, e⟩ := C.sur fa.lt
      subst e
      exact ⟨bn, o, a, (forth_ren C hS hR hO an).1 fa, (hR i a b an bn).1 r⟩
    · rintro ⟨_, o, a, fa, r⟩
      exact ⟨C.lt bn, o, f a, (forth_ren C hS hR hO fa.lt).2 fa, (hR i a b fa.lt bn).2 r⟩
theorem back_ren (C : Calls n f) (hR : ∀ i a b, a < n → b < n → (R' i (f a) (f b) ↔ R i a b)) (hO : ∀ i b, b < n → (O' i (f b) ↔ O i b)) : ∀ {k b : Nat}, b < n → (BackP n m R' O' k (f b) ↔ BackP n m R O k b)
  | 0, b, bn => by
    show _ ∧ _ ↔ _ ∧ _
    rw [hO m b bn]
    exact ⟨fun z => ⟨bn, z.2⟩, fun z => ⟨C.lt bn, z.2⟩⟩
  | k + 1, b, bn => by
    show _ ∧ _ ∧ _ ↔ _ ∧ _ ∧ _
    rw [hO _ b bn]
    constructor
    · rintro ⟨_, o, a', fa, r⟩
      obtain ⟨a, an, e⟩ := C.sur fa.lt
      subst e
      exact ⟨bn, o, a, (back_ren C hR hO an).1 fa, (hR _ b a bn an).1 r⟩
    · rintro ⟨_, o, a, fa, r⟩
      exact ⟨C.lt bn, o, f a, (back_ren C hR hO fa.lt).2 fa, (hR _ b a bn fa.lt).2 r⟩
theorem sub_len {α : Type} [DecidableEq α] : ∀ {xs ys : List α}, xs.Nodup → (∀ x ∈ xs, x ∈ ys) → xs.length ≤ ys.length
  | [], _, _, _ => Nat.zero_le _
  | x :: xs, ys, nd, h => by
    have nd' := List.nodup_cons.mp nd
    have := sub_len (ys := ys.erase x) nd'.2 fun y hy => (List.mem_erase_of_ne (show y ≠ x from fun e => nd'.1 (e ▸ hy))).2 (h y (by simp [hy]))
    rw [List.length_erase, if_pos (h x (by simp))] at this
    have pos : 0 < ys.length := List.length_pos_of_mem (h x (by simp))
    rw [List.length_cons]
    omega
theorem walks_ren (C : Calls n f) (hS : ∀ a, a < n → (S' (f a) ↔ S a)) (hR : ∀ i a b, a < n → b < n → (R' i (f a) (f b) ↔ R i a b)) (hO : ∀ i b, b < n → (O' i (f b) ↔ O i b)) : (walks n m S' R' O').length = (walks n m S R O).length := by
  have nd : ((walks n m S R O).map (List.map f)).Nodup := by
    rw [List.nodup_iff_pairwise_ne, List.pairwise_map]
    have h1 : (walks n m S R O).Pairwise (· ≠ ·) := List.nodup_iff_pairwise_ne.mp (sorted_nodup walks_sorted)
    refine List.Pairwise.imp_of_mem (fun {a b} ha hb ne e => ne ?_) h1
    exact map_inj_on C (fit_lt (mem_walks.1 ha)) (fit_lt (mem_walks.1 hb)) e
  have h1 := sub_len (ys := walks n m S' R' O') nd fun w' hw => by
    obtain ⟨w, hw, e⟩ := List.mem_map.mp hw
    rw [← e]
    have fw := mem_walks.1 hw
    exact mem_walks.2 ((fit_ren C hS hR hO (fit_lt fw)).2 fw)
  have h2 := sub_len (ys := (walks n m S R O).map (List.map f)) (sorted_nodup (walks_sorted (n := n) (m := m) (S := S') (R := R') (O := O'))) fun w' hw => by
    obtain ⟨w, e, fw⟩ := fit_all C hS hR hO (mem_walks.1 hw)
    exact List.mem_map.mpr ⟨w, mem_walks.2 fw, e⟩
  rw [List.length_map] at h1 h2
  omega
theorem costT_ren (hc : ∀ i b, b < n → c' i (f b) = c i b) : ∀ (w : List Nat) (i : Nat), (∀ b ∈ w, b < n) → costT c' i (w.map f) = costT c i w
  | [], _, _ => rfl
  | b :: w, i, wn => by
    show c' (i + 1) (f b) + costT c' (i + 1) (w.map f) = c (i + 1) b + costT c (i + 1) w
    rw [hc _ b (wn b (by simp)), costT_ren hc w (i + 1) fun x hx => wn x (by simp [hx])]
theorem costW_ren (hc : ∀ i b, b < n → c' i (f b) = c i b) {w : List Nat} (wn : ∀ b ∈ w, b < n) : costW c' (w.map f) = costW c w := by
  cases w with
  | nil => rfl
  | cons a w =>
    show c' 0 (f a) + costT c' 0 (w.map f) = c 0 a + costT c 0 w
    rw [hc _ a (wn a (by simp)), costT_ren hc w 0 fun x hx => wn x (by simp [hx])]
end RLM
/-! What the program tells of a place, as data, and how it is shown. -/
namespace RL
open PySem PySem.Spec PyProof.Rows L2 RLM
/-- numbers, as a tuple -/
def numD (xs : List Nat) : PyData := .tuple ((xs.map nI).map PyData.int)
theorem num_text : ∀ z : Nat, z < 8 → (PyData.shown (.int (nI z))).length ≤ 1 ∧ PyData.showable (.int (nI z)) = true := by
  decide +kernel
theorem ints_shown : ∀ {xs : List Nat}, (∀ z ∈ xs, z < 8) → ((PyData.shownAll ((xs.map nI).map PyData.int)).map (·.length)).sum ≤ xs.length ∧ PyData.showableAll ((xs.map nI).map PyData.int) = true ∧ PyData.hasDictAll ((xs.map nI).map PyData.int) = false ∧ PyData.depthAll ((xs.map nI).map PyData.int) = 0 ∧ (PyData.shownAll ((xs.map nI).map PyData.int)).length = xs.length
  | [], _ => by simp [PyData.shownAll, PyData.showableAll, PyData.hasDictAll, PyData.depthAll]
  | x :: xs, h => by
    obtain ⟨h1, h2, h3, h4, h5⟩ := ints_shown (xs := xs) fun z hz => h z (by simp [hz])
    obtain ⟨n1, n2⟩ := num_text x (h x (by simp))
    simp only [List.map_cons, PyData.shownAll, PyData.showableAll, PyData.hasDictAll, PyData.depthAll, List.sum_cons, List.length_cons]
    refine ⟨by omega, by rw [n2, h2]; rfl, by rw [h3]; rfl, by rw [h4]; rfl, by rw [h5]⟩
/-- how it is with a lot's text -/
theorem num_shown {xs : List Nat} (h : ∀ z ∈ xs, z < 8) (l : xs.length ≤ 13) : (numD xs).shown.length ≤ 100 ∧ (numD xs).showable = true ∧ (numD xs).hasDict = false ∧ (numD xs).depth = 1 := by
  obtain ⟨h1, h2, h3, h4, h5⟩ := ints_shown h
  have := tupleText_len_le (PyData.shownAll ((xs.map nI).map PyData.int))
  unfold numD
  simp only [PyData.shown, PyData.showable, PyData.hasDict, PyData.depth]
  exact ⟨by omega, h2, h3, by rw [h4]⟩
theorem nums_shown : ∀ {xss : List (List Nat)}, (∀ xs ∈ xss, (∀ z ∈ xs, z < 8) ∧ xs.length ≤ 13) → ((PyData.shownAll (xss.map numD)).map (·.length)).sum ≤ 100 * xss.length ∧ PyData.showableAll (xss.map numD) = true ∧ PyData.hasDictAll (xss.map numD) = false ∧ PyData.depthAll (xss.map numD) ≤ 1 ∧ (PyData.shownAll (xss.map numD)).length = xss.length
  | [], _ => by simp [PyData.shownAll, PyData.showableAll, PyData.hasDictAll, PyData.depthAll]
  | xs :: xss, h => by
    obtain ⟨h1, h2, h3, h4, h5⟩ := nums_shown (xss := xss) fun z hz => h z (by simp [hz])
    obtain ⟨n1, n2, n3, n4⟩ := num_shown (h xs (by simp)).1 (h xs (by simp)).2
    simp only [List.map_cons, PyData.shownAll, PyData.showableAll, PyData.hasDictAll, PyData.depthAll, List.sum_cons, List.length_cons]
    refine ⟨by omega, by rw [n2, h2]; rfl, by rw [n3, h3]; rfl, by rw [n4]; omega, by rw [h5]⟩
section
variable {n i b : Nat} {p : Nat → Prop} {E : List (Nat × Nat)} {PS : List (Addr × List Nat)} {O : Nat → Nat → Prop} {K : PySem.W.Frag} {H H' : Hp} {t : Addr}
/-- what the program tells, as data -/
noncomputable def toldD (n i b : Nat) (p : Nat → Prop) (E : List (Nat × Nat)) (PS : List (Addr × List Nat)) (O : Nat → Nat → Prop) : PyData :=
  if decB (KnownP n p E PS O i b) = true then .tuple [.str "walk", numD ((walks n PS.length p (stepR E PS) (atP O i b))[0]?.getD [])]
  else if decB (ForthP n p (stepR E PS) O i b) = true then .tuple [.str "behind", .list (((List.range (PS.length + 1 - i)).map fun k => lotP n (BackP n PS.length (stepR E PS) O (PS.length - (i + k)))).map numD)]
  else .tuple [.str "ahead", .list (((List.range (i + 1)).map fun k => lotP n (ForthP n p (stepR E PS) O k)).map numD)]
inductive ToldAt (n i b : Nat) (p : Nat → Prop) (E : List (Nat × Nat)) (PS : List (Addr × List Nat)) (O : Nat → Nat → Prop) (H : Hp) (t : Addr) : Prop
  | walk (tw : Addr) (ws : List Nat) : H t = some (.tup [.str "walk", .ref tw]) → H tw = some (.tup (ws.map vI)) → Fit n PS.length p (stepR E PS) O ws → ws[i]? = some b → (walks n PS.length p (stepR E PS) (atP O i b))[0]? = some ws → ToldAt n i b p E PS O H t
  | ahead (l : Addr) : H t = some (.tup [.str "ahead", .ref l]) → LotsAt n H l (i + 1) (ForthP n p (stepR E PS) O) → ¬ KnownP n p E PS O i b → ¬ ForthP n p (stepR E PS) O i b → ToldAt n i b p E PS O H t
  | behind (l : Addr) : H t = some (.tup [.str "behind", .ref l]) → LotsAt n H l (PS.length + 1 - i) (fun k => BackP n PS.length (stepR E PS) O (PS.length - (i + k))) → ¬ KnownP n p E PS O i b → ForthP n p (stepR E PS) O i b → ToldAt n i b p E PS O H t
theorem ToldAt.same (s : Same H H') (h : ToldAt n i b p E PS O H t) : ToldAt n i b p E PS O H' t := by
  cases h with
  | walk tw ws h1 h2 h3 h4 h5 => exact .walk tw ws (s _ _ h1) (s _ _ h2) h3 h4 h5
  | ahead l h1 h2 h3 h4 => exact .ahead l (s _ _ h1) (h2.same s) h3 h4
  | behind l h1 h2 h3 h4 => exact .behind l (s _ _ h1) (h2.same s) h3 h4
theorem ToldAt.dp (hi : i ≤ PS.length) (h : ToldAt n i b p E PS O H t) : Dp K H (.ref t) (toldD n i b p E PS O) := by
  unfold toldD
  cases h with
  | walk tw ws h1 h2 h3 h4 h5 =>
    have kn : KnownP n p E PS O i b := (known_iff hi).1 ⟨ws, h3, h4⟩
    rw [if_pos (decB_true.mpr kn), h5]
    exact .tup (SqT.of h1) (.cons (.str _) (.cons (dp_lot h2) .nil))
  | ahead l h1 h2 h3 h4 =>
    rw [if_neg (fun z => h3 (decB_true.mp z)), if_neg (fun z => h4 (decB_true.mp z))]
    refine .tup (SqT.of h1) (.cons (.str _) (.cons ?_ .nil))
    have := dp_lots (K := K) h2
    rw [List.map_map] at this ⊢
    exact this
  | behind l h1 h2 h3 h4 =>
    rw [if_neg (fun z => h3 (decB_true.mp z)), if_pos (decB_true.mpr h4)]
    refine .tup (SqT.of h1) (.cons (.str _) (.cons ?_ .nil))
    have := dp_lots (K := K) h2
    rw [List.map_map] at this ⊢
    exact this
theorem two_shown {s : Str} {d : PyData} (ls : (reprText s).length ≤ 20) (l : d.shown.length ≤ 2000) (h1 : d.showable = true) (h2 : d.hasDict = false) (h3 : d.depth ≤ 2) : (PyData.tuple [.str s, d]).showable = true ∧ (PyData.tuple [.str s, d]).hasDict = false ∧ (PyData.tuple [.str s, d]).depth ≤ 60 ∧ (PyData.tuple [.str s, d]).shown.length ≤ sizeLine := by
  have := tupleText_len_le (PyData.shownAll [.str s, d])
  simp only [PyData.shownAll, PyData.shown, List.map_cons, List.map_nil, List.sum_cons, List.sum_nil, List.length_cons, List.length_nil] at this
  simp only [PyData.showable, PyData.showableAll, PyData.hasDict, PyData.hasDictAll, PyData.depth, PyData.depthAll, PyData.shown, PyData.shownAll]
  refine ⟨by rw [h1]; rfl, by rw [h2]; rfl, by omega, Nat.le_trans (show _ ≤ 2500 by omega) (by decide)⟩
theorem rows_shown {m : Nat} {q : Nat → Nat → Prop} (n8 : n ≤ 8) (m13 : m ≤ 13) : (PyData.list (((List.range m).map fun k => lotP n (q k)).map numD)).shown.length ≤ 2000 ∧ (PyData.list (((List.range m).map fun k => lotP n (q k)).map numD)).showable = true ∧ (PyData.list (((List.range m).map fun k => lotP n (q k)).map numD)).hasDict = false ∧ (PyData.list (((List.range m).map fun k => lotP n (q k)).map numD)).depth ≤ 2 := by
  obtain ⟨h1, h2, h3, h4, h5⟩ := nums_shown (xss := (List.range m).map fun k => lotP n (q k)) fun xs hx => by
    obtain ⟨k, _, rfl⟩ := List.mem_map.mp hx
    have := lotP_len n (q k)
    exact ⟨fun z hz => Nat.lt_of_lt_of_le (mem_lotP.mp hz).1 n8, by omega⟩
  have := listText_len_le (PyData.shownAll (((List.range m).map fun k => lotP n (q k)).map numD))
  rw [List.length_map, List.length_range] at h1 h5
  simp only [PyData.showable, PyData.hasDict, PyData.depth, PyData.shown]
  exact ⟨by omega, h2, h3, by omega⟩
theorem toldD_ok (n8 : n ≤ 8) (hi : i ≤ PS.length) (lp : PS.length ≤ 12) : (toldD n i b p E PS O).showable = true ∧ (toldD n i b p E PS O).hasDict = false ∧ (toldD n i b p E PS O).depth ≤ 60 ∧ (toldD n i b p E PS O).shown.length ≤ sizeLine := by
  unfold toldD
  split
  · have hw : ∀ z ∈ ((walks n PS.length p (stepR E PS) (atP O i b))[0]?.getD []), z < 8 := fun z hz => by
      cases e : (walks n PS.length p (stepR E PS) (atP O i b))[0]? with
      | none => rw [e] at hz; cases hz
      | some ws =>
        rw [e] at hz
        have f := mem_walks.1 (List.mem_of_getElem? e)
        exact Nat.lt_of_lt_of_le (fit_lt f z hz) n8
    have hl : ((walks n PS.length p (stepR E PS) (atP O i b))[0]?.getD []).length ≤ 13 := by
      cases e : (walks n PS.length p (stepR E PS) (atP O i b))[0]? with
      | none => exact Nat.zero_le _
      | some ws =>
        have f := (mem_walks.1 (List.mem_of_getElem? e)).len
        show ws.length ≤ 13
        omega
    obtain ⟨h1, h2, h3, h4⟩ := num_shown hw hl
    exact two_shown (by decide +kernel) (by omega) h2 h3 (by omega)
  · split
    · obtain ⟨h1, h2, h3, h4⟩ := rows_shown (m := PS.length + 1 - i) (q := fun k => BackP n PS.length (stepR E PS) O (PS.length - (i + k))) n8 (by omega)
      exact two_shown (by decide +kernel) h1 h2 h3 h4
    · obtain ⟨h1, h2, h3, h4⟩ := rows_shown (m := i + 1) (q := fun k => ForthP n p (stepR E PS) O k) n8 (by omega)
      exact two_shown (by decide +kernel) h1 h2 h3 h4
end
end RL
/-! rows of lots bent -/
namespace RL
open PySem PySem.Spec PyProof.Rows L2 RLM
abbrev SB (b l : Addr) (n at_ pl : Nat) (ul : Addr) (hw : Nat) : L2.St := [some (.ref b), some (.ref l), some (vI n), some (vI at_), some (vI pl), some (.ref ul), some (vI hw), none]
theorem cut_toB (k : Nat) {xs : List V} : cutV xs none (some (k : Int)) = xs.take k := by
  unfold cutV
  rw [HT.sIx_nat]
  show (xs.drop 0).take (min k xs.length - 0) = _
  rw [List.drop_zero, Nat.sub_zero]
  rcases Nat.le_total k xs.length with h | h
  · rw [Nat.min_eq_left h]
  · rw [Nat.min_eq_right h, List.take_of_length_le (Nat.le_refl _), List.take_of_length_le h]
theorem cut_fromB (k : Nat) {xs : List V} : cutV xs (some (k : Int)) none = xs.drop k := by
  unfold cutV
  rw [HT.sIx_nat]
  show (xs.drop (min k xs.length)).take (xs.length - min k xs.length) = _
  rcases Nat.le_total k xs.length with h | h
  · rw [Nat.min_eq_left h, List.take_of_length_le (by rw [List.length_drop]; omega)]
  · rw [Nat.min_eq_right h, List.drop_of_length_le h, List.drop_of_length_le (Nat.le_refl _)]
    simp
/-- each of a row is a lot -/
def RowAll (n : Nat) (H : Hp) (us : List Addr) : Prop := ∀ u ∈ us, ∃ r : Nat → Prop, H u = some (.tup ((lotP n r).map vI))
theorem RowAll.keep {n : Nat} {c : Addr} {H H' : Hp} {us : List Addr} (k : Kc c H H') (hc : ∃ ys, H c = some (.lst ys)) (h : RowAll n H us) : RowAll n H' us := fun u hu => (h u hu).imp fun r e => k.tup hc e
theorem lots_ofB {n : Nat} {H : Hp} {l : Addr} {us : List Addr} (hl : H l = some (.lst (us.map V.ref))) (h : RowAll n H us) : ∃ q, LotsAt n H l us.length q := by
  classical
  refine ⟨fun j => if hj : j < us.length then (h _ (List.getElem_mem hj)).choose else fun _ => False, ⟨us, hl, rfl, fun j u e => ?_⟩⟩
  obtain ⟨hj, eu⟩ := List.getElem?_eq_some_iff.mp e
  subst eu
  rw [dif_pos hj]
  exact (h _ (List.getElem_mem hj)).choose_spec
section
variable {P : Program} {w : World} {K : PySem.W.Frag} {mg : Str → Option Value} {base : Heap}
def spBentLots : Sp := fun vs H Q _ => ∃ (b c l : Addr) (n m : Nat) (q : Nat → Nat → Prop), vs = [.ref b, .ref l, vI n] ∧ Box b c H ∧ LotsAt n H l m q ∧ l ≠ c ∧ 1 ≤ m ∧ m ≤ 60 ∧ 1 ≤ n ∧ n ≤ 8 ∧ ∀ H' l' m' q', Kc c H H' → Box b c H' → LotsAt n H' l' m' q' → l' ≠ c → 1 ≤ m' → m' ≤ m + 1 → Q (.ref l') H'
end
end RL
/-! a paper bent -/
namespace RL
open PySem PySem.Spec PyProof.Rows L2 RLM
/-- a paper of lots or of a walk, right or not -/
inductive PaperAt (n c N : Nat) (H : Hp) (t : Addr) : Prop
  | rows (aw : Bool) (l : Addr) (m : Nat) (q : Nat → Nat → Prop) : H t = some (.tup [.str (if aw = true then "ahead" else "behind"), .ref l]) → LotsAt n H l m q → l ≠ c → 1 ≤ m → m ≤ N → PaperAt n c N H t
  | walk (tw : Addr) (zs : List Int) : H t = some (.tup [.str "walk", .ref tw]) → H tw = some (.tup (zs.map V.int)) → zs.length ≤ N → (∀ z ∈ zs, -1 ≤ z ∧ z ≤ 8) → PaperAt n c N H t
theorem lots_keep {n m : Nat} {c l : Addr} {H H' : Hp} {q : Nat → Nat → Prop} (k : Kc c H H') (hc : ∃ ys, H c = some (.lst ys)) (lc : l ≠ c) (h : LotsAt n H l m q) : LotsAt n H' l m q := by
  obtain ⟨us, h1, h2, h3⟩ := h.ex
  exact ⟨us, k _ _ lc (fun _ z => by cases z) h1, h2, fun i u e => k.tup hc (h3 i u e)⟩
section
variable {P : Program} {w : World} {K : PySem.W.Frag} {mg : Str → Option Value} {base : Heap}
def spBentPaper : Sp := fun vs H Q _ => ∃ (b c t : Addr) (n N : Nat), vs = [.ref b, .ref t, vI n] ∧ Box b c H ∧ PaperAt n c N H t ∧ N ≤ 50 ∧ 1 ≤ n ∧ n ≤ 8 ∧ ∀ H' t', Kc c H H' → Box b c H' → PaperAt n c (N + 1) H' t' → Q (.ref t') H'
end
end RL
/-! rows of rows of lots bent -/
namespace RL
open PySem PySem.Spec PyProof.Rows L2 RLM
/-- a row of lots, of any length -/
def RowG (n c : Nat) (H : Hp) (u : Addr) : Prop := u ≠ c ∧ ∃ k q, k ≤ 8 ∧ LotsAt n H u k q
theorem RowG.keep {n c : Nat} {H H' : Hp} {u : Addr} (k : Kc c H H') (hc : ∃ ys, H c = some (.lst ys)) (h : RowG n c H u) : RowG n c H' u := by
  obtain ⟨ne, j, q, l, LA⟩ := h
  exact ⟨ne, j, q, l, lots_keep k hc ne LA⟩
theorem RowG.same {n c : Nat} {H H' : Hp} {u : Addr} (s : Same H H') (h : RowG n c H u) : RowG n c H' u := by
  obtain ⟨ne, j, q, l, LA⟩ := h
  exact ⟨ne, j, q, l, LA.same s⟩
/-- a table of such rows -/
structure TabG (n c : Nat) (H : Hp) (r : Addr) (us : List Addr) : Prop where
  at_ : H r = some (.lst (us.map V.ref))
  ne : r ≠ c
  row : ∀ u ∈ us, RowG n c H u
  pos : 1 ≤ us.length
theorem TabG.keep {n c : Nat} {H H' : Hp} {r : Addr} {us : List Addr} (k : Kc c H H') (hc : ∃ ys, H c = some (.lst ys)) (h : TabG n c H r us) : TabG n c H' r us := ⟨k _ _ h.ne (fun _ z => by cases z) h.at_, h.ne, fun u hu => (h.row u hu).keep k hc, h.pos⟩
theorem TabG.same {n c : Nat} {H H' : Hp} {r : Addr} {us : List Addr} (s : Same H H') (h : TabG n c H r us) : TabG n c H' r us := ⟨s _ _ h.at_, h.ne, fun u hu => (h.row u hu).same s, h.pos⟩
section
variable {P : Program} {w : World} {K : PySem.W.Frag} {mg : Str → Option Value} {base : Heap}
def spBentRows : Sp := fun vs H Q _ => ∃ (b c r : Addr) (n m : Nat) (us : List Addr), vs = [.ref b, .ref r, vI n] ∧ Box b c H ∧ TabG n c H r us ∧ us.length ≤ m ∧ m ≤ 60 ∧ 1 ≤ n ∧ n ≤ 8 ∧ ∀ H' r' us', Kc c H H' → Box b c H' → TabG n c H' r' us' → us'.length ≤ m → Q (.ref r') H'
abbrev SR (b r : Addr) (n at_ pl hw : Nat) (l : Addr) (sp : Nat) : L2.St := [some (.ref b), some (.ref r), some (vI n), some (vI at_), some (vI pl), some (vI hw), some (.ref l), some (vI sp), none]
theorem sc__law_bent_rows : FnScope ["_law_box_here", "_law_rows", "_law_many", "_law_at", "_law_place", "_law_how", "_law_row", "_law_spot", "_law_one"] ["_law_box_here", "_law_rows", "_law_many"] (defScope s__law_bent_rows) := ⟨rfl, rfl, rfl, by decide +kernel, rfl, by decide +kernel, by decide +kernel⟩
theorem ok_bentRows (T : Tx K mg) : Has P w K mg base (He.ga K "_law_bent_rows") 2 ["_law_box_here", "_law_rows", "_law_many"] spBentRows := by
  obtain ⟨⟨fd_law_pick, F_law_pick, b_law_pick⟩, kp_law_pick⟩ := ok_pick (P := P) (w := w) (base := base) T
  obtain ⟨fd, F⟩ := T.d__law_bent_rows
  refine ⟨⟨fd, F.ok sc__law_bent_rows (fun vs H Q E h => ?_) (fun cdv A outer s H vs Q E hr h => ?_), F.bindsN fun _ _ _ _ _ _ us hl => match us, hl with | [_, _, _], _ => rfl⟩, F.kp⟩
  · obtain ⟨b, c, r, n, m, us, rfl, _⟩ := h
    rfl
  · obtain ⟨b, c, r, n, m, us, rfl, B, TG, lm, m60, n1, n8, h⟩ := h
    have hr_law_pick : Room 1 _ := hr.mono (by decide)
    refine ⟨_, PSs.nox (pss_cons (ps_asg (pe_tup (pa_cons (pe_call F_law_pick hr_law_pick rfl T.glo_law_pick kp_law_pick b_law_pick .nil pass0 (pa_cons (pv 0) (pa_cons (pe_callB (lenK (K := K)) (by rfl) T.free_len (by decide +kernel) (pa_cons (pv 1) pa_nil)) pa_nil))) (pa_cons (pe_call F_law_pick hr_law_pick rfl T.glo_law_pick kp_law_pick b_law_pick .nil pass0 (pa_cons (pv 0) (pa_cons (pv 2) pa_nil))) (pa_cons (pe_call F_law_pick hr_law_pick rfl T.glo_law_pick kp_law_pick b_law_pick .nil pass0 (pa_cons (pv 0) (pa_cons pe_int pa_nil))) pa_nil)))) (pgT (K := K) (n := 3) rfl (pgs_cons (pg_name (i := 3) sc__law_bent_rows.nd rfl (Or.inl rfl)) (pgs_cons (pg_name (i := 4) sc__law_bent_rows.nd rfl (Or.inr rfl)) (pgs_cons (pg_name (i := 5) sc__law_bent_rows.nd rfl (Or.inl rfl)) pgs_nil)))))
      (pss_cons (ps_set (i := 6) sc__law_bent_rows.nd rfl (Or.inl rfl) (pe_callTy (listK (K := K)) (by rfl) T.free_list (by decide +kernel) (pa_cons (pe_ix (ixL (K := K)) (pv 1) (pv 3) (fun _ _ => rfl)) pa_nil)))
      (pss_cons (ps_set (i := 7) sc__law_bent_rows.nd rfl (Or.inl rfl) (pe_call F_law_pick hr_law_pick rfl T.glo_law_pick kp_law_pick b_law_pick .nil pass0 (pa_cons (pv 0) (pa_cons (pe_callB (call_max2 rfl) (by rfl) T.free_max (by decide +kernel) (pa_cons pe_int (pa_cons (pe_callB (lenK (K := K)) (by rfl) T.free_len (by decide +kernel) (pa_cons (pv 6) pa_nil)) pa_nil))) pa_nil))))
      (pss_cons (ps_if (PW.pt (pw_or (pt_cmpR op_eq (pv 5) pe_int (nomark _)) (pw_or1 (pt_cmpR (eqD (K := K) hr.units) (pv 6) (pe_lst pa_nil) (nomark _))))) (pss_one (ps_ret (pe_ifExp (pt_cmpR op_gt (pe_callB (lenK (K := K)) (by rfl) T.free_len (by decide +kernel) (pa_cons (pv 1) pa_nil)) pe_int (nomark _)) (pe_op op_cat (pe_slice (slL (K := K)) (pv 1) po_none (po_some (pv 3))) (pe_slice (slL (K := K)) (pv 1) (po_some (pe_op op_add (pv 3) pe_int)) po_none)) (pv 1)))) pss_nil)
      (C8.pss_cut (ps_if (pt_cmpR op_eq (pv 5) pe_int (nomark _)) (pss_one (ps_set (i := 6) sc__law_bent_rows.nd rfl (Or.inl rfl) (pe_op op_cat (pe_slice (slL (K := K)) (pv 6) po_none (po_some (pv 7))) (pe_slice (slL (K := K)) (pv 6) (po_some (pe_op op_add (pv 7) pe_int)) po_none)))) (pss_one (ps_if (pt_cmpR op_eq (pv 5) pe_int (nomark _)) (pss_one (ps_asg (pe_tup pa_nil) (pg_sub (pv 6) (pv 7) set_list))) (pss_one (ps_if (pt_cmpR op_eq (pv 5) pe_int (nomark _)) (pss_one (ps_asg (pe_callTy (tupK (K := K)) (by rfl) T.free_tuple (by decide +kernel) (pa_cons (pe_callB (sortS (w := w)) (by rfl) T.free_sorted (by decide +kernel) (pa_cons (pe_callTy (setTK (K := K) (w := w)) (by rfl) T.free_set (by decide +kernel) (pa_cons (pe_op catS (pe_ix (ixL (K := K)) (pv 6) (pv 7) (fun _ _ => rfl)) (pe_tup (pa_cons (pv 4) pa_nil))) pa_nil)) pa_nil)) pa_nil)) (pg_sub (pv 6) (pv 7) set_list))) (pss_one (ps_asg (pe_callTy (tupK (K := K)) (by rfl) T.free_tuple (by decide +kernel) (pa_cons (pe_lc (own := [("_law_one", 8)]) (g := (gName 8)) rfl sc__law_bent_rows.nd (piT (K := K) (pe_ix (ixL (K := K)) (pv 6) (pv 7) (fun _ _ => rfl))) (blkOk_by (by kernel_rfl)) (fun _ _ _ _ _ => (pg_name (i := 8) sc__law_bent_rows.nd rfl (Or.inl rfl))) (fun _ _ _ _ _ => (pts_one (pt_cmpR op_ne (pv 8) (pv 4) (nomark _)))) (fun _ _ _ _ _ => (pv 8))) pa_nil)) (pg_sub (pv 6) (pv 7) set_list))))))))
      (pss_one (ps_ret (pe_op op_cat (pe_op op_cat (pe_slice (slL (K := K)) (pv 1) po_none (po_some (pv 3))) (pe_lst (pa_cons (pv 6) pa_nil))) (pe_slice (slL (K := K)) (pv 1) (po_some (pe_op op_add (pv 3) pe_int)) po_none))))))))), ?_⟩
    have pos := TG.pos
    refine ⟨_, rfl, _, rfl, r, _, rfl, .inl (SqL.of TG.at_), b, c, _, rfl, B, ?_⟩
    rw [List.length_map]
    refine ⟨by omega, by omega, fun H1 y k1 B1 y0 y1 => ?_⟩
    obtain ⟨at_, rfl⟩ := Int.eq_ofNat_of_zero_le y0
    refine ⟨_, rfl, _, rfl, b, c, _, rfl, B1, by omega, by omega, fun H2 y2 k2 B2 z0 z1 => ?_⟩
    obtain ⟨pl, rfl⟩ := Int.eq_ofNat_of_zero_le z0
    refine ⟨_, rfl, b, c, 6, rfl, B2, by decide, by decide, fun H3 y3 k3 B3 w0 w1 => ⟨(by show 3 ≤ sizeLine; decide), fun o ho => ⟨o, _, rfl, SqT.of upd_same, rfl, _, _, rfl, _, _, rfl, _, _, rfl, rfl, ?_⟩⟩⟩
    obtain ⟨hw, rfl⟩ := Int.eq_ofNat_of_zero_le w0
    have s4 := same_upd (o := HO.tup [V.int ((at_ : Nat) : Int), V.int ((pl : Nat) : Int), V.int ((hw : Nat) : Int)]) ho
    have k4 := ((k1.trans k2).trans k3).trans (kc_same s4)
    have B4 := B3.same s4
    generalize L2.upd H3 o (.tup [V.int ((at_ : Nat) : Int), V.int ((pl : Nat) : Int), V.int ((hw : Nat) : Int)]) = H4 at k4 B4
    clear s4 ho k1 k2 k3 B1 B2 B3
    have TG4 := TG.keep k4 B.lst
    have hu : us[at_]? = some (us[at_]'(by omega)) := List.getElem?_eq_getElem _
    have hum : us[at_]'(by omega) ∈ us := List.getElem_mem _
    generalize us[at_]'(by omega) = u at hu hum
    obtain ⟨uc, ku, qu, lk, LU⟩ := TG4.row u hum
    obtain ⟨ts, hts, lts, rts⟩ := LU.ex
    -- its copy
    refine ⟨_, rfl, _, rfl, r, _, _, _, rfl, rfl, SqL.of TG4.at_, atI_nat (get_map hu), u, _, rfl, .inl (SqL.of hts), fun l hl => ?_⟩
    have s5 := same_upd (o := HO.lst (ts.map V.ref)) hl
    have h5 : (L2.upd H4 l (.lst (ts.map V.ref))) l = some (.lst (ts.map V.ref)) := upd_same
    have lc := (B4.new hl).1
    have lb := (B4.new hl).2
    have B5 := B4.same s5
    have k5 := k4.trans (kc_same s5)
    have free5 : H4 l = none := hl
    generalize L2.upd H4 l (.lst (ts.map V.ref)) = H5 at s5 h5 B5 k5
    have L5 : LotsAt n H5 l ku qu := ⟨ts, h5, lts, fun i v e => s5 _ _ (rts i v e)⟩
    have TG5 := TG4.same s5
    -- a spot
    refine ⟨_, rfl, _, rfl, l, _, rfl, .inl (SqL.of h5), _, _, rfl, b, c, _, rfl, B5, ?_⟩
    rw [List.length_map, lts]
    obtain ⟨W, eW, W1, W2⟩ : ∃ W : Nat, (if ((ku : Nat) : Int) > 1 then ((ku : Nat) : Int) else 1) = (W : Int) ∧ 1 ≤ W ∧ (W = ku ∨ W = 1 ∧ ku = 0) := by
      by_cases z : ((ku : Nat) : Int) > 1
      · exact ⟨ku, if_pos z, by omega, .inl rfl⟩
      · exact ⟨1, if_neg z, Nat.le_refl _, by omega⟩
    rw [eW]
    refine ⟨by omega, by omega, fun H6 y6 k56 B6 x0 x1 => ?_⟩
    obtain ⟨sp, rfl⟩ := Int.eq_ofNat_of_zero_le x0
    have k46 : Kc c H4 H6 := (kc_same s5).trans k56
    have k6 := k5.trans k56
    have TG6 := TG4.keep k46 B4.lst
    have L6 := lots_keep k56 B5.lst lc L5
    clear s5 h5 B5 k5 L5 TG5 hl hts rts lts ts
    obtain ⟨ts, hts, lts, rts⟩ := L6.ex
    -- a row goes
    refine ⟨_, rfl, rfl, _, rfl, ?_⟩
    refine ite2 (fun z => ?_) (fun z => ?_)
    · have TG7 := TG6
      have B7 := B6
      have k7 := k6
      generalize H6 = H7 at TG7 B7 k7
      clear z hts rts L6 B6 k6 TG6 k46 k56
      refine ⟨_, rfl, r, _, rfl, .inl (SqL.of TG7.at_), _, _, rfl, rfl, _, rfl, ?_⟩
      rw [List.length_map]
      refine ite2 (fun z => ?_) (fun z => ⟨_, rfl, h H7 r us k7 B7 TG7 lm⟩)
      have m2 : 2 ≤ us.length := by
        have := of_decide_eq_true z
        omega
      refine ⟨_, rfl, _, rfl, _, rfl, r, _, rfl, SqL.of TG7.at_, fun q8 hq8 => ?_⟩
      have s8 := same_upd (o := HO.lst (cutV (us.map V.ref) none (some ((at_ : Nat) : Int)))) hq8
      have h8 : (L2.upd H7 q8 (.lst (cutV (us.map V.ref) none (some ((at_ : Nat) : Int))))) q8 = some (.lst ((us.take at_).map V.ref)) := by rw [upd_same, cut_toB, List.map_take]
      have B8 := B7.same s8
      generalize L2.upd H7 q8 (.lst (cutV (us.map V.ref) none (some ((at_ : Nat) : Int)))) = H8 at s8 h8 B8
      refine ⟨_, rfl, _, rfl, _, _, rfl, rfl, _, rfl, r, _, rfl, SqL.of (s8 _ _ TG7.at_), fun q9 hq9 => ?_⟩
      have s9 := same_upd (o := HO.lst (cutV (us.map V.ref) (some (((at_ : Nat) : Int) + 1)) none)) hq9
      have h9 : (L2.upd H8 q9 (.lst (cutV (us.map V.ref) (some (((at_ : Nat) : Int) + 1)) none))) q9 = some (.lst ((us.drop (at_ + 1)).map V.ref)) := by
        rw [upd_same, show ((at_ : Nat) : Int) + 1 = ((at_ + 1 : Nat) : Int) from rfl, cut_fromB, List.map_drop]
      have B9 := B8.same s9
      generalize L2.upd H8 q9 (.lst (cutV (us.map V.ref) (some (((at_ : Nat) : Int) + 1)) none)) = H9 at s9 h9 B9
      refine ⟨q8, q9, _, _, rfl, rfl, s9 _ _ h8, h9, ?_, fun l10 hl10 => ?_⟩
      · simp only [List.length_map, List.length_take, List.length_drop]
        exact Nat.le_trans (show min at_ us.length + (us.length - (at_ + 1)) ≤ 60 by omega) (by decide)
      have s10 := same_upd (o := HO.lst ((us.take at_).map V.ref ++ (us.drop (at_ + 1)).map V.ref)) hl10
      have sall := (s8.trans s9).trans s10
      refine h _ l10 (us.take at_ ++ us.drop (at_ + 1)) (k7.trans (kc_same sall)) (B7.same sall) ⟨by rw [upd_same, List.map_append], (B9.new hl10).1, fun v hv => (TG7.row v ((List.mem_append.mp hv).elim List.mem_of_mem_take List.mem_of_mem_drop)).same sall, ?_⟩ ?_
      · simp only [List.length_append, List.length_take, List.length_drop]
        omega
      · simp only [List.length_append, List.length_take, List.length_drop]
        omega
    have hw0 : hw ≠ 0 := fun e => z (decide_eq_true (by rw [e]; rfl))
    refine ⟨_, rfl, Nat.zero_le _, fun p7 hp7 => ?_⟩
    have s7 := same_upd (o := HO.lst []) hp7
    have h7 : (L2.upd H6 p7 (.lst [])) p7 = some (.lst []) := upd_same
    generalize L2.upd H6 p7 (.lst []) = H7 at s7 h7
    have ee : PyData.eqv (.list (((List.range ku).map fun i => (lotP n (qu i)).map nI).map lotD)) (.list []) = decide (ku = 0) := by
      rw [PyData.eqv]
      cases ku with
      | zero => simp [PyData.eqvAll]
      | succ k =>
        rw [List.range_succ_eq_map]
        simp [PyData.eqvAll]
    refine ⟨_, _, dp_lots (L6.same s7), .lst (SqL.of h7) .nil, lots_shaped _, (by decide +kernel), _, rfl, ?_⟩
    rw [ee]
    have TG7 := TG6.same s7
    have B7 := B6.same s7
    have k7 := k6.trans (kc_same s7)
    have k47 := k46.trans (kc_same s7)
    have L7 := L6.same s7
    have h7l := s7 _ _ hts
    have r7 : ∀ (i : Nat) (u : Addr), ts[i]? = some u → H7 u = some (.tup ((lotP n (qu i)).map vI)) := fun i v e => s7 _ _ (rts i v e)
    clear h7 s7 ee hts rts L6 B6 TG6 k46 k56 k6 hp7
    refine ite2 (fun z => ?_) (fun z => ?_)
    · clear z h7l r7 L7 k47
      refine ⟨_, rfl, r, _, rfl, .inl (SqL.of TG7.at_), _, _, rfl, rfl, _, rfl, ?_⟩
      rw [List.length_map]
      refine ite2 (fun z => ?_) (fun z => ⟨_, rfl, h H7 r us k7 B7 TG7 lm⟩)
      have m2 : 2 ≤ us.length := by
        have := of_decide_eq_true z
        omega
      refine ⟨_, rfl, _, rfl, _, rfl, r, _, rfl, SqL.of TG7.at_, fun q8 hq8 => ?_⟩
      have s8 := same_upd (o := HO.lst (cutV (us.map V.ref) none (some ((at_ : Nat) : Int)))) hq8
      have h8 : (L2.upd H7 q8 (.lst (cutV (us.map V.ref) none (some ((at_ : Nat) : Int))))) q8 = some (.lst ((us.take at_).map V.ref)) := by rw [upd_same, cut_toB, List.map_take]
      have B8 := B7.same s8
      generalize L2.upd H7 q8 (.lst (cutV (us.map V.ref) none (some ((at_ : Nat) : Int)))) = H8 at s8 h8 B8
      refine ⟨_, rfl, _, rfl, _, _, rfl, rfl, _, rfl, r, _, rfl, SqL.of (s8 _ _ TG7.at_), fun q9 hq9 => ?_⟩
      have s9 := same_upd (o := HO.lst (cutV (us.map V.ref) (some (((at_ : Nat) : Int) + 1)) none)) hq9
      have h9 : (L2.upd H8 q9 (.lst (cutV (us.map V.ref) (some (((at_ : Nat) : Int) + 1)) none))) q9 = some (.lst ((us.drop (at_ + 1)).map V.ref)) := by
        rw [upd_same, show ((at_ : Nat) : Int) + 1 = ((at_ + 1 : Nat) : Int) from rfl, cut_fromB, List.map_drop]
      have B9 := B8.same s9
      generalize L2.upd H8 q9 (.lst (cutV (us.map V.ref) (some (((at_ : Nat) : Int) + 1)) none)) = H9 at s9 h9 B9
      refine ⟨q8, q9, _, _, rfl, rfl, s9 _ _ h8, h9, ?_, fun l10 hl10 => ?_⟩
      · simp only [List.length_map, List.length_take, List.length_drop]
        exact Nat.le_trans (show min at_ us.length + (us.length - (at_ + 1)) ≤ 60 by omega) (by decide)
      have s10 := same_upd (o := HO.lst ((us.take at_).map V.ref ++ (us.drop (at_ + 1)).map V.ref)) hl10
      have sall := (s8.trans s9).trans s10
      refine h _ l10 (us.take at_ ++ us.drop (at_ + 1)) (k7.trans (kc_same sall)) (B7.same sall) ⟨by rw [upd_same, List.map_append], (B9.new hl10).1, fun v hv => (TG7.row v ((List.mem_append.mp hv).elim List.mem_of_mem_take List.mem_of_mem_drop)).same sall, ?_⟩ ?_
      · simp only [List.length_append, List.length_take, List.length_drop]
        omega
      · simp only [List.length_append, List.length_take, List.length_drop]
        omega
    have ku1 : 1 ≤ ku := by
      have : ku ≠ 0 := fun e => z (decide_eq_true e)
      omega
    have spk : sp < ku := by omega
    have htp : ts[sp]? = some (ts[sp]'(by omega)) := List.getElem?_eq_getElem _
    generalize ts[sp]'(by omega) = tp at htp
    have htp7 := r7 sp tp htp
    clear z x0 x1 eW W1 W2
    have lU : ∀ (v : Addr) (H' : Hp) (l' : Addr), True := fun _ _ _ => True.intro
    -- the row bent
    refine ⟨fun σ H' => ∃ l', σ = SR b r n at_ pl hw l' sp ∧ RowG n c H' l' ∧ Kc c H H' ∧ Kc c H4 H' ∧ Box b c H', ?_, ?_⟩
    · have set1 : ∀ (H8 : Hp) (t8 : Addr) (q8 : Nat → Prop), Same H7 H8 → H8 t8 = some (.tup ((lotP n q8).map vI)) → ∃ l', SR b r n at_ pl hw l sp = SR b r n at_ pl hw l' sp ∧ RowG n c (L2.upd H8 l (.lst ((ts.map V.ref).set sp (.ref t8)))) l' ∧ Kc c H (L2.upd H8 l (.lst ((ts.map V.ref).set sp (.ref t8)))) ∧ Kc c H4 (L2.upd H8 l (.lst ((ts.map V.ref).set sp (.ref t8)))) ∧ Box b c (L2.upd H8 l (.lst ((ts.map V.ref).set sp (.ref t8)))) := fun H8 t8 q8 s8 h8 => by
        have kk : Kc c H4 (L2.upd H8 l (.lst ((ts.map V.ref).set sp (.ref t8)))) := (k47.trans (kc_same s8)).upd free5
        refine ⟨l, rfl, ⟨lc, ku, fun j => if j = sp then q8 else qu j, lk, ⟨⟨ts.set sp t8, by rw [upd_same, List.map_set], by rw [List.length_set]; exact lts, fun j v e => ?_⟩⟩⟩, k4.trans kk, kk, (B7.same s8).upd lc lb⟩
        rw [List.getElem?_set] at e
        by_cases ei : sp = j
        · rw [if_pos ei, if_pos (by omega)] at e
          cases e
          rw [upd_ne (ne_of h8 (s8 _ _ h7l) (by intro z; cases z)), h8, if_pos ei.symm]
        · rw [if_neg ei] at e
          have g := s8 _ _ (r7 j v e)
          rw [upd_ne (ne_of g (s8 _ _ h7l) (by intro z; cases z)), g, if_neg fun z => ei z.symm]
      refine ⟨_, rfl, rfl, _, rfl, ?_⟩
      refine ite2 (fun z => ?_) (fun z => ?_)
      · -- a lot goes
        refine ⟨_, rfl, _, rfl, _, rfl, l, _, rfl, SqL.of h7l, fun q8 hq8 => ?_⟩
        have s8 := same_upd (o := HO.lst (cutV (ts.map V.ref) none (some ((sp : Nat) : Int)))) hq8
        have h8 : (L2.upd H7 q8 (.lst (cutV (ts.map V.ref) none (some ((sp : Nat) : Int))))) q8 = some (.lst ((ts.take sp).map V.ref)) := by rw [upd_same, cut_toB, List.map_take]
        have B8 := B7.same s8
        generalize L2.upd H7 q8 (.lst (cutV (ts.map V.ref) none (some ((sp : Nat) : Int)))) = H8 at s8 h8 B8
        refine ⟨_, rfl, _, rfl, _, _, rfl, rfl, _, rfl, l, _, rfl, SqL.of (s8 _ _ h7l), fun q9 hq9 => ?_⟩
        have s9 := same_upd (o := HO.lst (cutV (ts.map V.ref) (some (((sp : Nat) : Int) + 1)) none)) hq9
        have h9 : (L2.upd H8 q9 (.lst (cutV (ts.map V.ref) (some (((sp : Nat) : Int) + 1)) none))) q9 = some (.lst ((ts.drop (sp + 1)).map V.ref)) := by
          rw [upd_same, show ((sp : Nat) : Int) + 1 = ((sp + 1 : Nat) : Int) from rfl, cut_fromB, List.map_drop]
        have B9 := B8.same s9
        generalize L2.upd H8 q9 (.lst (cutV (ts.map V.ref) (some (((sp : Nat) : Int) + 1)) none)) = H9 at s9 h9 B9
        refine ⟨q8, q9, _, _, rfl, rfl, s9 _ _ h8, h9, ?_, fun l10 hl10 => ?_⟩
        · simp only [List.length_map, List.length_take, List.length_drop]
          exact Nat.le_trans (show min sp ts.length + (ts.length - (sp + 1)) ≤ 60 by omega) (by decide)
        have s10 := same_upd (o := HO.lst ((ts.take sp).map V.ref ++ (ts.drop (sp + 1)).map V.ref)) hl10
        have sall := (s8.trans s9).trans s10
        obtain ⟨q', LA'⟩ := lots_ofB (n := n) (l := l10) (us := ts.take sp ++ ts.drop (sp + 1)) (H := L2.upd H9 l10 (.lst ((ts.take sp).map V.ref ++ (ts.drop (sp + 1)).map V.ref))) (by rw [upd_same, List.map_append]) (fun x hx => by
          obtain ⟨j, hj, ej⟩ := List.getElem_of_mem ((List.mem_append.mp hx).elim List.mem_of_mem_take List.mem_of_mem_drop)
          exact ⟨_, sall _ _ (r7 j x (by rw [List.getElem?_eq_getElem hj, ej]))⟩)
        refine ⟨l10, rfl, ⟨(B9.new hl10).1, _, q', ?_, LA'⟩, k7.trans (kc_same sall), k47.trans (kc_same sall), B7.same sall⟩
        simp only [List.length_append, List.length_take, List.length_drop]
        omega
      refine ⟨_, rfl, rfl, _, rfl, ?_⟩
      refine ite2 (fun z => ?_) (fun z => ?_)
      · -- a lot emptied
        refine ⟨Nat.zero_le _, fun o8 ho8 => ?_⟩
        have s8 := same_upd (o := HO.tup []) ho8
        have h8 : (L2.upd H7 o8 (.tup [])) o8 = some (.tup ((lotP n fun _ => False).map vI)) := by
          rw [upd_same, show lotP n (fun _ => False) = [] from (lotP_of List.Pairwise.nil fun b => by simp).symm]
          rfl
        generalize L2.upd H7 o8 (.tup []) = H8 at s8 h8
        exact ⟨_, rfl, _, rfl, l, _, _, sp, rfl, rfl, s8 _ _ h7l, ixN_nat (by simpa [lts] using spk), set1 H8 o8 _ s8 h8⟩
      refine ⟨_, rfl, rfl, _, rfl, ?_⟩
      refine ite2 (fun z => ?_) (fun z => ?_)
      · -- a place put in
        refine ⟨_, rfl, _, rfl, l, _, _, _, rfl, rfl, SqL.of h7l, atI_nat (get_map htp), _, rfl, (by show 1 ≤ sizeLine; decide), fun o1 ho1 => ?_⟩
        have s8 := same_upd (o := HO.tup [V.int ((pl : Nat) : Int)]) ho1
        have h8 : (L2.upd H7 o1 (.tup [V.int ((pl : Nat) : Int)])) o1 = some (.tup [vI pl]) := upd_same
        generalize L2.upd H7 o1 (.tup [V.int ((pl : Nat) : Int)]) = H8 at s8 h8
        have lr := lotP_len n (qu sp)
        refine ⟨tp, o1, _, _, rfl, rfl, s8 _ _ htp7, h8, ?_, fun q9 H9 h9 s9 => ?_⟩
        · rw [List.length_map]
          exact Nat.le_trans (show (lotP n (qu sp)).length + 1 ≤ 9 by omega) (by decide)
        have h9' : H9 q9 = some (.tup (((lotP n (qu sp)).map nI ++ [nI pl]).map V.int)) := by
          rw [h9, List.map_append, vI_map]
          rfl
        refine ⟨q9, (lotP n (qu sp)).map nI ++ [nI pl], rfl, SqT.of h9', by rw [List.length_append, List.length_map]; simp; omega, fun d cc hd hcc => ?_⟩
        refine ⟨d, _, cc, rfl, upd_same, by rw [List.length_append, List.length_map] at hcc; simp at hcc; omega, fun ns l2 p1 p2 p3 hl2 => ?_⟩
        have s10 := same_upd (o := SetO w d (fun j => decide (j ∈ (lotP n (qu sp)).map nI ++ [nI pl])) cc) hd
        have s11 := same_upd (o := HO.lst (ns.map V.int)) hl2
        refine ⟨l2, _, rfl, .inl ⟨SqL.of upd_same, fun t ht => ?_⟩⟩
        have s12 := same_upd (o := HO.tup (ns.map V.int)) ht
        have sall := (((s8.trans s9).trans s10).trans s11).trans s12
        refine ⟨_, rfl, _, rfl, l, _, _, sp, rfl, rfl, sall _ _ h7l, ixN_nat (by simpa [lts] using spk), set1 _ t (fun x => qu sp x ∨ x = pl) sall ?_⟩
        rw [upd_same, rise_lot (n := n) (p := fun x => qu sp x ∨ x = pl) p1 fun k => ?_]
        rw [p2, decide_eq_true_iff, List.mem_append, List.mem_map, List.mem_singleton]
        constructor
        · rintro (⟨x, hx, rfl⟩ | rfl)
          · exact ⟨x, rfl, (mem_lotP.mp hx).1, .inl (mem_lotP.mp hx).2⟩
          · exact ⟨pl, rfl, by omega, .inr rfl⟩
        · rintro ⟨x, rfl, xn, hx | rfl⟩
          · exact .inl ⟨x, mem_lotP.mpr ⟨xn, hx⟩, rfl⟩
          · exact .inr rfl
      · -- a place out
        refine ⟨_, rfl, _, rfl, l, _, _, _, rfl, rfl, SqL.of h7l, atI_nat (get_map htp), tp, rfl, ⟨_, SqT.of htp7⟩, fun D hD => ?_⟩
        have lr := lotP_len n (qu sp)
        refine lc_filt (walk_tup (K := K) (a := tp) (xs := (lotP n (qu sp)).map vI)) (lotP n (qu sp)) (fun x => !decide (vI x = vI pl)) (by simp) (by rw [List.length_map]; omega) hD (fun H5 s5 => SqT.of (s5 _ _ htp7)) ?_ ?_
        · rintro i x y5 H5 H6 N1 N0 hx s5 ⟨rfl, ey⟩ k1 k0
          obtain ⟨x', hx', rfl⟩ := get_vI ey
          rw [hx] at hx'
          cases hx'
          refine ⟨rfl, _, rfl, _, rfl, rfl, _, rfl, ?_⟩
          refine ite2 (fun z => ⟨_, rfl, k1 _ z (Same.refl _)⟩) (fun z => k0 _ (Bool.eq_false_iff.mpr z) (Same.refl _))
        · intro H8 h8 s8
          refine ⟨D, _, rfl, .inl ⟨SqL.of h8, fun t ht => ?_⟩⟩
          refine ⟨_, rfl, _, rfl, l, _, _, sp, rfl, rfl, (s8.trans (same_upd ht)) _ _ h7l, ixN_nat (by simpa [lts] using spk), set1 _ t (fun x => qu sp x ∧ x ≠ pl) (s8.trans (same_upd ht)) ?_⟩
          rw [upd_same, filter_lot (p := fun x => qu sp x ∧ x ≠ pl) (lotP_sorted n (qu sp)) fun x => ?_]
          rw [mem_lotP, Bool.not_eq_true', decide_eq_false_iff_not]
          constructor
          · rintro ⟨⟨h1, h2⟩, h3⟩
            exact ⟨h1, h2, fun e => h3 (by rw [e])⟩
          · rintro ⟨h1, h2, h3⟩
            exact ⟨⟨h1, h2⟩, fun e => h3 (by have := V.int.inj e; omega)⟩
    rintro σ H9 ⟨l', rfl, RG, k9, k49, B9⟩
    have TG9 := TG4.keep k49 B4.lst
    clear r7 htp7 h7l htp k47 L7 B7 TG7 k7 TG4
    refine ⟨_, rfl, _, rfl, _, rfl, r, _, rfl, SqL.of TG9.at_, fun q10 hq10 => ?_⟩
    have s10 := same_upd (o := HO.lst (cutV (us.map V.ref) none (some ((at_ : Nat) : Int)))) hq10
    have h10 : (L2.upd H9 q10 (.lst (cutV (us.map V.ref) none (some ((at_ : Nat) : Int))))) q10 = some (.lst ((us.take at_).map V.ref)) := by rw [upd_same, cut_toB, List.map_take]
    have B10 := B9.same s10
    generalize L2.upd H9 q10 (.lst (cutV (us.map V.ref) none (some ((at_ : Nat) : Int)))) = H10 at s10 h10 B10
    refine ⟨_, rfl, (by show 1 ≤ sizeLine; decide), fun q11 hq11 => ?_⟩
    have s11 := same_upd (o := HO.lst [V.ref l']) hq11
    have h11 : (L2.upd H10 q11 (.lst [V.ref l'])) q11 = some (.lst [V.ref l']) := upd_same
    have B11 := B10.same s11
    generalize L2.upd H10 q11 (.lst [V.ref l']) = H11 at s11 h11 B11
    refine ⟨q10, q11, _, _, rfl, rfl, s11 _ _ h10, h11, ?_, fun q12 hq12 => ?_⟩
    · simp only [List.length_map, List.length_take]
      exact Nat.le_trans (show min at_ us.length + 1 ≤ 61 by omega) (by decide)
    have s12 := same_upd (o := HO.lst ((us.take at_).map V.ref ++ [V.ref l'])) hq12
    have h12 : (L2.upd H11 q12 (.lst ((us.take at_).map V.ref ++ [V.ref l']))) q12 = some (.lst ((us.take at_ ++ [l']).map V.ref)) := by
      rw [upd_same, List.map_append]
      rfl
    have B12 := B11.same s12
    generalize L2.upd H11 q12 (.lst ((us.take at_).map V.ref ++ [V.ref l'])) = H12 at s12 h12 B12
    have s912 := (s10.trans s11).trans s12
    refine ⟨_, rfl, _, rfl, _, _, rfl, rfl, _, rfl, r, _, rfl, SqL.of (s912 _ _ TG9.at_), fun q13 hq13 => ?_⟩
    have s13 := same_upd (o := HO.lst (cutV (us.map V.ref) (some (((at_ : Nat) : Int) + 1)) none)) hq13
    have h13 : (L2.upd H12 q13 (.lst (cutV (us.map V.ref) (some (((at_ : Nat) : Int) + 1)) none))) q13 = some (.lst ((us.drop (at_ + 1)).map V.ref)) := by
      rw [upd_same, show ((at_ : Nat) : Int) + 1 = ((at_ + 1 : Nat) : Int) from rfl, cut_fromB, List.map_drop]
    have B13 := B12.same s13
    generalize L2.upd H12 q13 (.lst (cutV (us.map V.ref) (some (((at_ : Nat) : Int) + 1)) none)) = H13 at s13 h13 B13
    refine ⟨q12, q13, _, _, rfl, rfl, s13 _ _ h12, h13, ?_, fun q14 hq14 => ?_⟩
    · simp only [List.length_map, List.length_append, List.length_take, List.length_drop, List.length_singleton]
      exact Nat.le_trans (show min at_ us.length + 1 + (us.length - (at_ + 1)) ≤ 61 by omega) (by decide)
    have s14 := same_upd (o := HO.lst ((us.take at_ ++ [l']).map V.ref ++ (us.drop (at_ + 1)).map V.ref)) hq14
    have sall := (s912.trans s13).trans s14
    refine h _ q14 (us.take at_ ++ [l'] ++ us.drop (at_ + 1)) (k9.trans (kc_same sall)) (B9.same sall) ⟨by rw [upd_same, List.map_append (l₁ := us.take at_ ++ [l'])], (B13.new hq14).1, fun v hv => ?_, ?_⟩ ?_
    · rcases List.mem_append.mp hv with e | e
      · rcases List.mem_append.mp e with e | e
        · exact (TG9.row v (List.mem_of_mem_take e)).same sall
        · rw [List.mem_singleton.mp e]
          exact RG.same sall
      · exact (TG9.row v (List.mem_of_mem_drop e)).same sall
    · simp only [List.length_append, List.length_take, List.length_drop, List.length_singleton]
      omega
    · simp only [List.length_append, List.length_take, List.length_drop, List.length_singleton]
      omega
end
end RL
/-! A comprehension whose elements are lists. -/
namespace RL
open PySem PySem.Spec PyProof.Rows L2 RLM
/-- all but D stays -/
def KX (D : Addr) (H H' : Hp) : Prop := ∀ (a : Addr) (o : HO), a ≠ D → H a = some o → H' a = some o
section
variable {J : It} {n : Nat} {G : Hp → Prop} {Y : Nat → Hp → V → Hp → Prop} {g : TG} {tt : TT} {te : TE} {vs : List Nat} {σ : L2.St} {H : Hp} {D : Addr} {Qd : Hp → Prop}
/-- [e for x in ..]: what R says of each, where R may speak of lists too -/
theorem lc_relD (w : Walk J n G Y) (R : Nat → V → Hp → Prop) (hn : n ≤ 100000) (hD : H D = none) (tk : ∀ k v H1 H2, R k v H1 → (∃ zs, H1 D = some (.lst zs)) → KX D H1 H2 → R k v H2) (hG : ∀ H1, Same H H1 → G H1)
    (hs : ∀ i x H1 H2 (Nx : V → Hp → Prop), i < n → (∃ zs, H1 D = some (.lst zs)) → Same H H1 → Y i H1 x H2 → (∀ y H4, R i y H4 → Same H1 H4 → Nx y H4) → g x (wipe σ vs) H2 fun σ2 H3 => wipe σ2 vs = wipe σ vs ∧ te σ2 H3 Nx)
    (hd : ∀ H1 ys, H1 D = some (.lst ys) → ys.length = n → (∀ k y, ys[k]? = some y → R k y H1) → Same H H1 → Qd H1) :
    ∃ W : Nat → Nat → Hp → Prop, (∃ m, W 0 m (upd H D (.lst []))) ∧ ∀ i m H, W i m H →
      (J.stop i H ∧ Qd H) ∨ (J.go i H ∧ ∃ Nx : Hp → Prop, (∀ H', Nx H' → ∃ m', m' < m ∧ W (i + 1) m' H') ∧ ∀ x H', J.yld i H x H' → g x (wipe σ vs) H' fun σ2 H2 => wipe σ2 vs = wipe σ vs ∧ tYes σ2 H2 fun b H3 =>
        if b = true then te σ2 H3 fun y H4 => ∃ acc, H4 D = some (.lst acc) ∧ acc.length < sizeLine ∧ Nx (upd H4 D (.lst (acc ++ [y]))) else Nx H3) := by
  refine lc_it w (fun i H1 => ∃ ys, H1 D = some (.lst ys) ∧ ys.length = i ∧ (∀ k y, ys[k]? = some y → R k y H1) ∧ Same H H1) ⟨[], upd_same, rfl, fun k y e => (by simp at e), same_upd hD⟩ (fun i H1 _ ⟨_, _, _, _, s1⟩ => hG H1 s1) ?_ (fun H1 ⟨ys, h1, h2, h3, h4⟩ => hd H1 ys h1 h2 h3 h4)
  rintro i x H1 H2 hi ⟨ys, h1, h2, h3, s1⟩ hY
  refine hs i x H1 H2 (fun y H4 => ∃ acc, H4 D = some (.lst acc) ∧ acc.length < sizeLine ∧ ∃ zs, (upd H4 D (.lst (acc ++ [y]))) D = some (.lst zs) ∧ zs.length = i + 1 ∧ (∀ k y', zs[k]? = some y' → R k y' (upd H4 D (.lst (acc ++ [y])))) ∧ Same H (upd H4 D (.lst (acc ++ [y])))) hi ⟨ys, h1⟩ s1 hY fun y H4 r s4 => ?_
  have h4 := s4 _ _ h1
  refine ⟨ys, h4, ?_, ys ++ [y], upd_same, by simp [h2], fun k y' e => ?_, same_mut (s1.trans s4) hD⟩
  · rw [h2]
    exact Nat.lt_of_lt_of_le hi (Nat.le_trans hn (by decide))
  · by_cases hk : k < ys.length
    · rw [List.getElem?_append_left hk] at e
      refine tk _ _ _ _ (h3 k y' e) ⟨_, h1⟩ fun a o na ha => ?_
      rw [upd_ne na]
      exact s4 _ _ ha
    · rw [List.getElem?_append_right (by omega)] at e
      have ek : k = ys.length := by
        obtain ⟨z1, _⟩ := List.getElem?_eq_some_iff.mp e
        simp at z1
        omega
      rw [ek, Nat.sub_self] at e
      cases e
      rw [ek, h2]
      refine tk _ _ _ _ r ⟨_, h4⟩ fun a o na ha => ?_
      rw [upd_ne na]
      exact ha
end
/-- lots stay where only a list that is none of theirs changes -/
theorem LotsAt.kx {n m : Nat} {H H' : Hp} {l D : Addr} {q : Nat → Nat → Prop} (k : KX D H H') (ne : l ≠ D) (hD : ∃ zs, H D = some (.lst zs)) (h : LotsAt n H l m q) : LotsAt n H' l m q := by
  obtain ⟨us, h1, h2, h3⟩ := h.ex
  obtain ⟨zs, hD⟩ := hD
  exact ⟨⟨us, k _ _ ne h1, h2, fun i u e => k _ _ (ne_of (h3 i u e) hD (by intro z; cases z)) (h3 i u e)⟩⟩
end RL
/-! A table of any rows holds or not, by the program. -/
namespace RL
open PySem PySem.Spec PyProof.Rows L2 RLM
section
variable {P : Program} {w : World} {K : PySem.W.Frag} {mg : Str → Option Value} {base : Heap}
def spTabHolds (K : PySem.W.Frag) : Sp := fun vs H Q _ => ∃ (c x s r : Addr) (n cnt m : Nat) (E : List (Nat × Nat)) (M : Nat → Nat → Nat) (p : Nat → Prop) (PS : List (Addr × List Nat)) (SN : List (Addr × V × Triple)) (us : List Addr) (kf : Nat → Nat) (Z : Nat → Nat → Nat → Prop), vs = [.ref x, .ref s, vI cnt, .ref r] ∧ BoardAt K c H x n E ∧ Spans n E M ∧ StoryAt n H s p PS SN ∧ (∃ a, a < n ∧ p a) ∧ RowsV n H r us m kf Z ∧ m ≤ 60 ∧ cnt ≤ 24 ∧
  ∀ H', Same H H' → Q (.bl (decB (TabAll n PS.length cnt m kf p (stepR E PS) (missC M SN) Z))) H'
theorem sc_table_holds : FnScope ["board", "story", "count", "rows", "misses", "pace", "ahead_row", "row", "counts"] ["board", "story", "count", "rows"] (defScope s_table_holds) := ⟨rfl, rfl, rfl, by decide +kernel, rfl, by decide +kernel, by decide +kernel⟩
theorem ok_tabHolds (T : Tx K mg) : Has P w K mg base (He.ga K "table_holds") 10 ["board", "story", "count", "rows"] (spTabHolds K) := by
  obtain ⟨⟨fd_look_story, F_look_story, b_look_story⟩, kp_look_story⟩ := ok_look_story (P := P) (w := w) (base := base) T
  obtain ⟨⟨fd_check_count, F_check_count, b_check_count⟩, kp_check_count⟩ := ok_checkC (P := P) (w := w) (base := base) T
  obtain ⟨⟨fd_is_sized, F_is_sized, b_is_sized⟩, kp_is_sized⟩ := ok_sized (P := P) (w := w) (base := base) T
  obtain ⟨⟨fd_is_shut, F_is_shut, b_is_shut⟩, kp_is_shut⟩ := ok_shut (P := P) (w := w) (base := base) T
  obtain ⟨⟨fd_miss_counts, F_miss_counts, b_miss_counts⟩, kp_miss_counts⟩ := ok_missC (P := P) (w := w) (base := base) T
  obtain ⟨⟨fd_row_has, F_row_has, b_row_has⟩, kp_row_has⟩ := ok_rowHas (P := P) (w := w) (base := base) T
  obtain ⟨⟨fd_first_needs, F_first_needs, b_first_needs⟩, kp_first_needs⟩ := ok_firstN (P := P) (w := w) (base := base) T
  obtain ⟨⟨fd_next_needs, F_next_needs, b_next_needs⟩, kp_next_needs⟩ := ok_nextN (P := P) (w := w) (base := base) T
  obtain ⟨fd, F⟩ := T.d_table_holds
  refine ⟨⟨fd, F.ok sc_table_holds (fun vs H Q E h => ?_) (fun cdv A outer s H vs Q E hr h => ?_), F.bindsN fun _ _ _ _ _ _ us hl => match us, hl with | [_, _, _, _], _ => rfl⟩, F.kp⟩
  · obtain ⟨c, x, s, r, n, cnt, m, E, M, p, PS, SN, us, kf, Z, rfl, _⟩ := h
    rfl
  · obtain ⟨c, x, sa, r, n, cnt, m, E, M, p, PS, SN, us, kf, Z, rfl, B, S, SA, ex, R0, m60, c24, h⟩ := h
    have hr_look_story : Room 9 _ := hr.mono (by decide)
    have hr_check_count : Room 3 _ := hr.mono (by decide)
    have hr_is_sized : Room 4 _ := hr.mono (by decide)
    have hr_is_shut : Room 1 _ := hr.mono (by decide)
    have hr_miss_counts : Room 8 _ := hr.mono (by decide)
    have hr_row_has : Room 1 _ := hr.mono (by decide)
    have hr_first_needs : Room 1 _ := hr.mono (by decide)
    have hr_next_needs : Room 6 _ := hr.mono (by decide)
    refine ⟨_, PSs.nox (pss_cons (ps_expr (pe_call F_look_story hr_look_story rfl T.glo_look_story kp_look_story b_look_story .nil pass0 (pa_cons (pv 0) (pa_cons (pv 1) pa_nil))))
      (pss_cons (ps_expr (pe_call F_check_count hr_check_count rfl T.glo_check_count kp_check_count b_check_count .nil pass0 (pa_cons (pv 2) pa_nil)))
      (pss_cons (ps_if (PW.pt (pw_or (pt_not (pt_val (pe_call F_is_sized hr_is_sized rfl T.glo_is_sized kp_is_sized b_is_sized .nil pass0 (pa_cons (pv 0) (pa_cons (pv 1) (pa_cons (pv 2) (pa_cons (pv 3) pa_nil))))))) (pw_or1 (pt_not (pt_val (pe_call F_is_shut hr_is_shut rfl T.glo_is_shut kp_is_shut b_is_shut .nil pass0 (pa_cons (pv 3) pa_nil))))))) (pss_one (ps_ret pe_bl)) pss_nil)
      (pss_cons (ps_set (i := 4) sc_table_holds.nd rfl (Or.inl rfl) (pe_call F_miss_counts hr_miss_counts rfl T.glo_miss_counts kp_miss_counts b_miss_counts .nil pass0 (pa_cons (pv 0) (pa_cons (pv 1) pa_nil))))
      (pss_cons (ps_if (pt_not (pt_val (pe_call F_row_has hr_row_has rfl T.glo_row_has kp_row_has b_row_has .nil pass0 (pa_cons (pe_ix (ixL (K := K)) (pv 3) pe_int (fun _ _ => rfl)) (pa_cons (pe_call F_first_needs hr_first_needs rfl T.glo_first_needs kp_first_needs b_first_needs .nil pass0 (pa_cons (pv 1) (pa_cons (pe_ix (ixL (K := K)) (pv 4) pe_int (fun _ _ => rfl)) pa_nil))) pa_nil))))) (pss_one (ps_ret pe_bl)) pss_nil)
      (pss_one (ps_ret (pe_callB (allK (K := K)) (by rfl) T.free_all (by decide +kernel) (pa_cons (pe_lc (own := [("pace", 5), ("ahead_row", 6), ("row", 7), ("counts", 8)]) (tt := tYes) rfl sc_table_holds.nd (pi_z4 true false false false (K := K) (by rfl) T.free_zip (pa_cons (pe_ix (ixT (K := K)) (pv 1) pe_int (fun _ _ => rfl)) (pa_cons (pv 3) (pa_cons (pe_slice (slL (K := K)) (pv 3) (po_some pe_int) po_none) (pa_cons (pe_slice (slL (K := K)) (pv 4) (po_some pe_int) po_none) pa_nil))))) (blkOk_by (by kernel_rfl)) (fun _ _ _ _ _ => (pgT (K := K) (n := 4) rfl (pgs_cons (pg_name (i := 5) sc_table_holds.nd rfl (Or.inl rfl)) (pgs_cons (pg_name (i := 6) sc_table_holds.nd rfl (Or.inl rfl)) (pgs_cons (pg_name (i := 7) sc_table_holds.nd rfl (Or.inl rfl)) (pgs_cons (pg_name (i := 8) sc_table_holds.nd rfl (Or.inl rfl)) pgs_nil)))))) (fun _ _ _ _ _ => pts_nil) (fun _ _ _ _ _ => (pe_call F_row_has hr_row_has rfl T.glo_row_has kp_row_has b_row_has .nil pass0 (pa_cons (pv 7) (pa_cons (pe_call F_next_needs hr_next_needs rfl T.glo_next_needs kp_next_needs b_next_needs .nil pass0 (pa_cons (pv 0) (pa_cons (pv 5) (pa_cons (pv 6) (pa_cons (pv 8) pa_nil))))) pa_nil))))) pa_nil))))))))), ?_⟩
    have n8 := B.hi
    have lp := SA.lp
    have lus := R0.len
    obtain ⟨TO, eTO⟩ : ∃ TO : Prop, TO = TabAll n PS.length cnt m kf p (stepR E PS) (missC M SN) Z := ⟨_, rfl⟩
    have no : ∀ {H'}, Same H H' → ¬ TO → Q (.bl false) H' := fun s k => by
      have := h _ s
      rw [← eTO, show decB TO = false from Bool.eq_false_iff.mpr fun z => k (decB_true.mp z)] at this
      exact this
    refine ⟨_, rfl, _, rfl, c, x, sa, n, E, p, PS, SN, rfl, B, SA, ex, fun H1 s1 => ?_⟩
    refine ⟨_, rfl, cnt, rfl, c24, ?_⟩
    refine ⟨_, rfl, _, rfl, _, rfl, _, rfl, c, x, sa, r, n, cnt, m, E, p, PS, SN, us, kf, Z, rfl, B.same s1, SA.same s1, R0.same s1, m60, fun H2 s2 => ⟨_, rfl, ?_⟩⟩
    have s02 := s1.trans s2
    by_cases hm : m = PS.length + 1 ∧ ∀ i, i < m → kf i = cnt + 1
    rotate_left
    · rw [show decB (m = PS.length + 1 ∧ ∀ i, i < m → kf i = cnt + 1) = false from Bool.eq_false_iff.mpr fun z => hm (decB_true.mp z)]
      exact iteT (no s02 fun z => hm (by rw [eTO] at z; exact ⟨z.1, z.2.1⟩))
    rw [decB_true.mpr hm]
    obtain ⟨hm, hk⟩ := hm
    refine iteF ?_
    have R2 := R0.same s02
    have hul : us[PS.length]? = some (us[PS.length]'(by omega)) := List.getElem?_eq_getElem _
    generalize us[PS.length]'(by omega) = ul at hul
    have eu : us = us.take PS.length ++ [ul] := by
      have e := List.take_append_drop PS.length us
      rw [List.drop_eq_getElem_cons (by omega), List.drop_of_length_le (by omega)] at e
      have e2 : us[PS.length]'(by omega) = ul := by
        rw [List.getElem?_eq_getElem (by omega)] at hul
        exact Option.some.inj hul
      rw [e2] at e
      exact e.symm
    have kfl := hk PS.length (by omega)
    refine ⟨_, rfl, r, ul, us.take PS.length, n, kf PS.length, Z PS.length, rfl, by rw [← eu]; exact R2.at_, R2.row _ _ hul, by omega, fun H3 s3 => ⟨_, rfl, ?_⟩⟩
    rw [kfl]
    have s03 := s02.trans s3
    by_cases hl : ∀ k, k < cnt + 1 → ∀ b, b < n → ¬ Z PS.length k b
    rotate_left
    · rw [show decB (∀ k, k < cnt + 1 → ∀ b, b < n → ¬ Z PS.length k b) = false from Bool.eq_false_iff.mpr fun z => hl (decB_true.mp z)]
      exact iteT (no s03 fun z => hl (by rw [eTO] at z; exact z.2.2.last))
    rw [decB_true.mpr hl]
    refine iteF ?_
    refine ⟨_, rfl, _, rfl, c, x, sa, n, E, M, p, PS, SN, rfl, B.same s03, S, SA.same s03, fun H4 D rs G4 _ _ s4 => ?_⟩
    have s04 := s03.trans s4
    have SA4 := SA.same s04
    have R4 := R0.same s04
    obtain ⟨tl, tp, ts, hs, htl, htp, hts⟩ := SA4.ex
    obtain ⟨r0, hr0, row0⟩ := G4.get (a := 0) (by omega)
    have hu0 : us[0]? = some (us[0]'(by omega)) := List.getElem?_eq_getElem _
    generalize us[0]'(by omega) = u0 at hu0
    have kf0 := hk 0 (by omega)
    refine ⟨_, rfl, r, _, 0, _, rfl, rfl, SqL.of R4.at_, atI_nat (j := 0) (get_map hu0), _, rfl, _, rfl, D, _, 0, _, rfl, rfl, SqL.of G4.at_, atI_nat (j := 0) (get_map hr0), sa, r0, n, p, PS, SN, missC M SN 0, rfl, n8, SA4, row0, fun H5 d L N5 cL _ s5 => ?_⟩
    refine ⟨u0, d, n, kf 0, Z 0, L, rfl, n8, (R4.same s5).row 0 u0 hu0, by omega, N5, fun H6 s6 => ⟨_, rfl, ?_⟩⟩
    have s46 := s5.trans s6
    have s06 := s04.trans s46
    have ef : decB (∀ b v, (b, v) ∈ L → ∀ k, v ≤ k → k < kf 0 → Z 0 k b) = decB (∀ b, b < n → p b → ∀ k, missC M SN 0 b ≤ k → k < cnt + 1 → Z 0 k b) := by
      refine Bool.eq_iff_iff.mpr ?_
      rw [decB_true, decB_true, kf0]
      constructor
      · intro z b bn pb k h1 h2
        exact z b _ ((cL b _).2 ⟨bn, pb, rfl⟩) k h1 h2
      · intro z b v hv k h1 h2
        obtain ⟨z1, z2, z3⟩ := (cL b v).1 hv
        exact z b z1 z2 k (by omega) h2
    rw [ef]
    by_cases hf : ∀ b, b < n → p b → ∀ k, missC M SN 0 b ≤ k → k < cnt + 1 → Z 0 k b
    rotate_left
    · rw [show decB (∀ b, b < n → p b → ∀ k, missC M SN 0 b ≤ k → k < cnt + 1 → Z 0 k b) = false from Bool.eq_false_iff.mpr fun z => hf (decB_true.mp z)]
      exact iteT (no s06 fun z => hf (by rw [eTO] at z; exact z.2.2.first))
    rw [decB_true.mpr hf]
    refine iteF ?_
    clear ef N5 cL
    -- step by step
    refine ⟨_, rfl, sa, _, 1, _, rfl, rfl, SqT.of (s46 _ _ hs), rfl, _, rfl, _, rfl, 1, rfl, r, _, rfl, SqL.of (s46 _ _ R4.at_), fun l7 hl7 => ?_⟩
    have e7 : cutV (us.map V.ref) (some 1) none = (us.drop 1).map V.ref := by
      have := cut_from (xs := us.map V.ref) 1
      rw [show ((1 : Nat) : Int) = 1 from rfl] at this
      rw [this, List.map_drop]
    have s7 := same_upd (o := HO.lst (cutV (us.map V.ref) (some 1) none)) hl7
    have h7 : (L2.upd H6 l7 (.lst (cutV (us.map V.ref) (some 1) none))) l7 = some (.lst ((us.drop 1).map V.ref)) := by rw [upd_same, e7]
    generalize L2.upd H6 l7 (.lst (cutV (us.map V.ref) (some 1) none)) = H7 at s7 h7
    have s47 := s46.trans s7
    refine ⟨_, rfl, 1, rfl, D, _, rfl, SqL.of (s47 _ _ G4.at_), fun l8 hl8 => ?_⟩
    have e8 : cutV (rs.map V.ref) (some 1) none = (rs.drop 1).map V.ref := by
      have := cut_from (xs := rs.map V.ref) 1
      rw [show ((1 : Nat) : Int) = 1 from rfl] at this
      rw [this, List.map_drop]
    have s8 := same_upd (o := HO.lst (cutV (rs.map V.ref) (some 1) none)) hl8
    have h8 : (L2.upd H7 l8 (.lst (cutV (rs.map V.ref) (some 1) none))) l8 = some (.lst ((rs.drop 1).map V.ref)) := by rw [upd_same, e8]
    generalize L2.upd H7 l8 (.lst (cutV (rs.map V.ref) (some 1) none)) = H8 at s8 h8
    have h78 := s8 _ _ h7
    have s48 := s47.trans s8
    have lrs := G4.len
    refine ⟨tp, r, l7, l8, _, _, _, _, rfl, SqT.of (s48 _ _ htp), SqL.of (s48 _ _ R4.at_), SqL.of h78, SqL.of h8, fun LL hLL => ?_⟩
    refine lc_val (walk_z4 (u1 := true) (u2 := false) (u3 := false) (u4 := false) (K := K) (a := tp) (b := r) (c := l7) (d := l8) (xs := PS.map fun q => V.ref q.1) (ys := us.map V.ref) (zs := (us.drop 1).map V.ref) (us := (rs.drop 1).map V.ref) (n := PS.length) (by simp only [List.length_map, List.length_drop]; omega)) (fun i => V.bl (decB (∀ l, l < cnt + 1 → NextOk n cnt (stepR E PS) (missC M SN) Z i l))) (by omega) hLL (fun H9 s9 => ⟨SqT.of (s9 _ _ (s48 _ _ htp)), SqL.of (s9 _ _ (s48 _ _ R4.at_)), SqL.of (s9 _ _ h78), SqL.of (s9 _ _ h8)⟩) ?_ ?_
    · rintro i y H9 H10 Nx hi s9 ⟨T1, y1, y2, y3, y4, rfl, hT, rfl, e1, e2, e3, e4⟩ kk
      have hq : PS[i]? = some PS[i] := List.getElem?_eq_getElem hi
      generalize PS[i] = q at hq
      have e1 : (PS.map fun q => V.ref q.1)[i]? = some y1 := e1
      rw [get_map (f := fun q : Addr × List Nat => V.ref q.1) hq] at e1
      cases e1
      have hui : us[i]? = some (us[i]'(by omega)) := List.getElem?_eq_getElem _
      generalize us[i]'(by omega) = ui at hui
      have e2 : (us.map V.ref)[i]? = some y2 := e2
      rw [get_map hui] at e2
      cases e2
      have huj : us[i + 1]? = some (us[i + 1]'(by omega)) := List.getElem?_eq_getElem _
      generalize us[i + 1]'(by omega) = uj at huj
      have e3 : ((us.drop 1).map V.ref)[i]? = some y3 := e3
      rw [List.getElem?_map, List.getElem?_drop, Nat.add_comm 1 i, huj] at e3
      have e3 : V.ref uj = y3 := Option.some.inj e3
      subst e3
      have hrj : rs[i + 1]? = some (rs[i + 1]'(by omega)) := List.getElem?_eq_getElem _
      generalize rs[i + 1]'(by omega) = rj at hrj
      have e4 : ((rs.drop 1).map V.ref)[i]? = some y4 := e4
      rw [List.getElem?_map, List.getElem?_drop, Nat.add_comm 1 i, hrj] at e4
      have e4 : V.ref rj = y4 := Option.some.inj e4
      subst e4
      have s10 : Same H9 (upd H9 T1 (.tup [.ref q.1, .ref ui, .ref uj, .ref rj])) := same_upd hT
      have hT10 : (upd H9 T1 (.tup [.ref q.1, .ref ui, .ref uj, .ref rj])) T1 = some (.tup [.ref q.1, .ref ui, .ref uj, .ref rj]) := upd_same
      generalize upd H9 T1 (.tup [.ref q.1, .ref ui, .ref uj, .ref rj]) = H10 at s10 hT10 kk
      have s410 := (s48.trans s9).trans s10
      have PQ := SA4.pc q (List.mem_of_getElem? hq)
      have kfi := hk i (by omega)
      have kfj := hk (i + 1) (by omega)
      refine ⟨T1, _, rfl, SqT.of hT10, rfl, _, _, rfl, _, _, rfl, _, _, rfl, _, _, rfl, rfl, rfl, ?_⟩
      refine ⟨_, rfl, _, rfl, _, rfl, _, rfl, _, rfl, c, x, q.1, ui, rj, n, kf i, E, q.2, Z i, missC M SN (i + 1), rfl, B.same (s04.trans s410), s410 _ _ PQ.1, PQ.2, (R4.same s410).row i ui hui, by omega, s410 _ _ (G4.row (i + 1) rj hrj), fun H11 d9 L9 N9 cL9 _ s11 => ?_⟩
      refine ⟨uj, d9, n, kf (i + 1), Z (i + 1), L9, rfl, n8, (R4.same (s410.trans s11)).row (i + 1) uj huj, by omega, N9, fun H12 s12 => ?_⟩
      have := kk _ ((s10.trans s11).trans s12)
      rw [show decB (∀ l, l < cnt + 1 → NextOk n cnt (stepR E PS) (missC M SN) Z i l) = decB (∀ b v, (b, v) ∈ L9 → ∀ k, v ≤ k → k < kf (i + 1) → Z (i + 1) k b) from Bool.eq_iff_iff.mpr ?_] at this
      · exact this
      rw [decB_true, decB_true, kfj]
      constructor
      · intro z b v hv k h1 h2
        obtain ⟨bn, k', z1, ⟨a, an, z2, z3⟩, z4⟩ := (cL9 b k).1 ⟨v, hv, h1⟩
        exact z k' (by omega) a b an bn z2 ⟨q, hq, z3⟩ k z4 h2
      · rintro z l hl' a b an bn z1 ⟨q', hq', z2⟩ k h1 h2
        rw [hq] at hq'
        cases hq'
        obtain ⟨v, hv, hv2⟩ := (cL9 b k).2 ⟨bn, l, by omega, ⟨a, an, z1, z2⟩, h1⟩
        exact z b v hv k hv2 h2
    · intro H9 h9 s9
      refine ⟨LL, (List.range PS.length).map fun i => decB (∀ l, l < cnt + 1 → NextOk n cnt (stepR E PS) (missC M SN) Z i l), rfl, SqL.of (by rw [h9, List.map_map]; rfl), ?_⟩
      have := h _ ((s04.trans s48).trans s9)
      rw [← eTO, show decB TO = ((List.range PS.length).map fun i => decB (∀ l, l < cnt + 1 → NextOk n cnt (stepR E PS) (missC M SN) Z i l)).all id from Bool.eq_iff_iff.mpr ?_] at this
      · exact this
      rw [decB_true, List.all_eq_true, eTO]
      constructor
      · rintro ⟨_, _, ok⟩ v hv
        obtain ⟨i, hi, rfl⟩ := List.mem_map.mp hv
        exact decB_true.mpr fun l hl' a b an bn z1 z2 k h1 h2 => ok.next i (List.mem_range.mp hi) l hl' a b an bn z1 z2 k h1 h2
      · intro z
        exact ⟨hm, hk, hf, fun i hi l hl' a b an bn z1 z2 k h1 h2 => decB_true.mp (z _ (List.mem_map.mpr ⟨i, List.mem_range.mpr hi, rfl⟩)) l hl' a b an bn z1 z2 k h1 h2, hl⟩
end
end RL
/-! the text of a table -/
namespace RL
open PySem PySem.Spec PyProof.Rows L2 RLM
section
variable {n : Nat} {K : PySem.W.Frag} {H : Hp}
theorem rows_shownM {m : Nat} {q : Nat → Nat → Prop} (n8 : n ≤ 8) (m30 : m ≤ 30) : (PyData.list (((List.range m).map fun k => lotP n (q k)).map numD)).shown.length ≤ 4000 ∧ (PyData.list (((List.range m).map fun k => lotP n (q k)).map numD)).showable = true ∧ (PyData.list (((List.range m).map fun k => lotP n (q k)).map numD)).hasDict = false ∧ (PyData.list (((List.range m).map fun k => lotP n (q k)).map numD)).depth ≤ 2 := by
  obtain ⟨h1, h2, h3, h4, h5⟩ := nums_shown (xss := (List.range m).map fun k => lotP n (q k)) fun xs hx => by
    obtain ⟨k, _, rfl⟩ := List.mem_map.mp hx
    have := lotP_len n (q k)
    exact ⟨fun z hz => Nat.lt_of_lt_of_le (mem_lotP.mp hz).1 n8, by omega⟩
  have := listText_len_le (PyData.shownAll (((List.range m).map fun k => lotP n (q k)).map numD))
  rw [List.length_map, List.length_range] at h1 h5
  simp only [PyData.showable, PyData.hasDict, PyData.depth, PyData.shown]
  exact ⟨by omega, h2, h3, by omega⟩
theorem tab_list (n8 : n ≤ 8) : ∀ us : List Addr, (∀ u ∈ us, ∃ k q, k ≤ 30 ∧ LotsAt n H u k q) → ∃ ds : List PyData, ((PyData.shownAll ds).map (·.length)).sum ≤ 4000 * us.length ∧ PyData.showableAll ds = true ∧ PyData.hasDictAll ds = false ∧ PyData.depthAll ds ≤ 2 ∧ (PyData.shownAll ds).length = us.length ∧ ∀ H', Same H H' → DpAll K H' (us.map V.ref) ds
  | [], _ => ⟨[], by simp [PyData.shownAll], by simp [PyData.showableAll], by simp [PyData.hasDictAll], by simp [PyData.depthAll], by simp [PyData.shownAll], fun _ _ => .nil⟩
  | u :: us, h => by
    obtain ⟨ds, h1, h2, h3, h4, h5, h6⟩ := tab_list n8 us fun v hv => h v (by simp [hv])
    obtain ⟨k, q, k30, LA⟩ := h u (by simp)
    obtain ⟨n1, n2, n3, n4⟩ := rows_shownM (q := q) n8 k30
    refine ⟨_ :: ds, ?_, ?_, ?_, ?_, ?_, fun H' s => .cons (d := .list (((List.range k).map fun k => lotP n (q k)).map numD)) ?_ (h6 H' s)⟩
    · simp only [PyData.shownAll, List.map_cons, List.sum_cons, List.length_cons]
      omega
    · simp only [PyData.showableAll]
      rw [n2, h2]
      rfl
    · simp only [PyData.hasDictAll]
      rw [n3, h3]
      rfl
    · simp only [PyData.depthAll]
      omega
    · simp only [PyData.shownAll, List.length_cons]
      rw [h5]
    · have := dp_lots (K := K) (LA.same s)
      rw [List.map_map] at this ⊢
      exact this
theorem tab_data {r : Addr} {us : List Addr} (hr : H r = some (.lst (us.map V.ref))) (hu : ∀ u ∈ us, ∃ k q, k ≤ 30 ∧ LotsAt n H u k q) (n8 : n ≤ 8) (l : us.length ≤ 60) : ∃ d : PyData, d.showable = true ∧ d.hasDict = false ∧ d.depth ≤ 60 ∧ d.shown.length ≤ sizeLine ∧ ∀ H', Same H H' → Dp K H' (.ref r) d := by
  obtain ⟨ds, h1, h2, h3, h4, h5, h6⟩ := tab_list (K := K) n8 us hu
  have := listText_len_le (PyData.shownAll ds)
  refine ⟨.list ds, ?_, ?_, ?_, ?_, fun H' s => .lst (SqL.of (s _ _ hr)) (h6 H' s)⟩
  · simp only [PyData.showable]
    exact h2
  · simp only [PyData.hasDict]
    exact h3
  · simp only [PyData.depth]
    omega
  · simp only [PyData.shown]
    exact Nat.le_trans (show _ ≤ 300000 by omega) (by decide)
/-- a table of rows, with the rows' own places -/
theorem tab_rows {c r : Addr} {us : List Addr} (h : TabG n c H r us) : ∃ kf Z, RowsV n H r us us.length kf Z ∧ ∀ i, kf i ≤ 8 := by
  classical
  let kf : Nat → Nat := fun i => if hi : i < us.length then (h.row _ (List.getElem_mem hi)).2.choose else 0
  have kf8 : ∀ i, kf i ≤ 8 := fun i => by
    show (if hi : i < us.length then (h.row _ (List.getElem_mem hi)).2.choose else 0) ≤ 8
    split
    · rename_i hi
      exact (h.row _ (List.getElem_mem hi)).2.choose_spec.choose_spec.1
    · omega
  let Z : Nat → Nat → Nat → Prop := fun i => if hi : i < us.length then (h.row _ (List.getElem_mem hi)).2.choose_spec.choose else fun _ _ => False
  refine ⟨kf, Z, ⟨h.at_, rfl, fun i u e => ?_, fun i _ => Nat.le_trans (kf8 i) (by omega)⟩, kf8⟩
  obtain ⟨hi, eu⟩ := List.getElem?_eq_some_iff.mp e
  subst eu
  have e1 : kf i = (h.row _ (List.getElem_mem hi)).2.choose := dif_pos hi
  have e2 : Z i = (h.row _ (List.getElem_mem hi)).2.choose_spec.choose := dif_pos hi
  rw [e1, e2]
  exact (h.row _ (List.getElem_mem hi)).2.choose_spec.choose_spec.2
theorem lots_neC {b c u : Addr} {m : Nat} {q : Nat → Nat → Prop} (h : LotsAt n H u m q) (m1 : 1 ≤ m) (B : Box b c H) : u ≠ c := fun e => by
  obtain ⟨us, h1, h2, _⟩ := h.ex
  obtain ⟨ns, _, _, _, _, hc, _⟩ := B.ex
  rw [e, hc] at h1
  have h1 : ns.map V.int = us.map V.ref := HO.lst.inj (Option.some.inj h1)
  cases us with
  | nil => simp at h2; omega
  | cons u us =>
    cases ns with
    | nil => cases h1
    | cons z zs => cases h1
end
end RL
namespace RL
open PySem PySem.Spec PyProof.Rows L2 RLM
section
variable {P : Program} {w : World} {K : PySem.W.Frag} {mg : Str → Option Value} {base : Heap}
theorem sc_law : FnScope ["_law_script", "_law_box_here", "_law_turn", "_law_board_here", "_law_spans_here", "_law_here", "_law_many", "_law_story_here", "_law_lot_here", "_law_paces", "_law_seen_here", "_law_count", "_law_rows", "_law_bending", "_law_kept", "_law_due", "_law_beat"] ["_law_script"] (defScope s_law) := ⟨rfl, rfl, rfl, by decide +kernel, rfl, by decide +kernel, by decide +kernel⟩
theorem ok_law (T : Tx K mg) {fd : FuncData} (F : FnP K "law" "law" s_law [] (He.ga K "law") fd) {a : Addr} {ns : List Int} {s : Shared} (hl : ns.length ≤ 63) (hb : ∀ (s : Shared) (u : Value), BindsTo s fd ⟨[u], []⟩ [("_law_script", u)]) (hR : Room 11 callerA) : RLG.RunsTrue P w K mg (He.ga K "law") a ns s := by
  refine RLG.runs_of F sc_law hR hb (fun cdv base H hr hS => ?_)
  obtain ⟨⟨fd_law_box, F_law_box, b_law_box⟩, kp_law_box⟩ := ok_box (P := P) (w := w) (base := base) T
  obtain ⟨⟨fd_law_pick, F_law_pick, b_law_pick⟩, kp_law_pick⟩ := ok_pick (P := P) (w := w) (base := base) T
  obtain ⟨⟨fd_law_ground, F_law_ground, b_law_ground⟩, kp_law_ground⟩ := ok_ground (P := P) (w := w) (base := base) T
  obtain ⟨⟨fd_law_story, F_law_story, b_law_story⟩, kp_law_story⟩ := ok_story (P := P) (w := w) (base := base) T
  obtain ⟨⟨fd_table, F_table, b_table⟩, kp_table⟩ := ok_table (P := P) (w := w) (base := base) T
  obtain ⟨⟨fd_law_from, F_law_from, b_law_from⟩, kp_law_from⟩ := ok_from (P := P) (w := w) (base := base) T
  obtain ⟨⟨fd_law_bent_rows, F_law_bent_rows, b_law_bent_rows⟩, kp_law_bent_rows⟩ := ok_bentRows (P := P) (w := w) (base := base) T
  obtain ⟨⟨fd_law_table_right, F_law_table_right, b_law_table_right⟩, kp_law_table_right⟩ := ok_tabRightV (P := P) (w := w) (base := base) T
  obtain ⟨⟨fd_table_holds, F_table_holds, b_table_holds⟩, kp_table_holds⟩ := ok_tabHolds (P := P) (w := w) (base := base) T
  obtain ⟨⟨fd_law_same, F_law_same, b_law_same⟩, kp_law_same⟩ := ok_same (P := P) (w := w) (base := base) T 1
  · have _u := hS
    have hr_law_box : Room 1 _ := hr.mono (by decide)
    have hr_law_pick : Room 1 _ := hr.mono (by decide)
    have hr_law_ground : Room 7 _ := hr.mono (by decide)
    have hr_law_story : Room 5 _ := hr.mono (by decide)
    have hr_table : Room 10 _ := hr.mono (by decide)
    have hr_law_from : Room 2 _ := hr.mono (by decide)
    have hr_law_bent_rows : Room 2 _ := hr.mono (by decide)
    have hr_law_table_right : Room 3 _ := hr.mono (by decide)
    have hr_table_holds : Room 10 _ := hr.mono (by decide)
    have hr_law_same : Room 2 _ := hr.mono (by decide)
    refine ⟨_, PSs.nox (pss_cons (ps_set (i := 1) sc_law.nd rfl (Or.inl rfl) (pe_call F_law_box hr_law_box rfl T.glo_law_box kp_law_box b_law_box .nil pass0 (pa_cons (pv 0) pa_nil)))
      (pss_cons (ps_for PassesOwn.never rfl (pi_range1 (by rfl) T.free_range (pa_cons pe_int pa_nil)) (pg_name (i := 2) sc_law.nd rfl (Or.inl rfl)) (pss_cons (ps_asg (pe_call F_law_ground hr_law_ground rfl T.glo_law_ground kp_law_ground b_law_ground .nil pass0 (pa_cons (pv 1) (pa_cons pe_int pa_nil))) (pgT (K := K) (n := 3) rfl (pgs_cons (pg_name (i := 3) sc_law.nd rfl (Or.inl rfl)) (pgs_cons (pg_name (i := 4) sc_law.nd rfl (Or.inl rfl)) (pgs_cons (pg_name (i := 5) sc_law.nd rfl (Or.inl rfl)) pgs_nil)))))
      (pss_cons (ps_asg (pe_tup (pa_cons (pe_ix (ixT (K := K)) (pv 3) pe_int (fun _ _ => rfl)) (pa_cons (pe_call F_law_story hr_law_story rfl T.glo_law_story kp_law_story b_law_story .nil pass0 (pa_cons (pv 1) (pa_cons (pv 3) (pa_cons (pv 4) (pa_cons (pe_call F_law_pick hr_law_pick rfl T.glo_law_pick kp_law_pick b_law_pick .nil pass0 (pa_cons (pv 1) (pa_cons pe_int pa_nil))) (pa_cons pe_int pa_nil)))))) pa_nil))) (pgT (K := K) (n := 2) rfl (pgs_cons (pg_name (i := 6) sc_law.nd rfl (Or.inr rfl)) (pgs_cons (pg_name (i := 7) sc_law.nd rfl (Or.inl rfl)) pgs_nil))))
      (pss_cons (ps_asg (pv 7) (pgT (K := K) (n := 3) rfl (pgs_cons (pg_name (i := 8) sc_law.nd rfl (Or.inl rfl)) (pgs_cons (pg_name (i := 9) sc_law.nd rfl (Or.inl rfl)) (pgs_cons (pg_name (i := 10) sc_law.nd rfl (Or.inl rfl)) pgs_nil)))))
      (C8.pss_cut (ps_set (i := 10) sc_law.nd rfl (Or.inl rfl) (pe_op catS (pv 10) (pe_op repTS0 (pe_tup (pa_cons (pe_tup (pa_cons (pe_call F_law_pick hr_law_pick rfl T.glo_law_pick kp_law_pick b_law_pick .nil pass0 (pa_cons (pv 1) (pa_cons (pe_op op_add (pe_callB (lenK (K := K)) (by rfl) T.free_len (by decide +kernel) (pa_cons (pv 9) pa_nil)) pe_int) pa_nil))) (pa_cons (pe_tup (pa_cons pe_str (pa_cons (pe_tup pa_nil) pa_nil))) (pa_cons pe_int pa_nil)))) pa_nil)) (pe_call F_law_pick hr_law_pick rfl T.glo_law_pick kp_law_pick b_law_pick .nil pass0 (pa_cons (pv 1) (pa_cons pe_int pa_nil))))))
      (pss_cons (ps_set (i := 7) sc_law.nd rfl (Or.inl rfl) (pe_tup (pa_cons (pv 8) (pa_cons (pv 9) (pa_cons (pv 10) pa_nil)))))
      (pss_cons (ps_set (i := 11) sc_law.nd rfl (Or.inr rfl) (pe_call F_law_pick hr_law_pick rfl T.glo_law_pick kp_law_pick b_law_pick .nil pass0 (pa_cons (pv 1) (pa_cons pe_int pa_nil))))
      (C8.pss_cut (ps_set (i := 12) sc_law.nd rfl (Or.inl rfl) (pe_call F_table hr_table rfl T.glo_table kp_table b_table .nil pass0 (pa_cons (pv 5) (pa_cons (pv 7) (pa_cons (pv 11) pa_nil)))))
      (C8.pss_cut (ps_if (PW.pt (pw_or (pt_cmpR op_isN (pv 12) pe_non (nomark _)) (pw_or1 (pt_cmpR op_eq (pe_call F_law_pick hr_law_pick rfl T.glo_law_pick kp_law_pick b_law_pick .nil pass0 (pa_cons (pv 1) (pa_cons pe_int pa_nil))) pe_int (nomark _))))) (pss_one (ps_set (i := 12) sc_law.nd rfl (Or.inl rfl) (pe_op op_cat (pe_lc (own := [("_law_beat", 16)]) (g := (gName 16)) (tt := tYes) rfl sc_law.nd (piT (K := K) (pv 9)) (blkOk_by (by kernel_rfl)) (fun _ _ _ _ _ => (pg_name (i := 16) sc_law.nd rfl (Or.inl rfl))) (fun _ _ _ _ _ => pts_nil) (fun _ _ _ _ _ => (pe_op op_rep (pe_lst (pa_cons (pe_tupRg rfl (by rfl) T.free_tuple (prg_1 (by rfl) T.free_range (pv 6))) pa_nil)) (pe_op op_add (pv 11) pe_int)))) (pe_lst (pa_cons (pe_op op_rep (pe_lst (pa_cons (pe_tup pa_nil) pa_nil)) (pe_op op_add (pv 11) pe_int)) pa_nil))))) pss_nil)
      (pss_cons (ps_for PassesOwn.never rfl (pi_range1 (by rfl) T.free_range (pa_cons (pe_call F_law_pick hr_law_pick rfl T.glo_law_pick kp_law_pick b_law_pick .nil pass0 (pa_cons (pv 1) (pa_cons pe_int pa_nil))) pa_nil)) (pg_name (i := 13) sc_law.nd rfl (Or.inl rfl)) (pss_one (ps_set (i := 12) sc_law.nd rfl (Or.inl rfl) (pe_call F_law_bent_rows hr_law_bent_rows rfl T.glo_law_bent_rows kp_law_bent_rows b_law_bent_rows .nil pass0 (pa_cons (pv 1) (pa_cons (pv 12) (pa_cons (pv 6) pa_nil)))))))
      (pss_cons (ps_set (i := 11) sc_law.nd rfl (Or.inr rfl) (pe_call F_law_from hr_law_from rfl T.glo_law_from kp_law_from b_law_from .nil pass0 (pa_cons (pv 1) (pa_cons (pe_lst (pa_cons (pv 11) (pa_cons (pv 11) (pa_cons (pv 11) (pa_cons (pe_callB (call_max2 rfl) (by rfl) T.free_max (by decide +kernel) (pa_cons pe_int (pa_cons (pe_op op_sub (pv 11) pe_int) pa_nil))) (pa_cons (pe_op op_add (pv 11) pe_int) pa_nil)))))) pa_nil))))
      (pss_cons (ps_set (i := 14) sc_law.nd rfl (Or.inl rfl) (pe_callB (reprK (K := K) rfl hr.units) (by rfl) T.free_repr (by decide +kernel) (pa_cons (pv 12) pa_nil)))
      (pss_cons (ps_set (i := 15) sc_law.nd rfl (Or.inl rfl) (pe_call F_law_table_right hr_law_table_right rfl T.glo_law_table_right kp_law_table_right b_law_table_right .nil pass0 (pa_cons (pv 4) (pa_cons (pv 7) (pa_cons (pv 11) (pa_cons (pv 12) pa_nil))))))
      (pss_one (ps_if (PW.pt (pw_or (pt_not (pt_val (pe_call F_law_same hr_law_same rfl T.glo_law_same kp_law_same b_law_same .nil pass0 (pa_cons (pe_call F_table_holds hr_table_holds rfl T.glo_table_holds kp_table_holds b_table_holds .nil pass0 (pa_cons (pv 5) (pa_cons (pv 7) (pa_cons (pv 11) (pa_cons (pv 12) pa_nil))))) (pa_cons (pv 15) pa_nil))))) (pw_or1 (pt_cmpR op_ne (pe_callB (reprK (K := K) rfl hr.units) (by rfl) T.free_repr (by decide +kernel) (pa_cons (pv 12) pa_nil)) (pv 14) (nomark _))))) (pss_one (ps_ret pe_bl)) pss_nil)))))))))))))))
      (pss_one (ps_ret pe_bl)))), ?_⟩
    refine ⟨_, rfl, a, ns, rfl, hS, hl, fun H1 b c s1 B1 => ?_⟩
    refine ⟨4, rfl, by decide, by decide, for_range (lo := 0) (n := 4) (fun i σ H2 => (∃ (v2 v3 v4 v5 v6 v7 v8 v9 v10 v11 v12 v13 v14 v15 v16 : Option V), σ = [some (.ref a), some (.ref b), v2, v3, v4, v5, v6, v7, v8, v9, v10, v11, v12, v13, v14, v15, v16]) ∧ Box b c H2)
      ⟨⟨none, none, none, none, none, none, none, none, none, none, none, none, none, none, none, rfl⟩, B1⟩ ?_ (fun σ H2 _ => rfl)⟩
    rintro i σ H2 hi ⟨⟨v2, v3, v4, v5, v6, v7, v8, v9, v10, v11, v12, v13, v14, v15, v16, rfl⟩, B2⟩
    refine ⟨_, rfl, b, c, rfl, B2, fun H3 u t l D x n L rs M E n1 n8 hu ht PA WO eE TA S Bd k3 B3 => ?_⟩
    refine ⟨u, _, rfl, SqT.of hu, rfl, _, _, rfl, _, _, rfl, _, _, rfl, rfl, ?_⟩
    -- how many, the story
    refine ⟨_, rfl, t, _, 0, _, rfl, rfl, SqT.of ht, rfl, _, rfl, _, rfl, _, rfl, _, rfl, b, c, 6, rfl, B3, by decide, by decide, fun H4 y k4 B4 y0 y1 => ?_⟩
    obtain ⟨i0, rfl⟩ := Int.eq_ofNat_of_zero_le y0
    refine ⟨b, c, t, l, D, n, i0, 6, rs, M, E, rfl, B4, k4.tup B3.lst ht, n1, n8, TA.keep k4, S, by omega, by decide, fun H5 sa p PS SN SA ex eP lS k5 B5 => ?_⟩
    have lp : PS.length ≤ 5 := by omega
    have k35 := k4.trans k5
    have TA5 := TA.keep k35
    have Bd5 := Bd.keep k35 B3.lst
    clear TA Bd k4 k5 k35 B4 B3 k3 hu PA B2 ht
    refine ⟨(by show 2 ≤ sizeLine; decide), fun o6 ho6 => ⟨o6, _, rfl, SqT.of upd_same, rfl, _, _, rfl, _, _, rfl, rfl, ?_⟩⟩
    have s6 := same_upd (o := HO.tup [vI n, V.ref sa]) ho6
    have TA6 := TA5.same s6
    have Bd6 := Bd5.same s6
    have SA6 := SA.same s6
    have B6 := B5.same s6
    generalize L2.upd H5 o6 (.tup [vI n, V.ref sa]) = H6 at TA6 Bd6 SA6 B6
    clear TA5 Bd5 SA B5 ho6 s6
    obtain ⟨tl, tp, ts, hs, lay6, seen6⟩ := lay_of TA6 Bd6 B6 SA6
    refine ⟨_, rfl, sa, _, rfl, SqT.of hs, rfl, _, _, rfl, _, _, rfl, _, _, rfl, rfl, ?_⟩
    clear hs TA6 Bd6 SA6 B6
    -- some looks that nothing answers
    refine ⟨fun σ H' => ∃ (ts : Addr) (SN : List (Addr × V × Triple)), σ = [some (.ref a), some (.ref b), some (.int (0 + (i : Nat))), some (.ref t), some (.ref D), some (.ref x), some (vI n), some (.ref sa), some (.ref tl), some (.ref tp), some (.ref ts), v11, v12, v13, v14, v15, v16] ∧ Lay K b c H' D x tl tp n rs M E p PS ∧ Seen n H' ts PS.length SN ∧ SN.length ≤ 24, ?_, ?_⟩
    · refine ⟨_, rfl, _, rfl, _, rfl, tp, _, rfl, .inr (SqT.of lay6.hp), _, _, rfl, rfl, b, c, _, rfl, lay6.bx, ?_⟩
      rw [List.length_map]
      refine ⟨by omega, by omega, fun H7 y7 k7 B7 y70 y71 => ?_⟩
      obtain ⟨bt, rfl⟩ := Int.eq_ofNat_of_zero_le y70
      have lay7 := lay6.keep k7 B7
      have seen7 := seen6.keep k7 lay6.bx.lst
      clear lay6 seen6 k7
      refine ⟨Nat.zero_le _, fun oe hoe => ?_⟩
      have s8 := same_upd (o := HO.tup []) hoe
      have h8 : (L2.upd H7 oe (.tup [])) oe = some (.tup ((lotP n fun _ => False).map vI)) := by
        rw [upd_same, show lotP n (fun _ => False) = [] from (lotP_of List.Pairwise.nil fun b => by simp).symm]
        rfl
      generalize L2.upd H7 oe (.tup []) = H8 at s8 h8
      refine ⟨(by show 2 ≤ sizeLine; decide), fun oi hoi => ?_⟩
      have s9 := same_upd (o := HO.tup [V.str "in", V.ref oe]) hoi
      have h9 : (L2.upd H8 oi (.tup [V.str "in", V.ref oe])) oi = some (.tup [V.str "in", V.ref oe]) := upd_same
      generalize L2.upd H8 oi (.tup [V.str "in", V.ref oe]) = H9 at s9 h9
      refine ⟨(by show 3 ≤ sizeLine; decide), fun ot hot => ?_⟩
      have s10 := same_upd (o := HO.tup [V.int ((bt : Nat) : Int), V.ref oi, V.int 1]) hot
      have h10 : (L2.upd H9 ot (.tup [V.int ((bt : Nat) : Int), V.ref oi, V.int 1])) ot = some (.tup [vI bt, V.ref oi, vI 1]) := upd_same
      generalize L2.upd H9 ot (.tup [V.int ((bt : Nat) : Int), V.ref oi, V.int 1]) = H10 at s10 h10
      refine ⟨(by show 1 ≤ sizeLine; decide), fun o1 ho1 => ?_⟩
      have s11 := same_upd (o := HO.tup [V.ref ot]) ho1
      have h11 : (L2.upd H10 o1 (.tup [V.ref ot])) o1 = some (.tup [V.ref ot]) := upd_same
      generalize L2.upd H10 o1 (.tup [V.ref ot]) = H11 at s11 h11
      have s711 := ((s8.trans s9).trans s10).trans s11
      have lay11 := lay7.same s711
      have seen11 := seen7.same s711
      have trip11 : TripAt n H11 (ot, .ref oi, (⟨bt, .lot fun _ => False, 1⟩ : Triple)) := ⟨s11 _ _ h10, ⟨oi, oe, rfl, s11 _ _ (s10 _ _ h9), s11 _ _ (s10 _ _ (s9 _ _ h8))⟩, trivial⟩
      clear lay7 seen7
      refine ⟨_, rfl, b, c, 4, rfl, lay11.bx, by decide, by decide, fun H12 y12 k12 B12 y120 y121 => ?_⟩
      obtain ⟨kk, rfl⟩ := Int.eq_ofNat_of_zero_le y120
      have lay12 := lay11.keep k12 B12
      have seen12 := seen11.keep k12 lay11.bx.lst
      have trip12 := trip11.tk (k12.tk lay11.bx.lst)
      refine ⟨o1, kk, _, rfl, rfl, k12.tup lay11.bx.lst h11, by simp, by omega, by simp, fun o13 H13 h13 s13 => ?_⟩
      refine ⟨ts, o13, _, _, rfl, rfl, s13 _ _ seen12.at_, h13, ?_, fun t14 H14 h14 s14 => ?_⟩
      · rw [rep_flat, List.length_map, List.length_replicate]
        exact Nat.le_trans (show SN.length + kk ≤ 20 by omega) (by decide)
      have s1214 := s13.trans s14
      refine ⟨t14, SN ++ List.replicate kk (ot, .ref oi, (⟨bt, .lot fun _ => False, 1⟩ : Triple)), rfl, lay12.same s1214, ⟨?_, fun q hq => ?_⟩, by rw [List.length_append, List.length_replicate]; omega⟩
      · rw [h14, rep_flat, List.map_append, List.map_replicate]
      · rcases List.mem_append.mp hq with e | e
        · exact (seen12.same s1214).each q e
        · rw [(List.mem_replicate.mp e).2]
          exact ⟨trip12.same s1214, show bt ≤ PS.length by omega⟩
    rintro σ H7 ⟨ts, SN, rfl, lay7, seen7, l24⟩
    clear lay6 seen6
    refine ⟨_, rfl, _, rfl, _, rfl, (by show 3 ≤ sizeLine; decide), fun so hso => ?_⟩
    have s8 := same_upd (o := HO.tup [.ref tl, .ref tp, .ref ts]) hso
    have lay8 := lay7.same s8
    have SA8 := lay8.story (seen7.same s8) (o := so) upd_same l24
    have htp8 := lay8.hp
    have TA8 := lay8.ta
    have Bd8 := lay8.bd
    have B8 := lay8.bx
    generalize L2.upd H7 so (.tup [.ref tl, .ref tp, .ref ts]) = H8 at SA8 TA8 Bd8 B8 htp8
    clear lay8 lay7 seen7 s8 hso
    -- the count
    refine ⟨_, rfl, b, c, 4, rfl, B8, by decide, by decide, fun H9 y9 k9 B9 y90 y91 => ?_⟩
    obtain ⟨cnt, rfl⟩ := Int.eq_ofNat_of_zero_le y90
    have TA9 := TA8.keep k9
    have Bd9 := Bd8.keep k9 B8.lst
    have SA9 := SA8.tk (k9.tk B8.lst)
    have htp9 := k9.tup B8.lst htp8
    clear TA8 Bd8 SA8 B8 k9
    -- the table
    refine ⟨fun σ H' => ∃ v12 : V, σ = [some (.ref a), some (.ref b), some (.int (0 + (i : Nat))), some (.ref t), some (.ref D), some (.ref x), some (vI n), some (.ref so), some (.ref tl), some (.ref tp), some (.ref ts), some (vI cnt), some v12, v13, v14, v15, v16] ∧ Kc c H9 H' ∧ Box b c H' ∧ (v12 = .non ∨ ∃ r us, v12 = .ref r ∧ TabG n c H' r us ∧ us.length ≤ 6), ?_, ?_⟩
    · refine ⟨_, rfl, _, rfl, _, rfl, c, x, so, n, cnt, E, M, p, PS, SN, rfl, Bd9, S, SA9, ex, by omega, fun _ H10 s10 => ⟨.non, rfl, kc_same s10, B9.same s10, .inl rfl⟩, fun _ H10 r us RT fr s10 => ⟨.ref r, rfl, kc_same s10, B9.same s10, .inr ⟨r, us, rfl, ⟨RT.at_, ?_, fun u hu => ?_, by rw [RT.len]; omega⟩, by rw [RT.len]; omega⟩⟩⟩
      · intro z
        obtain ⟨ys, hc⟩ := B9.lst
        rw [z, hc] at fr
        cases fr
      · obtain ⟨j, hj, ej⟩ := List.getElem_of_mem hu
        have LA := RT.row j u (by rw [List.getElem?_eq_getElem hj, ej])
        exact ⟨lots_neC LA (by omega) (B9.same s10), _, _, by omega, LA⟩
    rintro σ H10 ⟨v12, rfl, k10, B10, hv⟩
    have TA10 := TA9.keep k10
    have Bd10 := Bd9.keep k10 B9.lst
    have SA10 := SA9.tk (k10.tk B9.lst)
    have htp10 := k10.tup B9.lst htp9
    clear TA9 Bd9 SA9 B9 k10
    -- all places at times
    refine ⟨fun σ H' => ∃ (r : Addr) (us : List Addr), σ = [some (.ref a), some (.ref b), some (.int (0 + (i : Nat))), some (.ref t), some (.ref D), some (.ref x), some (vI n), some (.ref so), some (.ref tl), some (.ref tp), some (.ref ts), some (vI cnt), some (.ref r), v13, v14, v15, v16] ∧ Kc c H10 H' ∧ Box b c H' ∧ TabG n c H' r us ∧ us.length ≤ 6, ?_, ?_⟩
    · refine ⟨_, rfl, rfl, _, rfl, ?_⟩
      refine ite2 (fun z => ?_) (fun z => ?_)
      · have k11 := Kc.refl c H10
        have B11 := B10
        have htp11 := htp10
        refine ⟨_, rfl, tp, rfl, ⟨_, SqT.of htp11⟩, fun LD hLD => ?_⟩
        refine lc_relD (walk_tup (K := K) (a := tp) (xs := PS.map fun q => V.ref q.1)) (fun k v H1 => ∃ l : Addr, v = .ref l ∧ l ≠ LD ∧ l ≠ c ∧ ∃ q, LotsAt n H1 l (cnt + 1) q) (by rw [List.length_map]; omega) hLD (fun k v H1 H2 ⟨l, e, z1, z2, q, LA⟩ hz kx => ⟨l, e, z1, z2, q, LA.kx kx z1 hz⟩) (fun H1 z => SqT.of (z _ _ htp11)) ?_ ?_
        · rintro k y _ H12 Nx hk ⟨zs, hz⟩ s12 ⟨rfl, ey⟩ kk
          have B12 := B11.same s12
          refine ⟨rfl, _, rfl, (n : Int), rfl, .of_le (by decide) (by omega) (by decide) (by omega), fun ow how => ?_⟩
          have s13 := same_upd (o := HO.tup (rgV 0 (n : Int))) how
          have h13 : (L2.upd H12 ow (.tup (rgV 0 (n : Int)))) ow = some (.tup ((lotP n fun _ => True).map vI)) := by rw [upd_same, rg_range, lotP_true]
          generalize L2.upd H12 ow (.tup (rgV 0 (n : Int))) = H13 at s13 h13
          refine ⟨(by show 1 ≤ sizeLine; decide), fun q9 hq9 => ?_⟩
          have s14 := same_upd (o := HO.lst [V.ref ow]) hq9
          have h14 : (L2.upd H13 q9 (.lst [V.ref ow])) q9 = some (.lst [V.ref ow]) := upd_same
          generalize L2.upd H13 q9 (.lst [V.ref ow]) = H14 at s14 h14
          refine ⟨_, rfl, _, _, rfl, rfl, q9, ((cnt + 1 : Nat) : Int), _, rfl, rfl, h14, by omega, by omega, ?_, fun q10 hq10 => ?_⟩
          · exact Nat.le_trans (show 1 * ((cnt + 1 : Nat) : Int).toNat ≤ 4 by omega) (by decide)
          have s124 := s13.trans s14
          have ne : q10 ≠ LD := fun e => by
            rw [e, s124 _ _ hz] at hq10
            cases hq10
          refine kk _ _ ⟨q10, rfl, ne, ((B12.same s124).new hq10).1, fun _ _ => True, ⟨List.replicate (cnt + 1) ow, ?_, List.length_replicate, fun j u e => ?_⟩⟩ (s124.trans (same_upd hq10))
          · rw [upd_same, Int.toNat_natCast, rep_flat, List.map_replicate]
          · rw [List.eq_of_mem_replicate (List.mem_of_getElem? e)]
            exact same_upd hq10 _ _ (s14 _ _ h13)
        intro H12 ys h12 ly hy s12
        rw [List.length_map] at ly
        have B12 := B11.same s12
        -- the last row
        refine ⟨Nat.zero_le _, fun oe hoe => ?_⟩
        have s13 := same_upd (o := HO.tup []) hoe
        have h13 : (L2.upd H12 oe (.tup [])) oe = some (.tup ((lotP n fun _ => False).map vI)) := by
          rw [upd_same, show lotP n (fun _ => False) = [] from (lotP_of List.Pairwise.nil fun b => by simp).symm]
          rfl
        generalize L2.upd H12 oe (.tup []) = H13 at s13 h13
        refine ⟨(by show 1 ≤ sizeLine; decide), fun q9 hq9 => ?_⟩
        have s14 := same_upd (o := HO.lst [V.ref oe]) hq9
        have h14 : (L2.upd H13 q9 (.lst [V.ref oe])) q9 = some (.lst [V.ref oe]) := upd_same
        generalize L2.upd H13 q9 (.lst [V.ref oe]) = H14 at s14 h14
        refine ⟨_, rfl, _, _, rfl, rfl, q9, ((cnt + 1 : Nat) : Int), _, rfl, rfl, h14, by omega, by omega, ?_, fun q10 hq10 => ?_⟩
        · exact Nat.le_trans (show 1 * ((cnt + 1 : Nat) : Int).toNat ≤ 4 by omega) (by decide)
        have s124 := s13.trans s14
        have q10c := ((B12.same s124).new hq10).1
        have s15 := same_upd (o := HO.lst (List.replicate ((cnt + 1 : Nat) : Int).toNat [V.ref oe]).flatten) hq10
        have LQ : LotsAt n (L2.upd H14 q10 (.lst (List.replicate ((cnt + 1 : Nat) : Int).toNat [V.ref oe]).flatten)) q10 (cnt + 1) (fun _ _ => False) := ⟨List.replicate (cnt + 1) oe, by rw [upd_same, Int.toNat_natCast, rep_flat, List.map_replicate], List.length_replicate, fun j u e => by
          rw [List.eq_of_mem_replicate (List.mem_of_getElem? e)]
          exact s15 _ _ (s14 _ _ h13)⟩
        generalize L2.upd H14 q10 (.lst (List.replicate ((cnt + 1 : Nat) : Int).toNat [V.ref oe]).flatten) = H15 at s15 LQ
        refine ⟨(by show 1 ≤ sizeLine; decide), fun q11 hq11 => ?_⟩
        have s16 := same_upd (o := HO.lst [V.ref q10]) hq11
        have h16 : (L2.upd H15 q11 (.lst [V.ref q10])) q11 = some (.lst [V.ref q10]) := upd_same
        generalize L2.upd H15 q11 (.lst [V.ref q10]) = H16 at s16 h16
        have s1216 := (s124.trans s15).trans s16
        refine ⟨LD, q11, _, _, rfl, rfl, s1216 _ _ h12, h16, ?_, fun q12 hq12 => ?_⟩
        · rw [ly]
          exact Nat.le_trans (show PS.length + 1 ≤ 6 by omega) (by decide)
        have s17 := same_upd (o := HO.lst (ys ++ [V.ref q10])) hq12
        have sall := s1216.trans s17
        have B16 := B12.same s1216
        let g : V → Addr := fun y => match y with | .ref t => t | _ => 0
        have eg : (ys.map g).map V.ref = ys := by
          refine List.ext_getElem? fun k => ?_
          rw [List.getElem?_map, List.getElem?_map]
          cases hk : ys[k]? with
          | none => rfl
          | some y =>
            obtain ⟨t, rfl, _⟩ := hy k y hk
            rfl
        refine ⟨q12, ys.map g ++ [q10], rfl, k11.trans (kc_same (s12.trans sall)), B12.same sall, ⟨?_, (B16.new hq12).1, fun u hu => ?_, by simp⟩, by simp; omega⟩
        · rw [upd_same, List.map_append, eg]
          rfl
        · rcases List.mem_append.mp hu with e | e
          · obtain ⟨y, hy1, rfl⟩ := List.mem_map.mp e
            obtain ⟨k, hk⟩ := List.mem_iff_getElem?.mp hy1
            obtain ⟨l, rfl, _, lc, q, LA⟩ := hy k y hk
            exact ⟨lc, _, q, by omega, LA.same sall⟩
          · rw [List.mem_singleton.mp e]
            exact ⟨q10c, _, _, by omega, (LQ.same s16).same s17⟩
      · have nn : v12 ≠ .non := fun e => z (decide_eq_true e)
        obtain ⟨r, us, rfl, TG, l6⟩ := hv.resolve_left nn
        refine ⟨_, rfl, b, c, 4, rfl, B10, by decide, by decide, fun H11 y11 k11 B11 y110 y111 => ⟨rfl, _, rfl, ?_⟩⟩
        have htp11 := k11.tup B10.lst htp10
        refine ite2 (fun z => ?_) (fun z => ⟨r, us, rfl, k11, B11, TG.keep k11 B10.lst, l6⟩)
        refine ⟨_, rfl, tp, rfl, ⟨_, SqT.of htp11⟩, fun LD hLD => ?_⟩
        refine lc_relD (walk_tup (K := K) (a := tp) (xs := PS.map fun q => V.ref q.1)) (fun k v H1 => ∃ l : Addr, v = .ref l ∧ l ≠ LD ∧ l ≠ c ∧ ∃ q, LotsAt n H1 l (cnt + 1) q) (by rw [List.length_map]; omega) hLD (fun k v H1 H2 ⟨l, e, z1, z2, q, LA⟩ hz kx => ⟨l, e, z1, z2, q, LA.kx kx z1 hz⟩) (fun H1 z => SqT.of (z _ _ htp11)) ?_ ?_
        · rintro k y _ H12 Nx hk ⟨zs, hz⟩ s12 ⟨rfl, ey⟩ kk
          have B12 := B11.same s12
          refine ⟨rfl, _, rfl, (n : Int), rfl, .of_le (by decide) (by omega) (by decide) (by omega), fun ow how => ?_⟩
          have s13 := same_upd (o := HO.tup (rgV 0 (n : Int))) how
          have h13 : (L2.upd H12 ow (.tup (rgV 0 (n : Int)))) ow = some (.tup ((lotP n fun _ => True).map vI)) := by rw [upd_same, rg_range, lotP_true]
          generalize L2.upd H12 ow (.tup (rgV 0 (n : Int))) = H13 at s13 h13
          refine ⟨(by show 1 ≤ sizeLine; decide), fun q9 hq9 => ?_⟩
          have s14 := same_upd (o := HO.lst [V.ref ow]) hq9
          have h14 : (L2.upd H13 q9 (.lst [V.ref ow])) q9 = some (.lst [V.ref ow]) := upd_same
          generalize L2.upd H13 q9 (.lst [V.ref ow]) = H14 at s14 h14
          refine ⟨_, rfl, _, _, rfl, rfl, q9, ((cnt + 1 : Nat) : Int), _, rfl, rfl, h14, by omega, by omega, ?_, fun q10 hq10 => ?_⟩
          · exact Nat.le_trans (show 1 * ((cnt + 1 : Nat) : Int).toNat ≤ 4 by omega) (by decide)
          have s124 := s13.trans s14
          have ne : q10 ≠ LD := fun e => by
            rw [e, s124 _ _ hz] at hq10
            cases hq10
          refine kk _ _ ⟨q10, rfl, ne, ((B12.same s124).new hq10).1, fun _ _ => True, ⟨List.replicate (cnt + 1) ow, ?_, List.length_replicate, fun j u e => ?_⟩⟩ (s124.trans (same_upd hq10))
          · rw [upd_same, Int.toNat_natCast, rep_flat, List.map_replicate]
          · rw [List.eq_of_mem_replicate (List.mem_of_getElem? e)]
            exact same_upd hq10 _ _ (s14 _ _ h13)
        intro H12 ys h12 ly hy s12
        rw [List.length_map] at ly
        have B12 := B11.same s12
        -- the last row
        refine ⟨Nat.zero_le _, fun oe hoe => ?_⟩
        have s13 := same_upd (o := HO.tup []) hoe
        have h13 : (L2.upd H12 oe (.tup [])) oe = some (.tup ((lotP n fun _ => False).map vI)) := by
          rw [upd_same, show lotP n (fun _ => False) = [] from (lotP_of List.Pairwise.nil fun b => by simp).symm]
          rfl
        generalize L2.upd H12 oe (.tup []) = H13 at s13 h13
        refine ⟨(by show 1 ≤ sizeLine; decide), fun q9 hq9 => ?_⟩
        have s14 := same_upd (o := HO.lst [V.ref oe]) hq9
        have h14 : (L2.upd H13 q9 (.lst [V.ref oe])) q9 = some (.lst [V.ref oe]) := upd_same
        generalize L2.upd H13 q9 (.lst [V.ref oe]) = H14 at s14 h14
        refine ⟨_, rfl, _, _, rfl, rfl, q9, ((cnt + 1 : Nat) : Int), _, rfl, rfl, h14, by omega, by omega, ?_, fun q10 hq10 => ?_⟩
        · exact Nat.le_trans (show 1 * ((cnt + 1 : Nat) : Int).toNat ≤ 4 by omega) (by decide)
        have s124 := s13.trans s14
        have q10c := ((B12.same s124).new hq10).1
        have s15 := same_upd (o := HO.lst (List.replicate ((cnt + 1 : Nat) : Int).toNat [V.ref oe]).flatten) hq10
        have LQ : LotsAt n (L2.upd H14 q10 (.lst (List.replicate ((cnt + 1 : Nat) : Int).toNat [V.ref oe]).flatten)) q10 (cnt + 1) (fun _ _ => False) := ⟨List.replicate (cnt + 1) oe, by rw [upd_same, Int.toNat_natCast, rep_flat, List.map_replicate], List.length_replicate, fun j u e => by
          rw [List.eq_of_mem_replicate (List.mem_of_getElem? e)]
          exact s15 _ _ (s14 _ _ h13)⟩
        generalize L2.upd H14 q10 (.lst (List.replicate ((cnt + 1 : Nat) : Int).toNat [V.ref oe]).flatten) = H15 at s15 LQ
        refine ⟨(by show 1 ≤ sizeLine; decide), fun q11 hq11 => ?_⟩
        have s16 := same_upd (o := HO.lst [V.ref q10]) hq11
        have h16 : (L2.upd H15 q11 (.lst [V.ref q10])) q11 = some (.lst [V.ref q10]) := upd_same
        generalize L2.upd H15 q11 (.lst [V.ref q10]) = H16 at s16 h16
        have s1216 := (s124.trans s15).trans s16
        refine ⟨LD, q11, _, _, rfl, rfl, s1216 _ _ h12, h16, ?_, fun q12 hq12 => ?_⟩
        · rw [ly]
          exact Nat.le_trans (show PS.length + 1 ≤ 6 by omega) (by decide)
        have s17 := same_upd (o := HO.lst (ys ++ [V.ref q10])) hq12
        have sall := s1216.trans s17
        have B16 := B12.same s1216
        let g : V → Addr := fun y => match y with | .ref t => t | _ => 0
        have eg : (ys.map g).map V.ref = ys := by
          refine List.ext_getElem? fun k => ?_
          rw [List.getElem?_map, List.getElem?_map]
          cases hk : ys[k]? with
          | none => rfl
          | some y =>
            obtain ⟨t, rfl, _⟩ := hy k y hk
            rfl
        refine ⟨q12, ys.map g ++ [q10], rfl, k11.trans (kc_same (s12.trans sall)), B12.same sall, ⟨?_, (B16.new hq12).1, fun u hu => ?_, by simp⟩, by simp; omega⟩
        · rw [upd_same, List.map_append, eg]
          rfl
        · rcases List.mem_append.mp hu with e | e
          · obtain ⟨y, hy1, rfl⟩ := List.mem_map.mp e
            obtain ⟨k, hk⟩ := List.mem_iff_getElem?.mp hy1
            obtain ⟨l, rfl, _, lc, q, LA⟩ := hy k y hk
            exact ⟨lc, _, q, by omega, LA.same sall⟩
          · rw [List.mem_singleton.mp e]
            exact ⟨q10c, _, _, by omega, (LQ.same s16).same s17⟩
    rintro σ H11 ⟨r, us, rfl, k11, B11, TG11, l11⟩
    have TA11 := TA10.keep k11
    have Bd11 := Bd10.keep k11 B10.lst
    have SA11 := SA10.tk (k11.tk B10.lst)
    clear TA10 Bd10 SA10 B10 k11 hv
    -- bent
    refine ⟨_, rfl, b, c, 4, rfl, B11, by decide, by decide, fun H12 y12 k12 B12 y120 y121 => ?_⟩
    obtain ⟨bd, rfl⟩ := Int.eq_ofNat_of_zero_le y120
    refine ⟨(bd : Int), rfl, by omega, by omega, for_range (lo := 0) (n := ((bd : Nat) : Int).toNat) (fun j σ H' => ∃ (r : Addr) (us : List Addr) (v13 : Option V), σ = [some (.ref a), some (.ref b), some (.int (0 + (i : Nat))), some (.ref t), some (.ref D), some (.ref x), some (vI n), some (.ref so), some (.ref tl), some (.ref tp), some (.ref ts), some (vI cnt), some (.ref r), v13, v14, v15, v16] ∧ Kc c H11 H' ∧ Box b c H' ∧ TabG n c H' r us ∧ us.length ≤ 6)
      ⟨r, us, _, rfl, k12, B12, TG11.keep k12 B11.lst, l11⟩ ?_ ?_⟩
    · rintro j σ H13 hj ⟨r, us, v13, rfl, k13, B13, TG13, l13⟩
      exact ⟨_, rfl, _, rfl, _, rfl, b, c, r, n, 6, us, rfl, B13, TG13, l13, by omega, n1, n8, fun H14 r' us' k14 B14 TG14 l14 => ⟨r', us', _, rfl, k13.trans k14, B14, TG14, l14⟩⟩
    rintro σ H13 ⟨r, us, v13, rfl, k13, B13, TG13, l13⟩
    have TA13 := TA11.keep k13
    have Bd13 := Bd11.keep k13 B11.lst
    have SA13 := SA11.tk (k13.tk B11.lst)
    clear TA11 Bd11 SA11 B11 k13 k12 B12 TG11 l11
    -- the count asked
    refine ⟨_, rfl, _, rfl, _, rfl, _, rfl, ?_⟩
    refine ⟨_, rfl, _, _, rfl, rfl, _, _, rfl, ?_⟩
    refine ⟨_, rfl, _, _, rfl, rfl, (by show 5 ≤ sizeLine; decide), fun l14 hl14 => ?_⟩
    have s14 := same_upd (o := HO.lst [vI cnt, vI cnt, vI cnt, V.int (if ((cnt : Nat) : Int) - 1 > 0 then ((cnt : Nat) : Int) - 1 else 0), V.int (((cnt : Nat) : Int) + 1)]) hl14
    refine ⟨b, c, l14, _, rfl, B13.same s14, upd_same, (B13.new hl14).1, (by show 1 ≤ 5; decide), (by show 5 ≤ 1000; decide), fun H15 v k15 B15 hv => ?_⟩
    obtain ⟨ct, rfl, ct4⟩ : ∃ ct : Nat, v = vI ct ∧ ct ≤ 4 := by
      simp only [List.mem_cons, List.not_mem_nil, or_false] at hv
      rcases hv with e | e | e | e | e
      · exact ⟨cnt, e, by omega⟩
      · exact ⟨cnt, e, by omega⟩
      · exact ⟨cnt, e, by omega⟩
      · refine ⟨cnt - 1, e.trans ?_, by omega⟩
        show V.int _ = V.int _
        congr 1
        by_cases z : ((cnt : Nat) : Int) - 1 > 0
        · rw [if_pos z]
          omega
        · rw [if_neg z]
          omega
      · exact ⟨cnt + 1, e, by omega⟩
    have k1315 := (kc_same (c := c) s14).trans k15
    have TA15 := TA13.keep k1315
    have Bd15 := Bd13.keep k1315 B13.lst
    have SA15 := SA13.tk (k1315.tk B13.lst)
    have TG15 := TG13.keep k1315 B13.lst
    clear TA13 Bd13 SA13 B13 TG13 k1315 k15 s14 hl14 hv
    -- its text
    obtain ⟨d, d1, d2, d3, d4, dp⟩ := tab_data (K := K) TG15.at_ (fun u hu => by
      obtain ⟨_, k, q, k8, LA⟩ := TG15.row u hu
      exact ⟨k, q, by omega, LA⟩) n8 (by omega)
    obtain ⟨kf, Z, RV, _⟩ := tab_rows TG15
    refine ⟨_, rfl, r, d, rfl, dp _ (Same.refl _), d1, d2, d3, d4, ?_⟩
    -- right or not
    refine ⟨_, rfl, _, rfl, _, rfl, _, rfl, c, D, so, r, n, ct, us.length, rs, us, M, E, p, PS, SN, kf, Z, rfl, n8, by omega, TA15, S, SA15, RV, by omega, fun H16 s16 => ?_⟩
    refine ⟨_, rfl, _, rfl, _, rfl, _, rfl, c, x, so, r, n, ct, us.length, E, M, p, PS, SN, us, kf, Z, rfl, Bd15.same s16, S, SA15.same s16, ex, RV.same s16, by omega, by omega, fun H17 s17 => ?_⟩
    refine ⟨_, rfl, _, _, rfl, ⟨rfl, .inr (.inl ⟨_, rfl⟩)⟩, fun H18 s18 => ⟨_, rfl, iteF ?_⟩⟩
    have s1518 := (s16.trans s17).trans s18
    refine ⟨_, rfl, r, d, rfl, dp _ s1518, d1, d2, d3, d4, _, rfl, rfl, _, rfl, ?_⟩
    show if (!decide (V.str d.shown = V.str d.shown)) = true then _ else _
    rw [decide_eq_true rfl]
    exact iteF ⟨⟨_, _, _, _, _, _, _, _, _, _, _, _, _, _, _, rfl⟩, B15.same s1518⟩
end
end RL
namespace RL
open PySem PySem.Spec PyProof.Rows L2
theorem law_facts {P : Program} {w : World} {K : PySem.W.Frag} {h : Heap} {mg : Str → Option Value} {f : Addr} (X : K.In h) (G : h.Ns mainGlobals mg) (hfa : mg ("law" : Str) = some (.ref f)) (c : He.SaysD fa fn K) :
    ∀ (a : Addr) (ns : List Int) (s : Shared), ns.length ≤ 63 → RLG.RunsTrue P w K mg f a ns s := by
  have T : Tx K mg := ⟨c, fun x z => He.glo_ok X G z, fun x z => He.free_ok X G z, fun x i z => He.int_ok X G z⟩
  obtain ⟨fd, F⟩ := T.d_law
  have e := hfa.symm.trans T.glo_law
  cases e
  have b := FunD.bindsA (ps := ["_law_script"]) F fun _ _ _ _ _ _ us hl => match us, hl with | [_], _ => rfl
  exact fun a ns s hl => ok_law T F hl (fun s v => b s [v] rfl) ⟨rfl, by decide, by decide⟩
end RL
open PySem PySem.W PySem.Calls PyProof.Rows
theorem PySem.Challenge.cw_roamlook_k24_tables_judged_holds : PySem.Challenge.rw_roamlook_k24_tables_judged.Holds := by
  w_on; o_law
  refine HandSHeadRun.head_any (r := OpenLaw.row PySem.Challenge.rw_roamlook_k24_tables_judged) (q := view (OpenLaw.row PySem.Challenge.rw_roamlook_k24_tables_judged).prog [77]) (H := RL.hkL) (ob := RL.obL) (M := 9000) (loose := RL.loose) (d := HandSHeadRun.topDef (OpenLaw.row PySem.Challenge.rw_roamlook_k24_tables_judged).prog 77) (kwd := []) RL.obL_eq
    (by kernel_rfl) (fun s => by kernel_rfl) RL.run (by kernel_rfl) (by kernel_rfl) (by kernel_rfl) (by rfl) (by first | assumption | decide +kernel) (by decide +kernel) ⟨rfl, rfl, rfl, rfl, rfl, by decide +kernel⟩ ?hw ?hc
  case hw => w_witness2
  case hc =>
    refine RLG.walk_ofG (l := PySem.Challenge.rw_roamlook_k24_tables_judged) (n := 63) rfl (by decide) (by kernel_rfl) ?F
    intro w mg fa h Y G hmg0
    obtain ⟨K, KX, c⟩ := Y
    have hmg : mg ("law" : PySem.Str) = some (.ref fa) := by
      have e : (HandSHeadRun.topDef (OpenLaw.row PySem.Challenge.rw_roamlook_k24_tables_judged).prog 77).name = ("law" : PySem.Str) := by kernel_rfl
      rw [← e]
      exact hmg0
    exact ⟨K, KX, RL.law_facts (P := (PySem.Challenge.rw_roamlook_k24_tables_judged).prog) (w := w) KX G hmg c⟩
