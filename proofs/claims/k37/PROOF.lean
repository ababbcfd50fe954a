import PyProof.Rows.All
import Wide.All
import OpenK.AllK
import Wide.FinOn
import KE.KStateDown
import HandS.Base
import HandS.Call
import HandS.List
import HandS.Comp
import HandS.Ends
import HandS.Dict
import HandS.Iter
import HandS.Text
import HandS.More
import HandS.Words
import HandS.WordsList
import HandS.WordsDict
import HandS.WordsExc
import HandS.Exc
import HandS.Defaults
import HandS.IsInst
import HandS.Set
import HandS.Strs
import HandS.SetFor
import HandS.TupSets
import HandS.TupMul
import HandS.TupAny
import HandS.TupLe
import HandS.Conv
import HandS.Walk
import HandS.Evl
import HandS.Flow
import HandS.Style
import HandS.Deep
import HandS.DeepEq
import HandS.SetBool
import HandS.Codes
import HandS.Head0
import HandS.Head1
import HandS.Head2
import HandS.HeadEnd
import HandS.HeadHook1
import HandS.HeadHook2
import PySem.Challenge.RW_roamlook_k37_whole_prices_rise_with_beat
import KE.GoesEnum
import PyProof.TupleOfSeq
import PyProof.EnumMake
import HandS.Zip0
import HandS.Zip
import KE.KRevSl
import HandS.Flt
import KE.KEqSeq
import KE.KEqDeep
import HandS.SortRule
import HandS.FStr
import HandS.Sort
import HandS.DictTup
import HandS.DictComp
import KE.KeyNested
import KE.KDictKeyed
import HandS.HotCalls
import HandS.ExcField
import HandS.ExcIs
import HandS.Lambda
import KE.KExcIs
import HandS.ExcInit
import KE.KExcInit
import OpenK.KCls
import PyProof.ListNew
import HandS.ExcValue
import HandS.FltList
import HandS.MakeKwOnly
set_option Elab.async false
set_option linter.all false
set_option maxRecDepth 100000
set_option maxHeartbeats 0
/-! The text by places, its facts by names. -/
namespace RL
open PySem PySem.Spec PyProof.Rows L2
def top (i : Nat) : Stmt := PySem.Challenge.pw_roamlook_k37_whole_prices_rise_with_beat.main.body.getD i (.Pass ⟨0, 0, 0, 0⟩)
abbrev s_is_number : Stmt := top 16
abbrev s_is_between : Stmt := top 17
abbrev s_is_lot : Stmt := top 18
abbrev s_is_filled_lot : Stmt := top 19
abbrev s_check_filled_lot : Stmt := top 20
abbrev s_rising_ways : Stmt := top 21
abbrev s_fars_from : Stmt := top 22
abbrev s_way_text : Stmt := top 23
abbrev s_Board_init : Stmt := inClass (top 24) 0
abbrev s_Board_ways : Stmt := inClass (top 24) 1
abbrev s_Board_far : Stmt := inClass (top 24) 3
abbrev s_Board_within : Stmt := inClass (top 24) 4
abbrev s_Board_check_place : Stmt := inClass (top 24) 7
abbrev s_Board_len : Stmt := inClass (top 24) 9
abbrev s_are_parts : Stmt := top 27
abbrev s_is_look : Stmt := top 28
abbrev s_near_answer : Stmt := top 29
abbrev s_answers : Stmt := top 30
abbrev s_is_pace : Stmt := top 33
abbrev s_check_pace : Stmt := top 34
abbrev s_is_priced_look : Stmt := top 40
abbrev s_is_hand : Stmt := top 41
abbrev s_check_hands : Stmt := top 42
abbrev s_hand_options : Stmt := top 43
abbrev s_falling_states : Stmt := top 44
abbrev s_lasting_choice : Stmt := top 45
abbrev s_worst_cost : Stmt := top 46
abbrev s_Game_init : Stmt := inClass (top 47) 0
abbrev s_Game_turns : Stmt := inClass (top 47) 1
abbrev s_Game_lasting : Stmt := inClass (top 47) 2
abbrev s_Game_price : Stmt := inClass (top 47) 4
abbrev s_Game_check_lot : Stmt := inClass (top 47) 7
abbrev s_Game_check_turn : Stmt := inClass (top 47) 8
abbrev s_Game_check_asked : Stmt := inClass (top 47) 9
abbrev s_Game_choices_of : Stmt := inClass (top 47) 10
abbrev s_Game_narrowed : Stmt := inClass (top 47) 11
abbrev s_Game_breaks : Stmt := inClass (top 47) 12
abbrev s_Game_behind : Stmt := inClass (top 47) 13
abbrev s_Game_unbroken : Stmt := inClass (top 47) 14
abbrev s_Game_links_from : Stmt := inClass (top 47) 15
abbrev s_Game_lasts_of : Stmt := inClass (top 47) 16
abbrev s_Game_costs_ahead : Stmt := inClass (top 47) 17
abbrev s__law_box : Stmt := top 49
abbrev s__law_pick : Stmt := top 50
abbrev s__law_from : Stmt := top 51
abbrev s__law_mixed : Stmt := top 52
abbrev s__law_ways : Stmt := top 53
abbrev s__law_board : Stmt := top 54
abbrev s__law_made : Stmt := top 55
abbrev s__law_spans : Stmt := top 56
abbrev s__law_pace : Stmt := top 57
abbrev s__law_lot : Stmt := top 58
abbrev s__law_start : Stmt := top 59
abbrev s__law_look : Stmt := top 60
abbrev s__law_ground : Stmt := top 61
abbrev s__law_hand : Stmt := top 62
abbrev s__law_game : Stmt := top 63
abbrev s__law_played : Stmt := top 64
abbrev s__law_game_like : Stmt := top 65
abbrev s__law_dear : Stmt := top 66
abbrev s_law : Stmt := top 67
abbrev FnP (K : PySem.W.Frag) (x q : Str) (st : Stmt) (ds : List V) (f : Addr) (fd : FuncData) : Prop := FunD K x q (defArgs st) (defBody st) (defScope st) ds [] f fd
def d_is_number : He.DefD := ⟨("is_number", none), "is_number", "is_number", defArgs s_is_number, defBody s_is_number, defScope s_is_number, [], []⟩
def d_is_between : He.DefD := ⟨("is_between", none), "is_between", "is_between", defArgs s_is_between, defBody s_is_between, defScope s_is_between, [], []⟩
def d_is_lot : He.DefD := ⟨("is_lot", none), "is_lot", "is_lot", defArgs s_is_lot, defBody s_is_lot, defScope s_is_lot, [], []⟩
def d_is_filled_lot : He.DefD := ⟨("is_filled_lot", none), "is_filled_lot", "is_filled_lot", defArgs s_is_filled_lot, defBody s_is_filled_lot, defScope s_is_filled_lot, [], []⟩
def d_check_filled_lot : He.DefD := ⟨("check_filled_lot", none), "check_filled_lot", "check_filled_lot", defArgs s_check_filled_lot, defBody s_check_filled_lot, defScope s_check_filled_lot, [], []⟩
def d_rising_ways : He.DefD := ⟨("rising_ways", none), "rising_ways", "rising_ways", defArgs s_rising_ways, defBody s_rising_ways, defScope s_rising_ways, [], []⟩
def d_fars_from : He.DefD := ⟨("fars_from", none), "fars_from", "fars_from", defArgs s_fars_from, defBody s_fars_from, defScope s_fars_from, [], []⟩
def d_way_text : He.DefD := ⟨("way_text", none), "way_text", "way_text", defArgs s_way_text, defBody s_way_text, defScope s_way_text, [], []⟩
def d_Board_init : He.DefD := ⟨("Board", some "__init__"), "__init__", "Board.__init__", defArgs s_Board_init, defBody s_Board_init, defScope s_Board_init, [.adr (He.dflAt ("Board", some "__init__") 0)], []⟩
def d_Board_ways : He.DefD := ⟨("Board", some "ways"), "ways", "Board.ways", defArgs s_Board_ways, defBody s_Board_ways, defScope s_Board_ways, [], []⟩
def d_Board_far : He.DefD := ⟨("Board", some "far"), "far", "Board.far", defArgs s_Board_far, defBody s_Board_far, defScope s_Board_far, [], []⟩
def d_Board_within : He.DefD := ⟨("Board", some "within"), "within", "Board.within", defArgs s_Board_within, defBody s_Board_within, defScope s_Board_within, [], []⟩
def d_Board_check_place : He.DefD := ⟨("Board", some "check_place"), "check_place", "Board.check_place", defArgs s_Board_check_place, defBody s_Board_check_place, defScope s_Board_check_place, [], []⟩
def d_Board_len : He.DefD := ⟨("Board", some "__len__"), "__len__", "Board.__len__", defArgs s_Board_len, defBody s_Board_len, defScope s_Board_len, [], []⟩
def d_are_parts : He.DefD := ⟨("are_parts", none), "are_parts", "are_parts", defArgs s_are_parts, defBody s_are_parts, defScope s_are_parts, [], []⟩
def d_is_look : He.DefD := ⟨("is_look", none), "is_look", "is_look", defArgs s_is_look, defBody s_is_look, defScope s_is_look, [], []⟩
def d_near_answer : He.DefD := ⟨("near_answer", none), "near_answer", "near_answer", defArgs s_near_answer, defBody s_near_answer, defScope s_near_answer, [], []⟩
def d_answers : He.DefD := ⟨("answers", none), "answers", "answers", defArgs s_answers, defBody s_answers, defScope s_answers, [], []⟩
def d_is_pace : He.DefD := ⟨("is_pace", none), "is_pace", "is_pace", defArgs s_is_pace, defBody s_is_pace, defScope s_is_pace, [], []⟩
def d_check_pace : He.DefD := ⟨("check_pace", none), "check_pace", "check_pace", defArgs s_check_pace, defBody s_check_pace, defScope s_check_pace, [], []⟩
def d_is_priced_look : He.DefD := ⟨("is_priced_look", none), "is_priced_look", "is_priced_look", defArgs s_is_priced_look, defBody s_is_priced_look, defScope s_is_priced_look, [], []⟩
def d_is_hand : He.DefD := ⟨("is_hand", none), "is_hand", "is_hand", defArgs s_is_hand, defBody s_is_hand, defScope s_is_hand, [], []⟩
def d_check_hands : He.DefD := ⟨("check_hands", none), "check_hands", "check_hands", defArgs s_check_hands, defBody s_check_hands, defScope s_check_hands, [], []⟩
def d_hand_options : He.DefD := ⟨("hand_options", none), "hand_options", "hand_options", defArgs s_hand_options, defBody s_hand_options, defScope s_hand_options, [], []⟩
def d_falling_states : He.DefD := ⟨("falling_states", none), "falling_states", "falling_states", defArgs s_falling_states, defBody s_falling_states, defScope s_falling_states, [], []⟩
def d_lasting_choice : He.DefD := ⟨("lasting_choice", none), "lasting_choice", "lasting_choice", defArgs s_lasting_choice, defBody s_lasting_choice, defScope s_lasting_choice, [], []⟩
def d_worst_cost : He.DefD := ⟨("worst_cost", none), "worst_cost", "worst_cost", defArgs s_worst_cost, defBody s_worst_cost, defScope s_worst_cost, [], []⟩
def d_Game_init : He.DefD := ⟨("Game", some "__init__"), "__init__", "Game.__init__", defArgs s_Game_init, defBody s_Game_init, defScope s_Game_init, [], []⟩
def d_Game_turns : He.DefD := ⟨("Game", some "turns"), "turns", "Game.turns", defArgs s_Game_turns, defBody s_Game_turns, defScope s_Game_turns, [], []⟩
def d_Game_lasting : He.DefD := ⟨("Game", some "lasting"), "lasting", "Game.lasting", defArgs s_Game_lasting, defBody s_Game_lasting, defScope s_Game_lasting, [], []⟩
def d_Game_price : He.DefD := ⟨("Game", some "price"), "price", "Game.price", defArgs s_Game_price, defBody s_Game_price, defScope s_Game_price, [], []⟩
def d_Game_check_lot : He.DefD := ⟨("Game", some "check_lot"), "check_lot", "Game.check_lot", defArgs s_Game_check_lot, defBody s_Game_check_lot, defScope s_Game_check_lot, [], []⟩
def d_Game_check_turn : He.DefD := ⟨("Game", some "check_turn"), "check_turn", "Game.check_turn", defArgs s_Game_check_turn, defBody s_Game_check_turn, defScope s_Game_check_turn, [], []⟩
def d_Game_check_asked : He.DefD := ⟨("Game", some "check_asked"), "check_asked", "Game.check_asked", defArgs s_Game_check_asked, defBody s_Game_check_asked, defScope s_Game_check_asked, [], []⟩
def d_Game_choices_of : He.DefD := ⟨("Game", some "choices_of"), "choices_of", "Game.choices_of", defArgs s_Game_choices_of, defBody s_Game_choices_of, defScope s_Game_choices_of, [], []⟩
def d_Game_narrowed : He.DefD := ⟨("Game", some "narrowed"), "narrowed", "Game.narrowed", defArgs s_Game_narrowed, defBody s_Game_narrowed, defScope s_Game_narrowed, [], []⟩
def d_Game_breaks : He.DefD := ⟨("Game", some "breaks"), "breaks", "Game.breaks", defArgs s_Game_breaks, defBody s_Game_breaks, defScope s_Game_breaks, [], []⟩
def d_Game_behind : He.DefD := ⟨("Game", some "behind"), "behind", "Game.behind", defArgs s_Game_behind, defBody s_Game_behind, defScope s_Game_behind, [], []⟩
def d_Game_unbroken : He.DefD := ⟨("Game", some "unbroken"), "unbroken", "Game.unbroken", defArgs s_Game_unbroken, defBody s_Game_unbroken, defScope s_Game_unbroken, [], []⟩
def d_Game_links_from : He.DefD := ⟨("Game", some "links_from"), "links_from", "Game.links_from", defArgs s_Game_links_from, defBody s_Game_links_from, defScope s_Game_links_from, [], []⟩
def d_Game_lasts_of : He.DefD := ⟨("Game", some "lasts_of"), "lasts_of", "Game.lasts_of", defArgs s_Game_lasts_of, defBody s_Game_lasts_of, defScope s_Game_lasts_of, [], []⟩
def d_Game_costs_ahead : He.DefD := ⟨("Game", some "costs_ahead"), "costs_ahead", "Game.costs_ahead", defArgs s_Game_costs_ahead, defBody s_Game_costs_ahead, defScope s_Game_costs_ahead, [], []⟩
def d__law_box : He.DefD := ⟨("_law_box", none), "_law_box", "_law_box", defArgs s__law_box, defBody s__law_box, defScope s__law_box, [], []⟩
def d__law_pick : He.DefD := ⟨("_law_pick", none), "_law_pick", "_law_pick", defArgs s__law_pick, defBody s__law_pick, defScope s__law_pick, [], []⟩
def d__law_from : He.DefD := ⟨("_law_from", none), "_law_from", "_law_from", defArgs s__law_from, defBody s__law_from, defScope s__law_from, [], []⟩
def d__law_mixed : He.DefD := ⟨("_law_mixed", none), "_law_mixed", "_law_mixed", defArgs s__law_mixed, defBody s__law_mixed, defScope s__law_mixed, [], []⟩
def d__law_ways : He.DefD := ⟨("_law_ways", none), "_law_ways", "_law_ways", defArgs s__law_ways, defBody s__law_ways, defScope s__law_ways, [], []⟩
def d__law_board : He.DefD := ⟨("_law_board", none), "_law_board", "_law_board", defArgs s__law_board, defBody s__law_board, defScope s__law_board, [], []⟩
def d__law_made : He.DefD := ⟨("_law_made", none), "_law_made", "_law_made", defArgs s__law_made, defBody s__law_made, defScope s__law_made, [], []⟩
def d__law_spans : He.DefD := ⟨("_law_spans", none), "_law_spans", "_law_spans", defArgs s__law_spans, defBody s__law_spans, defScope s__law_spans, [], []⟩
def d__law_pace : He.DefD := ⟨("_law_pace", none), "_law_pace", "_law_pace", defArgs s__law_pace, defBody s__law_pace, defScope s__law_pace, [], []⟩
def d__law_lot : He.DefD := ⟨("_law_lot", none), "_law_lot", "_law_lot", defArgs s__law_lot, defBody s__law_lot, defScope s__law_lot, [], []⟩
def d__law_start : He.DefD := ⟨("_law_start", none), "_law_start", "_law_start", defArgs s__law_start, defBody s__law_start, defScope s__law_start, [], []⟩
def d__law_look : He.DefD := ⟨("_law_look", none), "_law_look", "_law_look", defArgs s__law_look, defBody s__law_look, defScope s__law_look, [], []⟩
def d__law_ground : He.DefD := ⟨("_law_ground", none), "_law_ground", "_law_ground", defArgs s__law_ground, defBody s__law_ground, defScope s__law_ground, [], []⟩
def d__law_hand : He.DefD := ⟨("_law_hand", none), "_law_hand", "_law_hand", defArgs s__law_hand, defBody s__law_hand, defScope s__law_hand, [], []⟩
def d__law_game : He.DefD := ⟨("_law_game", none), "_law_game", "_law_game", defArgs s__law_game, defBody s__law_game, defScope s__law_game, [], []⟩
def d__law_played : He.DefD := ⟨("_law_played", none), "_law_played", "_law_played", defArgs s__law_played, defBody s__law_played, defScope s__law_played, [], []⟩
def d__law_game_like : He.DefD := ⟨("_law_game_like", none), "_law_game_like", "_law_game_like", defArgs s__law_game_like, defBody s__law_game_like, defScope s__law_game_like, [], []⟩
def d__law_dear : He.DefD := ⟨("_law_dear", none), "_law_dear", "_law_dear", defArgs s__law_dear, defBody s__law_dear, defScope s__law_dear, [], []⟩
def d_law : He.DefD := ⟨("law", none), "law", "law", defArgs s_law, defBody s_law, defScope s_law, [], []⟩
def fn : List He.DefD := [d_is_number, d_is_between, d_is_lot, d_is_filled_lot, d_check_filled_lot, d_rising_ways, d_fars_from, d_way_text, d_Board_init, d_Board_ways, d_Board_far, d_Board_within, d_Board_check_place, d_Board_len, d_are_parts, d_is_look, d_near_answer, d_answers, d_is_pace, d_check_pace, d_is_priced_look, d_is_hand, d_check_hands, d_hand_options, d_falling_states, d_lasting_choice, d_worst_cost, d_Game_init, d_Game_turns, d_Game_lasting, d_Game_price, d_Game_check_lot, d_Game_check_turn, d_Game_check_asked, d_Game_choices_of, d_Game_narrowed, d_Game_breaks, d_Game_behind, d_Game_unbroken, d_Game_links_from, d_Game_lasts_of, d_Game_costs_ahead, d__law_box, d__law_pick, d__law_from, d__law_mixed, d__law_ways, d__law_board, d__law_made, d__law_spans, d__law_pace, d__law_lot, d__law_start, d__law_look, d__law_ground, d__law_hand, d__law_game, d__law_played, d__law_game_like, d__law_dear, d_law]
def fa0 : List He.Fa := [.glo "is_number", .glo "is_between", .glo "is_lot", .glo "is_filled_lot", .glo "check_filled_lot", .glo "rising_ways", .glo "fars_from", .glo "way_text", .glo "are_parts", .glo "is_look", .glo "near_answer", .glo "answers", .glo "is_pace", .glo "check_pace", .glo "is_priced_look", .glo "is_hand", .glo "check_hands", .glo "hand_options", .glo "falling_states", .glo "lasting_choice", .glo "worst_cost", .glo "_law_box", .glo "_law_pick", .glo "_law_from", .glo "_law_mixed", .glo "_law_ways", .glo "_law_board", .glo "_law_made", .glo "_law_spans", .glo "_law_pace"]
def fa1 : List He.Fa := [.glo "_law_lot", .glo "_law_start", .glo "_law_look", .glo "_law_ground", .glo "_law_hand", .glo "_law_game", .glo "_law_played", .glo "_law_game_like", .glo "_law_dear", .glo "law", .glo "Board", .glo "Game", .free "abs", .free "all", .free "any", .free "bool", .free "enumerate", .free "int", .free "isinstance", .free "len", .free "list", .free "max", .free "min", .free "range", .free "set", .free "sorted", .free "str", .free "tuple", .int "MOST_PLACES" 8, .int "MOST_NEAR" 7]
def fa2 : List He.Fa := [.int "MOST_PACE" 7, .int "MOST_GAME" 20, .int "MOST_HANDS" 3, .int "MOST_CHOICES" 4, .int "MOST_PRICE" 99, .cls "Board", .mkr "Board", .noat "Board" "many", .noat "Board" "pairs", .noat "Board" "leads", .noat "Board" "fars", .meth "Board" "ways", .meth "Board" "far", .meth "Board" "within", .meth "Board" "check_place", .meth "Board" "__len__", .cls "Game", .mkr "Game", .noat "Game" "ground", .noat "Game" "most", .noat "Game" "ends", .noat "Game" "options", .meth "Game" "turns", .meth "Game" "lasting", .meth "Game" "price", .meth "Game" "check_lot", .meth "Game" "check_turn", .meth "Game" "check_asked", .meth "Game" "choices_of", .meth "Game" "narrowed"]
def fa3 : List He.Fa := [.meth "Game" "breaks", .meth "Game" "behind", .meth "Game" "unbroken", .meth "Game" "links_from", .meth "Game" "lasts_of", .meth "Game" "costs_ahead"]
def fa : List He.Fa := fa0 ++ fa1 ++ fa2 ++ fa3
abbrev R : PySem.W.OpenRow := PySem.W.OpenLaw.row PySem.Challenge.rw_roamlook_k37_whole_prices_rise_with_beat
abbrev hk : PySem.W.Hook := He.hookD 5 fa fn
def ob (s : PySem.W.SharedT) : He.AlD := He.obsDG 5 fa fn (HandSHeadRun.getT s)
theorem ob_eq (s : PySem.W.SharedT) : ob s = hk.obs s.abs := He.obsDG_eq (HandSHeadRun.getT_eq s)
end RL
namespace RL
open PySem PySem.Spec PyProof.Rows L2
def lo0 : List PySem.Str := ["_wall", "RoamError", "BadMany", "BadWay", "BadPace", "BadLot", "BadLook", "BadBeat", "BadHands", "BadWish", "Missing", "NoPlace", "NoHand", "MOST_PLACES", "is_number", "is_between", "is_lot", "is_filled_lot", "check_filled_lot", "rising_ways", "fars_from", "way_text", "Board", "MOST_NEAR", "are_parts", "is_look", "near_answer", "answers", "MOST_PACE", "is_pace"]
def lo1 : List PySem.Str := ["check_pace", "MOST_GAME", "MOST_HANDS", "MOST_CHOICES", "MOST_PRICE", "is_priced_look", "is_hand", "check_hands", "hand_options", "falling_states", "lasting_choice", "worst_cost", "Game", "_law_box", "_law_pick", "_law_from", "_law_mixed", "_law_ways", "_law_board", "_law_made", "_law_spans", "_law_pace", "_law_lot", "_law_start", "_law_look", "_law_ground", "_law_hand", "_law_game", "_law_played", "_law_game_like"]
def lo2 : List PySem.Str := ["_law_dear"]
def loose : List PySem.Str := lo0 ++ lo1 ++ lo2
abbrev hkL : PySem.W.Hook := hk
abbrev obL := ob
theorem obL_eq (s : PySem.W.SharedT) : obL s = hkL.obs s.abs := ob_eq s
theorem run (w : World) : HandSHeadRun.RunEq R (PySem.W.view R.prog [67]) hkL obL 9000 loose w := by
  intro os
  kernel_rfl
end RL
namespace RL
open PySem PySem.Spec PyProof.Rows L2
/-- what the top has left, by names -/
structure Tx (K : PySem.W.Frag) (mg : Str → Option Value) : Prop where
  sa : He.SaysD fa fn K
  hg : ∀ x, (He.Fa.glo x).ok K = true → mg x = some (.ref (He.ga K x))
  hf : ∀ x, (He.Fa.free x).ok K = true → mg x = none
  hi : ∀ x i, (He.Fa.int x i).ok K = true → ∃ t, mg x = some (.int i t)
/-- the class -/
abbrev cB (K : PySem.W.Frag) : Addr := He.ga K "Board"
abbrev mB (K : PySem.W.Frag) (m : Str) : Addr := He.ma K (He.ga K "Board") m
abbrev mC (K : PySem.W.Frag) (C m : Str) : Addr := He.ma K (He.ga K C) m
section
variable {K : PySem.W.Frag} {mg : Str → Option Value}
theorem Tx.glo_is_number (T : Tx K mg) : mg "is_number" = some (.ref (He.ga K "is_number")) := T.hg _ (T.sa.fact 0)
theorem Tx.glo_is_between (T : Tx K mg) : mg "is_between" = some (.ref (He.ga K "is_between")) := T.hg _ (T.sa.fact 1)
theorem Tx.glo_is_lot (T : Tx K mg) : mg "is_lot" = some (.ref (He.ga K "is_lot")) := T.hg _ (T.sa.fact 2)
theorem Tx.glo_is_filled_lot (T : Tx K mg) : mg "is_filled_lot" = some (.ref (He.ga K "is_filled_lot")) := T.hg _ (T.sa.fact 3)
theorem Tx.glo_check_filled_lot (T : Tx K mg) : mg "check_filled_lot" = some (.ref (He.ga K "check_filled_lot")) := T.hg _ (T.sa.fact 4)
theorem Tx.glo_rising_ways (T : Tx K mg) : mg "rising_ways" = some (.ref (He.ga K "rising_ways")) := T.hg _ (T.sa.fact 5)
theorem Tx.glo_fars_from (T : Tx K mg) : mg "fars_from" = some (.ref (He.ga K "fars_from")) := T.hg _ (T.sa.fact 6)
theorem Tx.glo_way_text (T : Tx K mg) : mg "way_text" = some (.ref (He.ga K "way_text")) := T.hg _ (T.sa.fact 7)
theorem Tx.glo_are_parts (T : Tx K mg) : mg "are_parts" = some (.ref (He.ga K "are_parts")) := T.hg _ (T.sa.fact 8)
theorem Tx.glo_is_look (T : Tx K mg) : mg "is_look" = some (.ref (He.ga K "is_look")) := T.hg _ (T.sa.fact 9)
theorem Tx.glo_near_answer (T : Tx K mg) : mg "near_answer" = some (.ref (He.ga K "near_answer")) := T.hg _ (T.sa.fact 10)
theorem Tx.glo_answers (T : Tx K mg) : mg "answers" = some (.ref (He.ga K "answers")) := T.hg _ (T.sa.fact 11)
theorem Tx.glo_is_pace (T : Tx K mg) : mg "is_pace" = some (.ref (He.ga K "is_pace")) := T.hg _ (T.sa.fact 12)
theorem Tx.glo_check_pace (T : Tx K mg) : mg "check_pace" = some (.ref (He.ga K "check_pace")) := T.hg _ (T.sa.fact 13)
theorem Tx.glo_is_priced_look (T : Tx K mg) : mg "is_priced_look" = some (.ref (He.ga K "is_priced_look")) := T.hg _ (T.sa.fact 14)
theorem Tx.glo_is_hand (T : Tx K mg) : mg "is_hand" = some (.ref (He.ga K "is_hand")) := T.hg _ (T.sa.fact 15)
theorem Tx.glo_check_hands (T : Tx K mg) : mg "check_hands" = some (.ref (He.ga K "check_hands")) := T.hg _ (T.sa.fact 16)
theorem Tx.glo_hand_options (T : Tx K mg) : mg "hand_options" = some (.ref (He.ga K "hand_options")) := T.hg _ (T.sa.fact 17)
theorem Tx.glo_falling_states (T : Tx K mg) : mg "falling_states" = some (.ref (He.ga K "falling_states")) := T.hg _ (T.sa.fact 18)
theorem Tx.glo_lasting_choice (T : Tx K mg) : mg "lasting_choice" = some (.ref (He.ga K "lasting_choice")) := T.hg _ (T.sa.fact 19)
theorem Tx.glo_worst_cost (T : Tx K mg) : mg "worst_cost" = some (.ref (He.ga K "worst_cost")) := T.hg _ (T.sa.fact 20)
theorem Tx.glo_law_box (T : Tx K mg) : mg "_law_box" = some (.ref (He.ga K "_law_box")) := T.hg _ (T.sa.fact 21)
theorem Tx.glo_law_pick (T : Tx K mg) : mg "_law_pick" = some (.ref (He.ga K "_law_pick")) := T.hg _ (T.sa.fact 22)
theorem Tx.glo_law_from (T : Tx K mg) : mg "_law_from" = some (.ref (He.ga K "_law_from")) := T.hg _ (T.sa.fact 23)
theorem Tx.glo_law_mixed (T : Tx K mg) : mg "_law_mixed" = some (.ref (He.ga K "_law_mixed")) := T.hg _ (T.sa.fact 24)
theorem Tx.glo_law_ways (T : Tx K mg) : mg "_law_ways" = some (.ref (He.ga K "_law_ways")) := T.hg _ (T.sa.fact 25)
theorem Tx.glo_law_board (T : Tx K mg) : mg "_law_board" = some (.ref (He.ga K "_law_board")) := T.hg _ (T.sa.fact 26)
theorem Tx.glo_law_made (T : Tx K mg) : mg "_law_made" = some (.ref (He.ga K "_law_made")) := T.hg _ (T.sa.fact 27)
theorem Tx.glo_law_spans (T : Tx K mg) : mg "_law_spans" = some (.ref (He.ga K "_law_spans")) := T.hg _ (T.sa.fact 28)
theorem Tx.glo_law_pace (T : Tx K mg) : mg "_law_pace" = some (.ref (He.ga K "_law_pace")) := T.hg _ (T.sa.fact 29)
theorem Tx.glo_law_lot (T : Tx K mg) : mg "_law_lot" = some (.ref (He.ga K "_law_lot")) := T.hg _ (T.sa.fact 30)
theorem Tx.glo_law_start (T : Tx K mg) : mg "_law_start" = some (.ref (He.ga K "_law_start")) := T.hg _ (T.sa.fact 31)
theorem Tx.glo_law_look (T : Tx K mg) : mg "_law_look" = some (.ref (He.ga K "_law_look")) := T.hg _ (T.sa.fact 32)
theorem Tx.glo_law_ground (T : Tx K mg) : mg "_law_ground" = some (.ref (He.ga K "_law_ground")) := T.hg _ (T.sa.fact 33)
theorem Tx.glo_law_hand (T : Tx K mg) : mg "_law_hand" = some (.ref (He.ga K "_law_hand")) := T.hg _ (T.sa.fact 34)
theorem Tx.glo_law_game (T : Tx K mg) : mg "_law_game" = some (.ref (He.ga K "_law_game")) := T.hg _ (T.sa.fact 35)
theorem Tx.glo_law_played (T : Tx K mg) : mg "_law_played" = some (.ref (He.ga K "_law_played")) := T.hg _ (T.sa.fact 36)
theorem Tx.glo_law_game_like (T : Tx K mg) : mg "_law_game_like" = some (.ref (He.ga K "_law_game_like")) := T.hg _ (T.sa.fact 37)
theorem Tx.glo_law_dear (T : Tx K mg) : mg "_law_dear" = some (.ref (He.ga K "_law_dear")) := T.hg _ (T.sa.fact 38)
theorem Tx.glo_law (T : Tx K mg) : mg "law" = some (.ref (He.ga K "law")) := T.hg _ (T.sa.fact 39)
theorem Tx.glo_Board (T : Tx K mg) : mg "Board" = some (.ref (He.ga K "Board")) := T.hg _ (T.sa.fact 40)
theorem Tx.glo_Game (T : Tx K mg) : mg "Game" = some (.ref (He.ga K "Game")) := T.hg _ (T.sa.fact 41)
theorem Tx.free_abs (T : Tx K mg) : mg "abs" = none := T.hf _ (T.sa.fact 42)
theorem Tx.free_all (T : Tx K mg) : mg "all" = none := T.hf _ (T.sa.fact 43)
theorem Tx.free_any (T : Tx K mg) : mg "any" = none := T.hf _ (T.sa.fact 44)
theorem Tx.free_bool (T : Tx K mg) : mg "bool" = none := T.hf _ (T.sa.fact 45)
theorem Tx.free_enumerate (T : Tx K mg) : mg "enumerate" = none := T.hf _ (T.sa.fact 46)
theorem Tx.free_int (T : Tx K mg) : mg "int" = none := T.hf _ (T.sa.fact 47)
theorem Tx.free_isinstance (T : Tx K mg) : mg "isinstance" = none := T.hf _ (T.sa.fact 48)
theorem Tx.free_len (T : Tx K mg) : mg "len" = none := T.hf _ (T.sa.fact 49)
theorem Tx.free_list (T : Tx K mg) : mg "list" = none := T.hf _ (T.sa.fact 50)
theorem Tx.free_max (T : Tx K mg) : mg "max" = none := T.hf _ (T.sa.fact 51)
theorem Tx.free_min (T : Tx K mg) : mg "min" = none := T.hf _ (T.sa.fact 52)
theorem Tx.free_range (T : Tx K mg) : mg "range" = none := T.hf _ (T.sa.fact 53)
theorem Tx.free_set (T : Tx K mg) : mg "set" = none := T.hf _ (T.sa.fact 54)
theorem Tx.free_sorted (T : Tx K mg) : mg "sorted" = none := T.hf _ (T.sa.fact 55)
theorem Tx.free_str (T : Tx K mg) : mg "str" = none := T.hf _ (T.sa.fact 56)
theorem Tx.free_tuple (T : Tx K mg) : mg "tuple" = none := T.hf _ (T.sa.fact 57)
theorem Tx.glob_MOST_PLACES (T : Tx K mg) : ∃ t, mg "MOST_PLACES" = some (.int 8 t) := T.hi _ _ (T.sa.fact 58)
theorem Tx.glob_MOST_NEAR (T : Tx K mg) : ∃ t, mg "MOST_NEAR" = some (.int 7 t) := T.hi _ _ (T.sa.fact 59)
theorem Tx.glob_MOST_PACE (T : Tx K mg) : ∃ t, mg "MOST_PACE" = some (.int 7 t) := T.hi _ _ (T.sa.fact 60)
theorem Tx.glob_MOST_GAME (T : Tx K mg) : ∃ t, mg "MOST_GAME" = some (.int 20 t) := T.hi _ _ (T.sa.fact 61)
theorem Tx.glob_MOST_HANDS (T : Tx K mg) : ∃ t, mg "MOST_HANDS" = some (.int 3 t) := T.hi _ _ (T.sa.fact 62)
theorem Tx.glob_MOST_CHOICES (T : Tx K mg) : ∃ t, mg "MOST_CHOICES" = some (.int 4 t) := T.hi _ _ (T.sa.fact 63)
theorem Tx.glob_MOST_PRICE (T : Tx K mg) : ∃ t, mg "MOST_PRICE" = some (.int 99 t) := T.hi _ _ (T.sa.fact 64)
theorem Tx.cl (T : Tx K mg) : Cls K (cB K) := He.cls_ok (T.sa.fact 65)
theorem Tx.mkB (T : Tx K mg) : Mk K (cB K) (mB K "__init__") := He.mkr_ok (T.sa.fact 66)
theorem Tx.n_many (T : Tx K mg) : NoAttr K (cB K) "many" := He.noat_ok (T.sa.fact 67)
theorem Tx.n_pairs (T : Tx K mg) : NoAttr K (cB K) "pairs" := He.noat_ok (T.sa.fact 68)
theorem Tx.n_leads (T : Tx K mg) : NoAttr K (cB K) "leads" := He.noat_ok (T.sa.fact 69)
theorem Tx.n_fars (T : Tx K mg) : NoAttr K (cB K) "fars" := He.noat_ok (T.sa.fact 70)
theorem Tx.m_ways (T : Tx K mg) : Meth K (cB K) "ways" (mB K "ways") := He.meth_ok (T.sa.fact 71)
theorem Tx.m_far (T : Tx K mg) : Meth K (cB K) "far" (mB K "far") := He.meth_ok (T.sa.fact 72)
theorem Tx.m_within (T : Tx K mg) : Meth K (cB K) "within" (mB K "within") := He.meth_ok (T.sa.fact 73)
theorem Tx.m_check_place (T : Tx K mg) : Meth K (cB K) "check_place" (mB K "check_place") := He.meth_ok (T.sa.fact 74)
theorem Tx.m_len (T : Tx K mg) : Meth K (cB K) "__len__" (mB K "__len__") := He.meth_ok (T.sa.fact 75)
theorem Tx.cl_Game (T : Tx K mg) : Cls K (He.ga K "Game") := He.cls_ok (T.sa.fact 76)
theorem Tx.mk_Game (T : Tx K mg) : Mk K (He.ga K "Game") (mC K "Game" "__init__") := He.mkr_ok (T.sa.fact 77)
theorem Tx.n_Game_ground (T : Tx K mg) : NoAttr K (He.ga K "Game") "ground" := He.noat_ok (T.sa.fact 78)
theorem Tx.n_Game_most (T : Tx K mg) : NoAttr K (He.ga K "Game") "most" := He.noat_ok (T.sa.fact 79)
theorem Tx.n_Game_ends (T : Tx K mg) : NoAttr K (He.ga K "Game") "ends" := He.noat_ok (T.sa.fact 80)
theorem Tx.n_Game_options (T : Tx K mg) : NoAttr K (He.ga K "Game") "options" := He.noat_ok (T.sa.fact 81)
theorem Tx.m_Game_turns (T : Tx K mg) : Meth K (He.ga K "Game") "turns" (mC K "Game" "turns") := He.meth_ok (T.sa.fact 82)
theorem Tx.m_Game_lasting (T : Tx K mg) : Meth K (He.ga K "Game") "lasting" (mC K "Game" "lasting") := He.meth_ok (T.sa.fact 83)
theorem Tx.m_Game_price (T : Tx K mg) : Meth K (He.ga K "Game") "price" (mC K "Game" "price") := He.meth_ok (T.sa.fact 84)
theorem Tx.m_Game_check_lot (T : Tx K mg) : Meth K (He.ga K "Game") "check_lot" (mC K "Game" "check_lot") := He.meth_ok (T.sa.fact 85)
theorem Tx.m_Game_check_turn (T : Tx K mg) : Meth K (He.ga K "Game") "check_turn" (mC K "Game" "check_turn") := He.meth_ok (T.sa.fact 86)
theorem Tx.m_Game_check_asked (T : Tx K mg) : Meth K (He.ga K "Game") "check_asked" (mC K "Game" "check_asked") := He.meth_ok (T.sa.fact 87)
theorem Tx.m_Game_choices_of (T : Tx K mg) : Meth K (He.ga K "Game") "choices_of" (mC K "Game" "choices_of") := He.meth_ok (T.sa.fact 88)
theorem Tx.m_Game_narrowed (T : Tx K mg) : Meth K (He.ga K "Game") "narrowed" (mC K "Game" "narrowed") := He.meth_ok (T.sa.fact 89)
theorem Tx.m_Game_breaks (T : Tx K mg) : Meth K (He.ga K "Game") "breaks" (mC K "Game" "breaks") := He.meth_ok (T.sa.fact 90)
theorem Tx.m_Game_behind (T : Tx K mg) : Meth K (He.ga K "Game") "behind" (mC K "Game" "behind") := He.meth_ok (T.sa.fact 91)
theorem Tx.m_Game_unbroken (T : Tx K mg) : Meth K (He.ga K "Game") "unbroken" (mC K "Game" "unbroken") := He.meth_ok (T.sa.fact 92)
theorem Tx.m_Game_links_from (T : Tx K mg) : Meth K (He.ga K "Game") "links_from" (mC K "Game" "links_from") := He.meth_ok (T.sa.fact 93)
theorem Tx.m_Game_lasts_of (T : Tx K mg) : Meth K (He.ga K "Game") "lasts_of" (mC K "Game" "lasts_of") := He.meth_ok (T.sa.fact 94)
theorem Tx.m_Game_costs_ahead (T : Tx K mg) : Meth K (He.ga K "Game") "costs_ahead" (mC K "Game" "costs_ahead") := He.meth_ok (T.sa.fact 95)
theorem Tx.d_is_number (T : Tx K mg) : ∃ fd, FnP K "is_number" "is_number" s_is_number [] (He.ga K "is_number") fd := T.sa.def_ 0 (d := _root_.RL.d_is_number) rfl
theorem Tx.d_is_between (T : Tx K mg) : ∃ fd, FnP K "is_between" "is_between" s_is_between [] (He.ga K "is_between") fd := T.sa.def_ 1 (d := _root_.RL.d_is_between) rfl
theorem Tx.d_is_lot (T : Tx K mg) : ∃ fd, FnP K "is_lot" "is_lot" s_is_lot [] (He.ga K "is_lot") fd := T.sa.def_ 2 (d := _root_.RL.d_is_lot) rfl
theorem Tx.d_is_filled_lot (T : Tx K mg) : ∃ fd, FnP K "is_filled_lot" "is_filled_lot" s_is_filled_lot [] (He.ga K "is_filled_lot") fd := T.sa.def_ 3 (d := _root_.RL.d_is_filled_lot) rfl
theorem Tx.d_check_filled_lot (T : Tx K mg) : ∃ fd, FnP K "check_filled_lot" "check_filled_lot" s_check_filled_lot [] (He.ga K "check_filled_lot") fd := T.sa.def_ 4 (d := _root_.RL.d_check_filled_lot) rfl
theorem Tx.d_rising_ways (T : Tx K mg) : ∃ fd, FnP K "rising_ways" "rising_ways" s_rising_ways [] (He.ga K "rising_ways") fd := T.sa.def_ 5 (d := _root_.RL.d_rising_ways) rfl
theorem Tx.d_fars_from (T : Tx K mg) : ∃ fd, FnP K "fars_from" "fars_from" s_fars_from [] (He.ga K "fars_from") fd := T.sa.def_ 6 (d := _root_.RL.d_fars_from) rfl
theorem Tx.d_way_text (T : Tx K mg) : ∃ fd, FnP K "way_text" "way_text" s_way_text [] (He.ga K "way_text") fd := T.sa.def_ 7 (d := _root_.RL.d_way_text) rfl
theorem Tx.d_Board_init (T : Tx K mg) : ∃ fd, FnP K "__init__" "Board.__init__" s_Board_init [V.ref (He.dflAt ("Board", some "__init__") 0 K)] (mB K "__init__") fd := T.sa.def_ 8 (d := _root_.RL.d_Board_init) rfl
theorem Tx.d_Board_ways (T : Tx K mg) : ∃ fd, FnP K "ways" "Board.ways" s_Board_ways [] (mB K "ways") fd := T.sa.def_ 9 (d := _root_.RL.d_Board_ways) rfl
theorem Tx.d_Board_far (T : Tx K mg) : ∃ fd, FnP K "far" "Board.far" s_Board_far [] (mB K "far") fd := T.sa.def_ 10 (d := _root_.RL.d_Board_far) rfl
theorem Tx.d_Board_within (T : Tx K mg) : ∃ fd, FnP K "within" "Board.within" s_Board_within [] (mB K "within") fd := T.sa.def_ 11 (d := _root_.RL.d_Board_within) rfl
theorem Tx.d_Board_check_place (T : Tx K mg) : ∃ fd, FnP K "check_place" "Board.check_place" s_Board_check_place [] (mB K "check_place") fd := T.sa.def_ 12 (d := _root_.RL.d_Board_check_place) rfl
theorem Tx.d_Board_len (T : Tx K mg) : ∃ fd, FnP K "__len__" "Board.__len__" s_Board_len [] (mB K "__len__") fd := T.sa.def_ 13 (d := _root_.RL.d_Board_len) rfl
theorem Tx.d_are_parts (T : Tx K mg) : ∃ fd, FnP K "are_parts" "are_parts" s_are_parts [] (He.ga K "are_parts") fd := T.sa.def_ 14 (d := _root_.RL.d_are_parts) rfl
theorem Tx.d_is_look (T : Tx K mg) : ∃ fd, FnP K "is_look" "is_look" s_is_look [] (He.ga K "is_look") fd := T.sa.def_ 15 (d := _root_.RL.d_is_look) rfl
theorem Tx.d_near_answer (T : Tx K mg) : ∃ fd, FnP K "near_answer" "near_answer" s_near_answer [] (He.ga K "near_answer") fd := T.sa.def_ 16 (d := _root_.RL.d_near_answer) rfl
theorem Tx.d_answers (T : Tx K mg) : ∃ fd, FnP K "answers" "answers" s_answers [] (He.ga K "answers") fd := T.sa.def_ 17 (d := _root_.RL.d_answers) rfl
theorem Tx.d_is_pace (T : Tx K mg) : ∃ fd, FnP K "is_pace" "is_pace" s_is_pace [] (He.ga K "is_pace") fd := T.sa.def_ 18 (d := _root_.RL.d_is_pace) rfl
theorem Tx.d_check_pace (T : Tx K mg) : ∃ fd, FnP K "check_pace" "check_pace" s_check_pace [] (He.ga K "check_pace") fd := T.sa.def_ 19 (d := _root_.RL.d_check_pace) rfl
theorem Tx.d_is_priced_look (T : Tx K mg) : ∃ fd, FnP K "is_priced_look" "is_priced_look" s_is_priced_look [] (He.ga K "is_priced_look") fd := T.sa.def_ 20 (d := _root_.RL.d_is_priced_look) rfl
theorem Tx.d_is_hand (T : Tx K mg) : ∃ fd, FnP K "is_hand" "is_hand" s_is_hand [] (He.ga K "is_hand") fd := T.sa.def_ 21 (d := _root_.RL.d_is_hand) rfl
theorem Tx.d_check_hands (T : Tx K mg) : ∃ fd, FnP K "check_hands" "check_hands" s_check_hands [] (He.ga K "check_hands") fd := T.sa.def_ 22 (d := _root_.RL.d_check_hands) rfl
theorem Tx.d_hand_options (T : Tx K mg) : ∃ fd, FnP K "hand_options" "hand_options" s_hand_options [] (He.ga K "hand_options") fd := T.sa.def_ 23 (d := _root_.RL.d_hand_options) rfl
theorem Tx.d_falling_states (T : Tx K mg) : ∃ fd, FnP K "falling_states" "falling_states" s_falling_states [] (He.ga K "falling_states") fd := T.sa.def_ 24 (d := _root_.RL.d_falling_states) rfl
theorem Tx.d_lasting_choice (T : Tx K mg) : ∃ fd, FnP K "lasting_choice" "lasting_choice" s_lasting_choice [] (He.ga K "lasting_choice") fd := T.sa.def_ 25 (d := _root_.RL.d_lasting_choice) rfl
theorem Tx.d_worst_cost (T : Tx K mg) : ∃ fd, FnP K "worst_cost" "worst_cost" s_worst_cost [] (He.ga K "worst_cost") fd := T.sa.def_ 26 (d := _root_.RL.d_worst_cost) rfl
theorem Tx.d_Game_init (T : Tx K mg) : ∃ fd, FnP K "__init__" "Game.__init__" s_Game_init [] (mC K "Game" "__init__") fd := T.sa.def_ 27 (d := _root_.RL.d_Game_init) rfl
theorem Tx.d_Game_turns (T : Tx K mg) : ∃ fd, FnP K "turns" "Game.turns" s_Game_turns [] (mC K "Game" "turns") fd := T.sa.def_ 28 (d := _root_.RL.d_Game_turns) rfl
theorem Tx.d_Game_lasting (T : Tx K mg) : ∃ fd, FnP K "lasting" "Game.lasting" s_Game_lasting [] (mC K "Game" "lasting") fd := T.sa.def_ 29 (d := _root_.RL.d_Game_lasting) rfl
theorem Tx.d_Game_price (T : Tx K mg) : ∃ fd, FnP K "price" "Game.price" s_Game_price [] (mC K "Game" "price") fd := T.sa.def_ 30 (d := _root_.RL.d_Game_price) rfl
theorem Tx.d_Game_check_lot (T : Tx K mg) : ∃ fd, FnP K "check_lot" "Game.check_lot" s_Game_check_lot [] (mC K "Game" "check_lot") fd := T.sa.def_ 31 (d := _root_.RL.d_Game_check_lot) rfl
theorem Tx.d_Game_check_turn (T : Tx K mg) : ∃ fd, FnP K "check_turn" "Game.check_turn" s_Game_check_turn [] (mC K "Game" "check_turn") fd := T.sa.def_ 32 (d := _root_.RL.d_Game_check_turn) rfl
theorem Tx.d_Game_check_asked (T : Tx K mg) : ∃ fd, FnP K "check_asked" "Game.check_asked" s_Game_check_asked [] (mC K "Game" "check_asked") fd := T.sa.def_ 33 (d := _root_.RL.d_Game_check_asked) rfl
theorem Tx.d_Game_choices_of (T : Tx K mg) : ∃ fd, FnP K "choices_of" "Game.choices_of" s_Game_choices_of [] (mC K "Game" "choices_of") fd := T.sa.def_ 34 (d := _root_.RL.d_Game_choices_of) rfl
theorem Tx.d_Game_narrowed (T : Tx K mg) : ∃ fd, FnP K "narrowed" "Game.narrowed" s_Game_narrowed [] (mC K "Game" "narrowed") fd := T.sa.def_ 35 (d := _root_.RL.d_Game_narrowed) rfl
theorem Tx.d_Game_breaks (T : Tx K mg) : ∃ fd, FnP K "breaks" "Game.breaks" s_Game_breaks [] (mC K "Game" "breaks") fd := T.sa.def_ 36 (d := _root_.RL.d_Game_breaks) rfl
theorem Tx.d_Game_behind (T : Tx K mg) : ∃ fd, FnP K "behind" "Game.behind" s_Game_behind [] (mC K "Game" "behind") fd := T.sa.def_ 37 (d := _root_.RL.d_Game_behind) rfl
theorem Tx.d_Game_unbroken (T : Tx K mg) : ∃ fd, FnP K "unbroken" "Game.unbroken" s_Game_unbroken [] (mC K "Game" "unbroken") fd := T.sa.def_ 38 (d := _root_.RL.d_Game_unbroken) rfl
theorem Tx.d_Game_links_from (T : Tx K mg) : ∃ fd, FnP K "links_from" "Game.links_from" s_Game_links_from [] (mC K "Game" "links_from") fd := T.sa.def_ 39 (d := _root_.RL.d_Game_links_from) rfl
theorem Tx.d_Game_lasts_of (T : Tx K mg) : ∃ fd, FnP K "lasts_of" "Game.lasts_of" s_Game_lasts_of [] (mC K "Game" "lasts_of") fd := T.sa.def_ 40 (d := _root_.RL.d_Game_lasts_of) rfl
theorem Tx.d_Game_costs_ahead (T : Tx K mg) : ∃ fd, FnP K "costs_ahead" "Game.costs_ahead" s_Game_costs_ahead [] (mC K "Game" "costs_ahead") fd := T.sa.def_ 41 (d := _root_.RL.d_Game_costs_ahead) rfl
theorem Tx.d__law_box (T : Tx K mg) : ∃ fd, FnP K "_law_box" "_law_box" s__law_box [] (He.ga K "_law_box") fd := T.sa.def_ 42 (d := _root_.RL.d__law_box) rfl
theorem Tx.d__law_pick (T : Tx K mg) : ∃ fd, FnP K "_law_pick" "_law_pick" s__law_pick [] (He.ga K "_law_pick") fd := T.sa.def_ 43 (d := _root_.RL.d__law_pick) rfl
theorem Tx.d__law_from (T : Tx K mg) : ∃ fd, FnP K "_law_from" "_law_from" s__law_from [] (He.ga K "_law_from") fd := T.sa.def_ 44 (d := _root_.RL.d__law_from) rfl
theorem Tx.d__law_mixed (T : Tx K mg) : ∃ fd, FnP K "_law_mixed" "_law_mixed" s__law_mixed [] (He.ga K "_law_mixed") fd := T.sa.def_ 45 (d := _root_.RL.d__law_mixed) rfl
theorem Tx.d__law_ways (T : Tx K mg) : ∃ fd, FnP K "_law_ways" "_law_ways" s__law_ways [] (He.ga K "_law_ways") fd := T.sa.def_ 46 (d := _root_.RL.d__law_ways) rfl
theorem Tx.d__law_board (T : Tx K mg) : ∃ fd, FnP K "_law_board" "_law_board" s__law_board [] (He.ga K "_law_board") fd := T.sa.def_ 47 (d := _root_.RL.d__law_board) rfl
theorem Tx.d__law_made (T : Tx K mg) : ∃ fd, FnP K "_law_made" "_law_made" s__law_made [] (He.ga K "_law_made") fd := T.sa.def_ 48 (d := _root_.RL.d__law_made) rfl
theorem Tx.d__law_spans (T : Tx K mg) : ∃ fd, FnP K "_law_spans" "_law_spans" s__law_spans [] (He.ga K "_law_spans") fd := T.sa.def_ 49 (d := _root_.RL.d__law_spans) rfl
theorem Tx.d__law_pace (T : Tx K mg) : ∃ fd, FnP K "_law_pace" "_law_pace" s__law_pace [] (He.ga K "_law_pace") fd := T.sa.def_ 50 (d := _root_.RL.d__law_pace) rfl
theorem Tx.d__law_lot (T : Tx K mg) : ∃ fd, FnP K "_law_lot" "_law_lot" s__law_lot [] (He.ga K "_law_lot") fd := T.sa.def_ 51 (d := _root_.RL.d__law_lot) rfl
theorem Tx.d__law_start (T : Tx K mg) : ∃ fd, FnP K "_law_start" "_law_start" s__law_start [] (He.ga K "_law_start") fd := T.sa.def_ 52 (d := _root_.RL.d__law_start) rfl
theorem Tx.d__law_look (T : Tx K mg) : ∃ fd, FnP K "_law_look" "_law_look" s__law_look [] (He.ga K "_law_look") fd := T.sa.def_ 53 (d := _root_.RL.d__law_look) rfl
theorem Tx.d__law_ground (T : Tx K mg) : ∃ fd, FnP K "_law_ground" "_law_ground" s__law_ground [] (He.ga K "_law_ground") fd := T.sa.def_ 54 (d := _root_.RL.d__law_ground) rfl
theorem Tx.d__law_hand (T : Tx K mg) : ∃ fd, FnP K "_law_hand" "_law_hand" s__law_hand [] (He.ga K "_law_hand") fd := T.sa.def_ 55 (d := _root_.RL.d__law_hand) rfl
theorem Tx.d__law_game (T : Tx K mg) : ∃ fd, FnP K "_law_game" "_law_game" s__law_game [] (He.ga K "_law_game") fd := T.sa.def_ 56 (d := _root_.RL.d__law_game) rfl
theorem Tx.d__law_played (T : Tx K mg) : ∃ fd, FnP K "_law_played" "_law_played" s__law_played [] (He.ga K "_law_played") fd := T.sa.def_ 57 (d := _root_.RL.d__law_played) rfl
theorem Tx.d__law_game_like (T : Tx K mg) : ∃ fd, FnP K "_law_game_like" "_law_game_like" s__law_game_like [] (He.ga K "_law_game_like") fd := T.sa.def_ 58 (d := _root_.RL.d__law_game_like) rfl
theorem Tx.d__law_dear (T : Tx K mg) : ∃ fd, FnP K "_law_dear" "_law_dear" s__law_dear [] (He.ga K "_law_dear") fd := T.sa.def_ 59 (d := _root_.RL.d__law_dear) rfl
theorem Tx.d_law (T : Tx K mg) : ∃ fd, FnP K "law" "law" s_law [] (He.ga K "law") fd := T.sa.def_ 60 (d := _root_.RL.d_law) rfl
end
/-- a def keeps its promise -/
structure Has (P : Program) (w : World) (K : PySem.W.Frag) (mg : Str → Option Value) (base : Heap) (f : Addr) (k : Nat) (ps : List Str) (sp : Sp) : Prop where
  ex : ∃ fd, FnOk P w K mg base CX0 k f fd ps sp ∧ Binds K fd ps []
  kp : PySem.W.keepIn K (.ref f) = true
end RL
/-! Walks on a board, how far places are, lots: plain mathematics. -/
namespace RLM
/-- a walk of so many ways -/
inductive Wk (E : List (Nat × Nat)) : Nat → Nat → Nat → Prop where
  | z (a : Nat) : Wk E 0 a a
  | s {k a b c : Nat} (h : Wk E k a b) (e : (b, c) ∈ E) : Wk E (k + 1) a c
def Near (E : List (Nat × Nat)) (m : Int) (a b : Nat) : Prop := ∃ k : Nat, (k : Int) ≤ m ∧ Wk E k a b
/-- all ways lie on n places -/
def On (n : Nat) (E : List (Nat × Nat)) : Prop := ∀ p ∈ E, p.1 < n ∧ p.2 < n ∧ p.1 ≠ p.2
theorem Wk.lt {n : Nat} {E : List (Nat × Nat)} (h : On n E) {k a b : Nat} (w : Wk E k a b) (ha : a < n) : b < n := by
  induction w with
  | z a => exact ha
  | s w e ih => exact (h _ e).2.1
theorem Wk.left {E : List (Nat × Nat)} {k a b c : Nat} (e : (a, b) ∈ E) (w : Wk E k b c) : Wk E (k + 1) a c := by
  induction w with
  | z b => exact .s (.z a) e
  | s w e2 ih => exact .s (ih e) e2
theorem Wk.turn {E F : List (Nat × Nat)} (h : ∀ a b, (a, b) ∈ E → (b, a) ∈ F) {k a b : Nat} (w : Wk E k a b) : Wk F k b a := by
  induction w with
  | z a => exact .z a
  | s w e ih => exact ih.left (h _ _ e)
theorem Wk.map {E F : List (Nat × Nat)} (f : Nat → Nat) (h : ∀ a b, (a, b) ∈ E → (f a, f b) ∈ F) {k a b : Nat} (w : Wk E k a b) : Wk F k (f a) (f b) := by
  induction w with
  | z a => exact .z _
  | s w e ih => exact .s ih (h _ _ e)
theorem Wk.mono {E F : List (Nat × Nat)} (h : ∀ p, p ∈ E → p ∈ F) {k a b : Nat} (w : Wk E k a b) : Wk F k a b := by
  induction w with
  | z a => exact .z _
  | s w e ih => exact .s ih (h _ e)
theorem near_refl {E : List (Nat × Nat)} {m : Int} {a : Nat} (h : 0 ≤ m) : Near E m a a := ⟨0, h, .z a⟩
theorem near_mono {E : List (Nat × Nat)} {m m' : Int} {a b : Nat} (h : m ≤ m') (x : Near E m a b) : Near E m' a b := by
  obtain ⟨k, h1, h2⟩ := x
  exact ⟨k, Int.le_trans h1 h, h2⟩
theorem near_turn {E F : List (Nat × Nat)} (h : ∀ a b, (a, b) ∈ E ↔ (b, a) ∈ F) {m : Int} {a b : Nat} : Near E m a b ↔ Near F m b a := by
  constructor
  · rintro ⟨k, h1, h2⟩
    exact ⟨k, h1, h2.turn fun a b => (h a b).1⟩
  · rintro ⟨k, h1, h2⟩
    exact ⟨k, h1, h2.turn fun a b => (h b a).2⟩
/-! ### how far: breadth first -/
/-- the lists of how far while the places that are l far are looked at -/
structure Lev (n : Nat) (E : List (Nat × Nat)) (a l : Nat) (fs : List (Option Nat)) (edge : List Nat) : Prop where
  len : fs.length = n
  some_ : ∀ (b d : Nat), fs[b]? = some (some d) → d ≤ l ∧ Wk E d a b ∧ ∀ k, Wk E k a b → d ≤ k
  none_ : ∀ b : Nat, fs[b]? = some none → ∀ k, Wk E k a b → l < k
  edge_ : ∀ b, b ∈ edge ↔ fs[b]? = some (some l)
theorem lev_start {n : Nat} {E : List (Nat × Nat)} {a : Nat} (ha : a < n) : Lev n E a 0 ((List.replicate n none).set a (some 0)) [a] := by
  refine ⟨by simp, fun b d h => ?_, fun b h k w => ?_, fun b => ?_⟩
  · rw [List.getElem?_set] at h
    by_cases e : a = b
    · subst e
      simp [ha] at h
      subst h
      exact ⟨Nat.le_refl _, .z _, fun k _ => Nat.zero_le _⟩
    · rw [if_neg e, List.getElem?_replicate] at h
      split at h <;> simp at h
  · rw [List.getElem?_set] at h
    by_cases e : a = b
    · subst e
      simp [ha] at h
    · cases w with
      | z => exact absurd rfl e
      | s w e2 => omega
  · rw [List.getElem?_set]
    by_cases e : a = b
    · subst e
      simp [ha]
    · rw [if_neg e, List.getElem?_replicate]
      simp
      exact fun h => e h.symm
/-- within a level: done are the ends looked at -/
structure Mid (n : Nat) (E : List (Nat × Nat)) (l : Nat) (fs0 : List (Option Nat)) (edge done : List Nat) (fs : List (Option Nat)) (bey : List Nat) : Prop where
  len : fs.length = n
  old : ∀ (b d : Nat), fs0[b]? = some (some d) → fs[b]? = some (some d)
  new : ∀ (b d : Nat), fs[b]? = some (some d) → fs0[b]? = some (some d) ∨ (fs0[b]? = some none ∧ d = l + 1 ∧ b ∈ bey)
  bey_ : ∀ b : Nat, b ∈ bey → fs0[b]? = some none ∧ fs[b]? = some (some (l + 1)) ∧ ∃ c, c ∈ edge ∧ (c, b) ∈ E
  done_ : ∀ o : Nat, o ∈ done → ∃ d, fs[o]? = some (some d)
  cnt : fs.count none + bey.length = fs0.count none
theorem mid_start {n l : Nat} {E : List (Nat × Nat)} {fs0 : List (Option Nat)} {edge : List Nat} (h : fs0.length = n) : Mid n E l fs0 edge [] fs0 [] :=
  ⟨h, fun _ _ h => h, fun _ _ h => .inl h, fun _ h => (by cases h), fun _ h => (by cases h), by simp⟩
theorem count_set : ∀ (fs : List (Option Nat)) (o d : Nat), fs[o]? = some none → (fs.set o (some d)).count none + 1 = fs.count none
  | [], o, d, h => by simp at h
  | x :: r, 0, d, h => by
    simp at h
    subst h
    simp
  | x :: r, o + 1, d, h => by
    simp at h
    have ih := count_set r o d h
    rw [List.set_cons_succ, List.count_cons, List.count_cons]
    omega
theorem Mid.hit {n l : Nat} {E : List (Nat × Nat)} {fs0 fs : List (Option Nat)} {edge done bey : List Nat} {o d : Nat} (M : Mid n E l fs0 edge done fs bey) (h : fs[o]? = some (some d)) : Mid n E l fs0 edge (done ++ [o]) fs bey :=
  ⟨M.len, M.old, M.new, M.bey_, fun p hp => (List.mem_append.mp hp).elim (M.done_ p) (fun hq => ⟨d, by rw [List.mem_singleton.mp hq]; exact h⟩), M.cnt⟩
theorem Mid.put {n l : Nat} {E : List (Nat × Nat)} {fs0 fs : List (Option Nat)} {edge done bey : List Nat} {o c : Nat} (M : Mid n E l fs0 edge done fs bey) (h0 : fs0.length = n) (h : fs[o]? = some none) (hc : c ∈ edge) (he : (c, o) ∈ E) :
    Mid n E l fs0 edge (done ++ [o]) (fs.set o (some (l + 1))) (bey ++ [o]) := by
  have hl : o < fs.length := (List.getElem?_eq_some_iff.mp h).1
  have h00 : fs0[o]? = some none := by
    have h1 : o < fs0.length := by rw [h0, ← M.len]; exact hl
    rw [List.getElem?_eq_getElem h1]
    cases e : fs0[o] with
    | none => rfl
    | some d =>
      have q := M.old o d (by rw [List.getElem?_eq_getElem h1, e])
      rw [h] at q
      cases q
  refine ⟨by simp [M.len], fun b d hb => ?_, fun b d hb => ?_, fun b hb => ?_, fun p hp => ?_, ?_⟩
  · have q := M.old b d hb
    rw [List.getElem?_set]
    by_cases e : o = b
    · subst e
      rw [h] at q
      cases q
    · rw [if_neg e]
      exact q
  · rw [List.getElem?_set] at hb
    by_cases e : o = b
    · subst e
      simp [hl] at hb
      exact .inr ⟨h00, hb.symm, by simp⟩
    · rw [if_neg e] at hb
      rcases M.new b d hb with q | ⟨q1, q2, q3⟩
      · exact .inl q
      · exact .inr ⟨q1, q2, List.mem_append_left _ q3⟩
  · rcases List.mem_append.mp hb with hb | hb
    · obtain ⟨q1, q2, q3⟩ := M.bey_ b hb
      refine ⟨q1, ?_, q3⟩
      rw [List.getElem?_set]
      by_cases e : o = b
      · subst e
        simp [hl]
      · rw [if_neg e]
        exact q2
    · rw [List.mem_singleton.mp hb]
      exact ⟨h00, by simp [hl], c, hc, he⟩
  · rw [List.getElem?_set]
    by_cases e : o = p
    · subst e
      exact ⟨l + 1, by simp [hl]⟩
    · rw [if_neg e]
      rcases List.mem_append.mp hp with hp | hp
      · exact M.done_ p hp
      · exact absurd (List.mem_singleton.mp hp).symm e
  · have q := count_set fs o (l + 1) h
    have q2 := M.cnt
    rw [List.length_append]
    simp
    omega
/-- a level's end -/
theorem Mid.next {n l a : Nat} {E : List (Nat × Nat)} {fs0 fs : List (Option Nat)} {edge done bey : List Nat} (M : Mid n E l fs0 edge done fs bey) (L : Lev n E a l fs0 edge) (hE : On n E) (ha : a < n) (hd : ∀ c o, c ∈ edge → (c, o) ∈ E → o ∈ done) : Lev n E a (l + 1) fs bey := by
  have key : ∀ b, fs[b]? = some none → fs0[b]? = some none := fun b h => by
    have hl : b < fs.length := (List.getElem?_eq_some_iff.mp h).1
    have h1 : b < fs0.length := by rw [L.len, ← M.len]; exact hl
    rw [List.getElem?_eq_getElem h1]
    cases e : fs0[b] with
    | none => rfl
    | some d =>
      have q := M.old b d (by rw [List.getElem?_eq_getElem h1, e])
      rw [h] at q
      cases q
  refine ⟨M.len, fun b d h => ?_, fun b h k w => ?_, fun b => ⟨fun h => (M.bey_ b h).2.1, fun h => ?_⟩⟩
  · rcases M.new b d h with q | ⟨q1, q2, q3⟩
    · obtain ⟨r1, r2, r3⟩ := L.some_ b d q
      exact ⟨Nat.le_succ_of_le r1, r2, r3⟩
    · subst q2
      obtain ⟨_, _, c, hc, he⟩ := M.bey_ b q3
      have r := (L.some_ c l ((L.edge_ c).1 hc)).2.1
      exact ⟨Nat.le_refl _, .s r he, fun k w => L.none_ b q1 k w⟩
  · have h0 := key b h
    have q := L.none_ b h0 k w
    rcases Nat.lt_or_ge (l + 1) k with c | c
    · exact c
    · exfalso
      have e : k = l + 1 := by omega
      subst e
      cases w with
      | s w e =>
        rename_i c
        have hc : c < n := w.lt hE ha
        have hcl : c < fs0.length := by rw [L.len]; exact hc
        have hcs : fs0[c]? = some (some l) := by
          rw [List.getElem?_eq_getElem hcl]
          cases z : fs0[c] with
          | none =>
            have := L.none_ c (by rw [List.getElem?_eq_getElem hcl, z]) l w
            omega
          | some d =>
            have hz : fs0[c]? = some (some d) := by rw [List.getElem?_eq_getElem hcl, z]
            obtain ⟨r1, r2, r3⟩ := L.some_ c d hz
            have r4 := r3 l w
            have r5 : l + 1 ≤ d + 1 := by
              have := L.none_ b h0 (d + 1) (.s r2 e)
              omega
            have : d = l := by omega
            rw [this]
        obtain ⟨d, hd2⟩ := M.done_ b (hd c b ((L.edge_ c).2 hcs) e)
        rw [h] at hd2
        cases hd2
  · rcases M.new b (l + 1) h with q | ⟨_, _, q3⟩
    · have := (L.some_ b _ q).1
      omega
    · exact q3
/-- what a list of how far tells -/
def Fars (n : Nat) (E : List (Nat × Nat)) (a : Nat) (fs : List (Option Nat)) : Prop := fs.length = n ∧ ∀ (b : Nat) (d : Option Nat), fs[b]? = some d → (∀ m : Int, (∃ k : Nat, d = some k ∧ (k : Int) ≤ m) ↔ Near E m a b)
theorem Lev.fars {n l a : Nat} {E : List (Nat × Nat)} {fs : List (Option Nat)} (L : Lev n E a l fs []) (hE : On n E) (ha : a < n) : Fars n E a fs := by
  have all : ∀ k b, Wk E k a b → ∃ d, fs[b]? = some (some d) := by
    intro k
    induction k with
    | zero =>
      intro b w
      cases w
      have hl : a < fs.length := by rw [L.len]; exact ha
      cases z : fs[a] with
      | none =>
        have := L.none_ a (by rw [List.getElem?_eq_getElem hl, z]) 0 (.z a)
        omega
      | some d => exact ⟨d, by rw [List.getElem?_eq_getElem hl, z]⟩
    | succ k ih =>
      intro b w
      have hb : b < n := w.lt hE ha
      have hbl : b < fs.length := by rw [L.len]; exact hb
      cases w with
      | s w e =>
        rename_i c
        obtain ⟨d, hd⟩ := ih c w
        obtain ⟨r1, r2, r3⟩ := L.some_ c d hd
        have r4 : d ≠ l := fun z => by
          subst z
          have := (L.edge_ c).2 hd
          cases this
        cases z : fs[b] with
        | none =>
          have := L.none_ b (by rw [List.getElem?_eq_getElem hbl, z]) (d + 1) (.s r2 e)
          omega
        | some d2 => exact ⟨d2, by rw [List.getElem?_eq_getElem hbl, z]⟩
  refine ⟨L.len, fun b d h m => ⟨?_, ?_⟩⟩
  · rintro ⟨k, rfl, hk⟩
    exact ⟨k, hk, (L.some_ b k h).2.1⟩
  · rintro ⟨k, hk, w⟩
    obtain ⟨d2, hd2⟩ := all k b w
    rw [h] at hd2
    have e : d = some d2 := Option.some.inj hd2
    subst e
    have := (L.some_ b d2 h).2.2 k w
    exact ⟨d2, rfl, by omega⟩
/-! ### lots -/
open Classical in
noncomputable def lotP (n : Nat) (p : Nat → Prop) : List Nat := (List.range n).filter fun b => decide (p b)
open Classical in
theorem mem_lotP {n : Nat} {p : Nat → Prop} {b : Nat} : b ∈ lotP n p ↔ b < n ∧ p b := by
  unfold lotP
  rw [List.mem_filter, List.mem_range, decide_eq_true_iff]
open Classical in
theorem lotP_congr {n : Nat} {p q : Nat → Prop} (h : ∀ b, b < n → (p b ↔ q b)) : lotP n p = lotP n q := by
  unfold lotP
  refine List.filter_congr fun b hb => ?_
  rw [decide_eq_decide]
  exact h b (List.mem_range.mp hb)
theorem sorted_eq : ∀ {xs ys : List Nat}, xs.Pairwise (· < ·) → ys.Pairwise (· < ·) → (∀ b, b ∈ xs ↔ b ∈ ys) → xs = ys
  | [], [], _, _, _ => rfl
  | [], y :: ys, _, _, h => by
    have := (h y).2 (by simp)
    cases this
  | x :: xs, [], _, _, h => by
    have := (h x).1 (by simp)
    cases this
  | x :: xs, y :: ys, h1, h2, h => by
    rw [List.pairwise_cons] at h1 h2
    have exy : x = y := by
      rcases List.mem_cons.mp ((h x).1 (by simp)) with e | e
      · exact e
      · rcases List.mem_cons.mp ((h y).2 (by simp)) with e2 | e2
        · exact e2.symm
        · have a := h1.1 y e2
          have b := h2.1 x e
          omega
    subst exy
    congr 1
    refine sorted_eq h1.2 h2.2 fun b => ⟨fun hb => ?_, fun hb => ?_⟩
    · rcases List.mem_cons.mp ((h b).1 (List.mem_cons_of_mem _ hb)) with e | e
      · have := h1.1 b hb
        omega
      · exact e
    · rcases List.mem_cons.mp ((h b).2 (List.mem_cons_of_mem _ hb)) with e | e
      · have := h2.1 b hb
        omega
      · exact e
theorem range_sorted (n : Nat) : (List.range n).Pairwise (· < ·) := List.pairwise_lt_range
theorem lotP_sorted (n : Nat) (p : Nat → Prop) : (lotP n p).Pairwise (· < ·) := (range_sorted n).filter _
theorem lotP_of {n : Nat} {p : Nat → Prop} {xs : List Nat} (h : xs.Pairwise (· < ·)) (hm : ∀ b, b ∈ xs ↔ b < n ∧ p b) : xs = lotP n p :=
  sorted_eq h (lotP_sorted n p) fun b => (hm b).trans mem_lotP.symm
theorem lotP_len (n : Nat) (p : Nat → Prop) : (lotP n p).length ≤ n := by
  have := List.length_filter_le (fun b => @decide (p b) (Classical.propDecidable _)) (List.range n)
  rw [List.length_range] at this
  exact this
end RLM
/-! Rules that this program wants besides: len of an own object, sorted and set of a tuple, a tuple's index and multiple, enumerate of a tuple. -/
namespace RL
open PySem PySem.Spec PyProof.Rows L2
section
variable {X : Cx}
/-- set(t), t a tuple of ints -/
def rSetT (w : World) (K : PySem.W.Frag) : List V → Hp → VK → Prop := fun vs H Q => ∃ (a : Addr) (ns : List Int), vs = [.ref a] ∧ SqT K H a (ns.map V.int) ∧ ns.length ≤ 1000 ∧
  ∀ (p : Addr) (c : Nat), H p = none → c ≤ ns.length → Q (.ref p) (upd H p (SetO w p (fun j => decide (j ∈ ns)) c))
theorem cr_setT (hc : X.calm = true) : CallR X (.type "set") (rSetT X.w X.K) := by
  intro pins s σ H vs us Q I r h
  obtain ⟨a, ns, rfl, hs, hz, q⟩ := h
  obtain ⟨its, rv, ht, _⟩ := I.tuple hs
  rw [Vals.ref1 r]
  have hi : IntsAre its.toArray.toList ns := by simpa using rv.ints
  refine call_set_tupI ns (I.ok.hd hc) ht hi (Nat.lt_of_le_of_lt (Nat.succ_le_succ hz) (by decide)) fun h' tk c R hcl hk => ?_
  have fr : H s.heap.objs.size = none := I.hok.fresh (Nat.le_refl _)
  exact ⟨.ref _, _, I.laid hk (Nat.le_refl _) (setO_new R), rfl, q _ c fr hcl⟩
/-- sorted(t), t a tuple of ints, fewer than 64 -/
def rSortT (K : PySem.W.Frag) : List V → Hp → VK → Prop := fun vs H Q => ∃ (a : Addr) (ns : List Int), vs = [.ref a] ∧ SqT K H a (ns.map V.int) ∧ ns.length < 64 ∧
  ∀ (ms : List Int) (p : Addr), ms.Perm ns → ms.Pairwise (· ≤ ·) → H p = none → Q (.ref p) (upd H p (.lst (ms.map V.int)))
theorem cr_sortTup : CallR X (.builtin "sorted") (rSortT X.K) := by
  intro pins s σ H vs us Q I r h
  obtain ⟨a, ns, rfl, hs, h64, q⟩ := h
  obtain ⟨its, rv, ⟨o, ho, hcl, nn, hd⟩, _⟩ := I.tuple hs
  rw [Vals.ref1 r]
  have hi := rv.ints
  have hle : its.length = ns.length := hi.length
  refine Calls.call_function_entry kind_sorted plain_sorted entry_sorted (args_sorted1 _) ?_
  unfold Builtin.«sorted»
  refine wpAny_bind (m := checkCount "sorted" 1 1 _) (wpAny_pure ?_)
  refine wpAny_bind (wpAny_collect_seq a (.inr rfl) ho hcl hd (fun h1 k1 => ?_) (by rw [List.size_toArray, hle, sizeLine_eq]; omega))
  refine wpAny_bind (wpAny_newList ?_ (by rw [sizeLine_eq]; simp; omega))
  have at1 : (h1.push (seqObj "list" its.toArray 0)).get? h1.objs.size = some (seqObj "list" its.toArray 0) := Heap.get?_push_size _ rfl
  refine wpAny_bind (wpAny_holding (wpAny_call_entry slot_list_sort ⟨_, at1, rfl⟩ entry_list_sort (list_sort_tree at1 hi (by omega) fun out ms a1 a2 a3 => ⟨_, rfl, ?_⟩) (args_list_sort _)))
  refine wpAny_pure ⟨_, rfl, ?_⟩
  have I1 : Inv X pins σ H { s with heap := h1 } := I.kept (t' := s.toks) k1
  obtain ⟨ep, he⟩ := PyProof.Rows.sortedHeap_at (vs := its) (out := out) at1
  have hlen : (ms.map V.int).length ≤ sizeLine := by rw [List.length_map, a2.length_eq, sizeLine_eq]; omega
  refine ⟨.ref h1.objs.size, upd H h1.objs.size (.lst (ms.map V.int)), I1.laid (t' := s.toks) (fun b ob e => ?_) (Nat.le_refl _) ⟨hlen, out.toList, ep, vals_of_ints a1, by simpa using he⟩, rfl, q ms _ a2 a3 (I1.hok.fresh (Nat.le_refl _))⟩
  rw [PyProof.Rows.sortedHeap_old (Nat.ne_of_lt (Heap.lt_size e)) (by rw [Heap.size_push]; exact Nat.lt_succ_of_lt (Heap.lt_size e))]
  exact Heap.get?_push_of_some _ e
/-- t.index(k), ints: the first place -/
theorem flat_ints (ys : List Int) : (ys.map V.int).all flatV = true := by
  rw [List.all_map]
  exact List.all_eq_true.mpr fun _ _ => rfl
def rTupIx (K : PySem.W.Frag) : V → List V → Hp → VK → Prop := fun x xs H Q => ∃ (p : Addr) (ys : List Int) (z : Int) (j : Nat), x = .ref p ∧ xs = [.int z] ∧ SqT K H p (ys.map V.int) ∧ ys[j]? = some z ∧ (∀ m : Nat, m < j → ys[m]? ≠ some z) ∧ Q (.int (j : Nat)) H
theorem mt_tupIx : MtR X "tuple.index" (rTupIx X.K) := by
  intro pins s σ H x xs v us Q I rx rs h
  obtain ⟨p, ys, z, j, rfl, rfl, hq, hy, hno, q⟩ := h
  cases rx
  obtain ⟨u, rfl, t, rfl⟩ := vals1 rs
  obtain ⟨its, r, ⟨⟨cls, dd, dt, sl⟩, ho, hc, n, hd⟩, hz⟩ := I.tuple hq
  cases (show cls = _ from hc)
  cases (show dt = _ from hd)
  have hl : its.length = ys.length := by rw [← r.length, List.length_map]
  have each : ∀ (m : Nat) (hm : m < its.toArray.size), ∃ y t', ys[m]? = some y ∧ its.toArray[m] = Value.int y t' := fun m hm => by
    have hm2 : m < ys.length := by rw [← hl]; simpa using hm
    obtain ⟨wv, hw, t', hw'⟩ := r.get (i := m) (x := .int ys[m]) (by simp [hm2])
    refine ⟨ys[m], t', List.getElem?_eq_getElem hm2, ?_⟩
    have e := (List.getElem?_eq_some_iff.mp hw).2
    rw [← hw', ← e]
    simp
  have hj : j < its.toArray.size := by
    rw [List.size_toArray, hl]
    exact (List.getElem?_eq_some_iff.mp hy).1
  refine call_meets PySem.F.slot_tuple_index ⟨_, ho, rfl⟩ PySem.F.entry_tuple_index (PySem.F.args_tuple_index_2 _ _) (TI.tuple_indexAt p its.toArray n dd sl (.int z t) (eqU (.int z)) j hj ?_ ?_)
    ⟨ho, fun wv hw => mem_eqAt (x := .int z) ⟨t, rfl⟩ rfl r (flat_ints ys) wv (by simpa using hw), ⟨.int (j : Nat), H, I.tok _, ⟨_, rfl⟩, q⟩⟩
  · obtain ⟨y, t', h1, h2⟩ := each j hj
    rw [hy] at h1
    cases h1
    rw [h2]
    show decide (z = z) = true
    simp
  · intro m hm hmj
    obtain ⟨y, t', h1, h2⟩ := each m hm
    rw [h2]
    have e : y ≠ z := fun e => hno m hmj (e ▸ h1)
    show decide (y = z) = false
    simp [e]
end
end RL
namespace RL
open PySem PySem.Spec PyProof.Rows L2
open AutoSeq1 (wpAny_loadPart')
/-- t * 1 is t -/
theorem tuple_mul1 (l : Addr) (items : Array Value) (n : Nat) (dd : Option Addr) (sl : Array (Option Value)) (u : Tok) :
    Meets (Builtin.«tuple.__mul__» ⟨[.ref l, .int 1 u], []⟩) (fun _ R s => s.heap.get? l = some { cls := .type "tuple", dict := dd, data := .seq items n, slots := sl } ∧ R (.ok (.ret (.ref l))) s) :=
  .of_wp fun prog w A R s h => by
    obtain ⟨hp, g, d, tk, os⟩ := s
    obtain ⟨hl, h⟩ := h
    have f1 := AutoSeq1.idx_int
    have c1 : (items.isEmpty || (1 : Int) == 1) = true := by simp
    wp_walk using wpAny_loadPart' hl
    exact ⟨_, rfl, h⟩
set_option maxHeartbeats 1000000 in
theorem meets_enum_tup {v : Value} {o : Obj} {H : Heap → Prop} (B : Begins v o H) :
    Meets (Builtin.«enumerate.__new__» ⟨[.type "enumerate", v], []⟩) (fun _ R s => H s.heap ∧
      R (.ok (.ret (.ref (s.heap.push o).objs.size))) { s with heap := (s.heap.push o).push { cls := .type "enumerate", data := .fields #[.none, .bool false, .ref s.heap.objs.size, rawInt 0, .none, .none] } }) :=
  .of_wp fun P0 w0 A R s hh => by
    obtain ⟨hp, g, d, tk, os⟩ := s
    have hsub := sub_enumerate
    have draw : ∀ {A1 : Around} {E1 : Value → Shared → Prop} {Q1 : Value → Shared → Prop}, Q1 (.ref hp.objs.size) ⟨hp.push o, g, d, tk, os⟩ → wpAny (model P0 w0) A1 (pyIter v) Q1 E1 ⟨hp, g, d, tk, os⟩ :=
      fun z => B.iter P0 w0 _ _ ⟨hp, g, d, tk, os⟩ _ hh.1 z
    have fin := hh.2
    wp_walk using draw
    refine wpAny_stack_any fun st => wpAny_pure ?_
    split
    · rename_i c _ _ _ _ _
      cases (c == Value.type "enumerate")
      all_goals
        wp_walk using draw
        exact ⟨_, rfl, fin⟩
    · wp_walk using draw
      exact ⟨_, rfl, fin⟩
theorem call_enum_tup {prog : Program} {w : World} {A : Around} {E : Value → Shared → Prop} {s : Shared} {t : Addr} {items : Array Value} {Q : Value → Shared → Prop} (ht : s.heap.IsTuple t items)
    (h : ∀ h', IsEnum h' (s.heap.objs.size + 1) s.heap.objs.size 0 .none → h'.IsTupleIter s.heap.objs.size t 0 → (∀ b o, s.heap.get? b = some o → h'.get? b = some o) → Q (.ref (s.heap.objs.size + 1)) { s with heap := h' }) :
    wpAny (model prog w) A (call (.type "enumerate") [.ref t]) Q E s := by
  refine callType_new F.called_enumerate (by decide) (F.typeCall_enumerate_1 _) (F.newCall_enumerate_1 _) (fun ob => F.args_object_init_2 ob _) F.entry_enumerate_new (meets_enum_tup (begins_tuple t items)) ⟨ht, ?_⟩
  generalize ho1 : ({ cls := .type "tuple_iterator", data := .fields #[.ref t, .int 0 0] } : Obj) = o1
  have fr1 : o1.isFreed = false := by rw [← ho1]; rfl
  generalize ho2 : ({ cls := .type "enumerate", data := .fields #[.none, .bool false, .ref s.heap.objs.size, rawInt 0, .none, .none] } : Obj) = o2
  have z1 : (s.heap.push o1).objs.size = s.heap.objs.size + 1 := Heap.size_push ..
  have g2 : ((s.heap.push o1).push o2).get? (s.heap.objs.size + 1) = some o2 := by
    rw [← z1]
    exact Heap.get?_push_size _ (by rw [← ho2]; rfl)
  have g1 : ((s.heap.push o1).push o2).get? s.heap.objs.size = some o1 := Heap.get?_push_of_some _ (Heap.get?_push_size _ fr1)
  show _ ∧ _
  rw [z1]
  refine ⟨⟨o2, g2, by rw [← ho2]⟩, h _ (by rw [← ho2] at g2 ⊢; exact g2) ⟨o1, g1, by rw [← ho1], by rw [← ho1]; rfl⟩ fun b o e => Heap.get?_push_of_some _ (Heap.get?_push_of_some _ e)⟩
/-- a tuple at a, its items in new pairs with their numbers -/
def Itu (K : PySem.W.Frag) (a : Addr) : It :=
  ⟨fun i H => ∃ (xs : List V) (x : V), SqT K H a xs ∧ xs[i]? = some x, fun i H v H' => ∃ T x, v = .ref T ∧ H T = none ∧ H' = upd H T (.tup [.int (i : Nat), x]) ∧ ∀ xs, SqT K H a xs → xs[i]? = some x, fun i H => ∃ xs : List V, SqT K H a xs ∧ xs.length = i⟩
theorem turn_enumT {P : Program} {w : World} {K : PySem.W.Frag} {elts : List Expr} {kk : Nat} {tpos : Pos} (a e it : Addr) (hne : e ≠ it) (hai : a ≠ it) (hea : e ≠ a) :
    Turn P w K (.Tuple elts kk tpos) (Itu K a) [e, it] e (fun i h => (∃ old, IsEnum h e it ((i : Nat) : Int) old) ∧ h.IsTupleIter it a i) where
  mem := by simp
  obj := fun i h st b hb => by
    obtain ⟨⟨old, he⟩, ⟨o, ho, hc, hd⟩⟩ := st
    have z : b = e ∨ b = it := by simpa using hb
    rcases z with z | z
    · rw [z]
      exact ⟨_, he, fun v q => nomatch q⟩
    · rw [z]
      exact ⟨o, ho, fun v q => by rw [hd] at q; cases q⟩
  keep := fun i h h' st k => ⟨st.1.imp fun old he => k e (by simp) _ he, st.2.at fun o q => k it (by simp) o q⟩
  item := by
    intro X hP hw hK hc i pins s σ H E I hf st hg
    subst hP hw hK
    obtain ⟨⟨old, he⟩, hit⟩ := st
    obtain ⟨xs, x, hq, hx⟩ := hg
    obtain ⟨its, rv, ht, hz⟩ := I.tuple hq
    obtain ⟨u, hu, ru⟩ := rv.get hx
    have hi : i < its.toArray.size := by
      rw [List.size_toArray]
      exact (List.getElem?_eq_some_iff.mp hu).1
    have el : e < s.heap.objs.size := Heap.lt_size he
    have il : it < s.heap.objs.size := by
      obtain ⟨_, q, _⟩ := hit
      exact Heap.lt_size q
    refine wpAny_pyNext_enum_itemD (Draws.tuple (A := X.A.in1) (show X.A.in1.handled = none from I.ok.hd hc) it a hai its.toArray) he ⟨hit, ht⟩ hi hne (by simp [hne, hea]) fun y h' tk py ho st' hT hsz hk => ?_
    have ey : y = u := by
      have q : its[i]? = some y := by simpa using py
      rw [hu] at q
      exact (Option.some.inj q).symm
    subst ey
    refine ⟨_, rfl, wpAny_letOwnedTupleGo_enum (s := { s with heap := h', toks := tk + 1 }) ho fun h'' he' sb => ?_⟩
    have hT2 : h''.get? s.heap.objs.size = some { cls := .type "tuple", data := .seq #[.int i tk, y] } := (sb.2 _ (Nat.ne_of_gt el)).trans hT
    have new : ObjOk X.prog X.w (upd H s.heap.objs.size (.tup [.int (i : Nat), x])) h'' s.heap.objs.size (.tup [.int (i : Nat), x]) :=
      ⟨by show 2 ≤ sizeLine; decide, [.int i tk, y], .cons ⟨_, rfl⟩ (.cons ru .nil), ⟨_, hT2, rfl, _, rfl⟩⟩
    have I1 : Inv X pins σ (upd H s.heap.objs.size (.tup [.int (i : Nat), x])) { s with heap := h'', toks := tk + 1 } :=
      I.turnedNew (ch := [e, it]) (fun b ob hb q => (sb.2 b (fun z => hb (by simp [z]))).trans (hk b ob (fun z => hb (by simp [z])) (fun z => hb (by simp [z])) q)) hf (Nat.le_refl _) new
    refine ⟨.ref s.heap.objs.size, _, I1, rfl, ⟨_, x, rfl, I.hok.fresh (Nat.le_refl _), rfl, fun ys hy => by rw [I.tuple_inj hy hq]; exact hx⟩, ⟨⟨y, by simpa using he'⟩, st'.1.at fun o q => (sb.2 it (Ne.symm hne)).trans q⟩, fun b hb => ?_⟩
    have lt : b < s.heap.objs.size := by
      have z : b = e ∨ b = it := by simpa using hb
      rcases z with z | z
      · rw [z]; exact el
      · rw [z]; exact il
    rw [upd_ne (Nat.ne_of_lt lt)]
    exact (hf b hb).1
  done := by
    intro X hP hw hK hc i pins s σ H E I hf st hg
    subst hP hw hK
    obtain ⟨⟨old, he⟩, hit⟩ := st
    obtain ⟨xs, hq, hx⟩ := hg
    obtain ⟨its, rv, ht, hz⟩ := I.tuple hq
    obtain ⟨f0, f1, f2, f3, f4, f5⟩ := hf it (by simp)
    have hl : its.toArray.size = i := by
      rw [List.size_toArray, ← rv.length]
      exact hx
    exact wpAny_pyNext_enum_endD (Draws.tuple (A := X.A.in1) (show X.A.in1.handled = none from I.ok.hd hc) it a hai its.toArray) he (by rw [hl]; exact ⟨hit, ht⟩) fun h' eb => ⟨rfl, I.turned (t' := s.toks) (fun b o hb q => eb b o hb q) f0 f1 f3 f4 f5⟩
  self := fun A i s Q E st h => wpAny_pyIter_enum st.1.choose_spec h
def iEnumT (K : PySem.W.Frag) (ta : TA) : TI := fun σ H R => ta σ H fun vs H1 => ∃ a xs, vs = [.ref a] ∧ SqT K H1 a xs ∧ R (Itu K a) H1
theorem pi_enumT {X : Cx} {e : Expr} {ta : TA} {p pos tpos : Pos} {elts : List Expr} {kk : Nat} (hg : Gl X "enumerate") (hm : X.mg "enumerate" = none) (ha : PA X [e] ta) (hs : starEach [e] X.env = [(false, eval e X.env)] := by rfl) :
    PI X (.Tuple elts kk tpos) (.Call (.Name "enumerate" p) [e] [] pos) (iEnumT X.K ta) := by
  refine ⟨fun pins s σ H R I h => ?_⟩
  refine Call_ (ld_blt I hg hm boot_enumerate (PyProof.Rows.callWith_type1 (thn (ha.run pos pins s σ H _ I h) fun us s1 ⟨vs, H1, I1, r1, q1⟩ => ?_) hs rfl))
  obtain ⟨a, xs, ex, hq, q⟩ := q1
  subst ex
  rw [Vals.ref1 r1]
  obtain ⟨its, rv, ht, hz⟩ := I1.tuple hq
  have al : a < s1.heap.objs.size := by
    obtain ⟨o, ho, _⟩ := ht
    exact Heap.lt_size ho
  refine call_enum_tup ht fun h' he hit hk => wpAny_pyIter_enum he ?_
  have I2 : Inv X pins σ H1 { s1 with heap := h' } := I1.kept (t' := s1.toks) hk
  refine ⟨s1.heap.objs.size + 1, [s1.heap.objs.size + 1, s1.heap.objs.size], _, _, H1, rfl, I2, turn_enumT a (s1.heap.objs.size + 1) s1.heap.objs.size (Nat.succ_ne_self _) (Nat.ne_of_lt al) (Nat.ne_of_gt (Nat.lt_succ_of_lt al)), ⟨⟨.none, he⟩, hit⟩, fun b hb => ?_, q⟩
  have hle : s1.heap.objs.size ≤ b := by
    have z : b = s1.heap.objs.size + 1 ∨ b = s1.heap.objs.size := by simpa using hb
    rcases z with z | z
    · rw [z]; exact Nat.le_succ _
    · rw [z]; exact Nat.le_refl _
  exact I1.fpOk hle (I1.hok.fresh hle)
theorem walk_enumT {K : PySem.W.Frag} {a : Addr} {xs : List V} : Walk (Itu K a) xs.length (fun H => SqT K H a xs) (YPair (fun i => some (.int (i : Nat))) (fun i => xs[i]?)) := by
  refine ⟨fun i H hi q => ⟨xs, xs[i], q, by simp [hi]⟩, fun H q => ⟨xs, q, rfl⟩, fun i H v H' hi q y => ?_⟩
  obtain ⟨T, x, e1, e2, e3, e4⟩ := y
  exact ⟨T, _, x, e1, e2, e3, rfl, e4 xs q⟩
section
variable {X : Cx}
/-- t * k, 1 ≤ k -/
def rRepT1 (K : PySem.W.Frag) : R2 := fun x y H Q => ∃ (l : Addr) (k : Int) (xs : List V), x = .ref l ∧ y = .int k ∧ SqT K H l xs ∧ xs ≠ [] ∧ 1 ≤ k ∧ k ≤ 1000 ∧ xs.length ≤ 1000 ∧ (k = 1 → Q (.ref l) H) ∧ ∀ p, H p = none → Q (.ref p) (upd H p (.tup (List.replicate k.toNat xs).flatten))
theorem op_repT1 : OpR X (binaryOp .Mult) (rRepT1 X.K) := by
  intro pins s σ H x y v u Q I rx ry h
  obtain ⟨l, k, xs, hx, hy, hT, hne, h1, h2, hz, q1, q⟩ := h
  by_cases hk : k = 1
  · subst hk hx hy
    cases rx
    obtain ⟨t, rfl⟩ := ry
    obtain ⟨its, r, ⟨⟨cls, dd, data, sl⟩, ho, hc, n, hd⟩, hs⟩ := I.tuple hT
    cases (show cls = _ from hc)
    cases (show data = _ from hd)
    refine wpAny_binaryOp_repeat_ref (T := "tuple") (U := "int") (by decide) ⟨_, ho, rfl⟩ (fun s' => typeIs_int s' 1 t) noFill_tuple_mul F.fills_int_mul F.slot_int_rmul repeat_tuple F.slot_int_index.lookup
      (call_meets F.slot_int_rmul (typeIs_int s 1 t) F.entry_int_rmul (F.args_int_rmul_2 _ _) (int_rmul_tuple 1 t l its.toArray n dd sl)
        ⟨ho, rfl, ⟨_, ho, rfl⟩, call_meets F.slot_tuple_mul ⟨_, ho, rfl⟩ F.entry_tuple_mul (F.args_tuple_mul_2 _ _) (tuple_mul1 l its.toArray n dd sl t) ⟨ho, ?_⟩⟩)
    exact ⟨.ref l, H, I, rfl, q1 rfl⟩
  · exact op_repT pins s σ H x y v u Q I rx ry ⟨l, k, xs, hx, hy, hT, hne, by omega, h2, hz, q⟩
/-- len(o), o of a class with its own __len__ -/
def rLenOwn (C : Addr) (sp : Sp) : List V → Hp → VK → Prop := fun vs H Q => ∃ (a dx : Addr) (fs : List (Str × V)), vs = [.ref a] ∧ H a = some (.ins C dx fs) ∧ sp [.ref a] H (fun v H' => ∃ n : Int, v = .int n ∧ 0 ≤ n ∧ n < 2 ^ 63 ∧ Q (.int n) H') (fun _ _ _ => False)
theorem call_lenOwn {C f : Addr} {fd : FuncData} {ps : List Str} {sp : Sp} {k : Nat} (hm : Meth X.K C "__len__" f) (F : FnOk X.prog X.w X.K X.mg X.base CX0 k f fd ps sp) (hb : Binds X.K fd ps []) (hr : Room (k + 1) X.A) : CallR X (.builtin "len") (rLenOwn C sp) := by
  intro pins s σ H vs us Q I r h
  obtain ⟨a, dx, fs, rfl, ha, q⟩ := h
  rw [Vals.ref1 r]
  obtain ⟨mA, O, _⟩ := ins_get I.hok ha
  obtain ⟨od, J, _⟩ := O.look
  refine Calls.call_function_entry kind_len plain_len entry_len (args_len1 _) ?_
  unfold Builtin.«len»
  refine wpAny_bind (m := oneArg "len" _) (wpAny_pure ?_)
  have ty : PySem.W.typeIn X.K (.ref f) = some (.type "function") := beq_iff_eq.mp hm.fn
  refine wpAny_bind (m := callSpecial? (.ref a) (Str.ofString "__len__")) (PySem.W.special_fn I.kIn J hm.at_ ty ?_)
  refine wpAny_call (codeAny_mono (F.run X.A.in1 X.stack s H ⟨[.ref a], []⟩ [.ref a] [.ref a] _ _ hr.in1 I.env0.in1 (hb s [.ref a] I.kIn (F.len _ _ _ _ q)) (.cons rfl .nil) q) fun rr s1 hq => ?_)
  cases rr with
  | error e => exact hq.elim
  | ok fl =>
    cases fl with
    | ret u =>
      obtain ⟨v, H1, I1, rv, n, e, n0, n1, qq⟩ := I.after hq
      subst e
      obtain ⟨t, rfl⟩ := rv
      refine wpAny_bind (wpAny_holding (wpAny_pure ?_))
      refine wpAny_bind (wpAny_letGo ?_)
      show wpAny _ _ (if n < 0 then _ else _) _ _ _
      rw [if_neg (by omega)]
      show wpAny _ _ (if n ≥ 2 ^ 63 then _ else _) _ _ _
      rw [if_neg (by omega)]
      exact wpAny_bind (wpAny_mkInt (wpAny_pure ⟨_, rfl, .int n, H1, I1.tok _, ⟨_, rfl⟩, qq⟩))
    | next => exact hq.elim
    | brk => exact hq.elim
    | cont => exact hq.elim
end
end RL
/-! A set comprehension with two clauses whose items are ints. -/
namespace RL
open PySem PySem.Spec PyProof.Rows L2
section
variable {prog : Program} {w : World} {A : Around} {R : Result → Shared → Prop} {s : Shared} {el ta ia tb ib : Expr} {fa fb : List Expr} {sc : Scope} {pos : Pos} {it acc : Value} {env : Env}
/-- the expression -/
abbrev sc2E (el ta ia : Expr) (fa : List Expr) (tb ib : Expr) (fb : List Expr) (sc : Scope) (pos : Pos) : Expr := .SetComp el [⟨ta, ia, fa, 0⟩, ⟨tb, ib, fb, 0⟩] sc pos
/-- the tests of a clause -/
abbrev testsOf (fs : List Expr) (env : Env) : Sem Bool := forIn fs true fun c r => if r = true then do let ok ← isTrue c env (eval c env); pure (ForInStep.yield ok) else pure (ForInStep.yield r)
theorem turn2o : compTurn (sc2E el ta ia fa tb ib fb sc pos) 0 it acc env = (do
      standAt ia.pos
      match ← pyNext it with
      | none => pure (.done .next)
      | some v =>
        letOwnedTupleGo ta it v
        assign ta env v
        let ok ← testsOf fa env
        if ok then
          let x ← eval ib env
          standAt ib.pos
          let x ← foldedSetIterable ib env x
          let _ ← runOwn (.compStart (sc2E el ta ia fa tb ib fb sc pos) 1 (← holding [x] (pyIter x)) acc env) env
        again (.compLoop (sc2E el ta ia fa tb ib fb sc pos) 0 it acc env)) := by rfl
theorem turn2i : compTurn (sc2E el ta ia fa tb ib fb sc pos) 1 it acc env = (do
      standAt ib.pos
      match ← pyNext it with
      | none => pure (.done .next)
      | some v =>
        letOwnedTupleGo tb it v
        assign tb env v
        let ok ← testsOf fb env
        if ok then
          (do let v ← eval el env; standAt el.pos; let _ ← call (.builtin "set.add") [acc, v])
        again (.compLoop (sc2E el ta ia fa tb ib fb sc pos) 1 it acc env)) := by rfl
/-- what is noted where it raises -/
abbrev Nt (prog : Program) (w : World) (A : Around) (env : Env) (R : Result → Shared → Prop) : Value → Shared → Prop := notedBy (model prog w) A env fun e s' => R (.error e) s'
theorem loop2o (hs : ∀ x, foldedSetIterable ib env x = pure x) (J : Nat → Shared → Prop)
    (turn : ∀ n s, J n s → wpAny (model prog w) A (pyNext it) (fun r s1 => match r with
      | none => R (.ok .next) s1
      | some v => wpAny (model prog w) A (letOwnedTupleGo ta it v) (fun _ s2 => wpAny (model prog w) A (assign ta env v) (fun _ s3 => wpAny (model prog w) A (testsOf fa env) (fun ok s4 =>
            if ok = true then wpAny (model prog w) A (eval ib env) (fun x s5 => wpAny (model prog w) A (pyIter x) (fun jt s6 =>
              codeAny (model prog w) A (.compStart (sc2E el ta ia fa tb ib fb sc pos) 1 jt acc env) (fun r s' => match r with
                | .ok _ => ∃ m, m < n ∧ J m s'
                | .error _ => False) s6) (Nt prog w A env R) s5) (Nt prog w A env R) s4
            else ∃ m, m < n ∧ J m s4) (Nt prog w A env R) s3) (Nt prog w A env R) s2) (Nt prog w A env R) s1) (Nt prog w A env R) s)
    (n : Nat) (h : J n s) : codeAny (model prog w) A (.compLoop (sc2E el ta ia fa tb ib fb sc pos) 0 it acc env) R s := by
  refine codeAny_loop rfl J (fun n s hJ => ?_) n h
  show wpAny _ A ((compTurn (sc2E el ta ia fa tb ib fb sc pos) 0 it acc env).onRaise (fun x => do noteFrame x env; theTreesLotGoes x)) _ _ s
  refine wpAny_noted ?_
  rw [turn2o]
  refine wpAny_bind (wpAny_standAt (wpAny_bind (wpAny_mono (turn n s hJ) (fun r s1 h1 => ?_) fun _ _ z => z)))
  cases r with
  | none => exact wpAny_pure h1
  | some v =>
    refine wpAny_bind (wpAny_mono h1 (fun _ s2 h2 => wpAny_bind (wpAny_mono h2 (fun _ s3 h3 => wpAny_bind (wpAny_mono h3 (fun ok s4 h4 => ?_) fun _ _ z => z)) fun _ _ z => z)) fun _ _ z => z)
    cases ok with
    | false => exact wpAny_pure ⟨rfl, h4⟩
    | true =>
      refine wpAny_bind (wpAny_mono h4 (fun x s5 h5 => ?_) fun _ _ z => z)
      refine wpAny_bind (wpAny_standAt (wpAny_bind (wpAny_of_eq (hs x) (wpAny_bind (wpAny_holding (wpAny_mono h5 (fun jt s6 h6 => ?_) fun _ _ z => z))))))
      refine wpAny_bind (wpAny_runOwn ?_)
      rw [Around.mark_none]
      refine codeAny_mono h6 fun r s' hr => ?_
      cases r with
      | ok f =>
        first
          | exact wpAny_pure ⟨rfl, hr⟩
          | exact wpAny_bind (wpAny_pure (wpAny_pure ⟨rfl, hr⟩))
      | error e => exact hr.elim
theorem loop2i (J : Nat → Shared → Prop)
    (turn : ∀ n s, J n s → wpAny (model prog w) A (pyNext it) (fun r s1 => match r with
      | none => R (.ok .next) s1
      | some v => wpAny (model prog w) A (letOwnedTupleGo tb it v) (fun _ s2 => wpAny (model prog w) A (assign tb env v) (fun _ s3 => wpAny (model prog w) A (testsOf fb env) (fun ok s4 =>
            if ok = true then wpAny (model prog w) A (eval el env) (fun x s5 => wpAny (model prog w) A (call (.builtin "set.add") [acc, x]) (fun _ s6 => ∃ m, m < n ∧ J m s6) (Nt prog w A env R) s5) (Nt prog w A env R) s4
            else ∃ m, m < n ∧ J m s4) (Nt prog w A env R) s3) (Nt prog w A env R) s2) (Nt prog w A env R) s1) (Nt prog w A env R) s)
    (n : Nat) (h : J n s) : codeAny (model prog w) A (.compLoop (sc2E el ta ia fa tb ib fb sc pos) 1 it acc env) R s := by
  refine codeAny_loop rfl J (fun n s hJ => ?_) n h
  show wpAny _ A ((compTurn (sc2E el ta ia fa tb ib fb sc pos) 1 it acc env).onRaise (fun x => do noteFrame x env; theTreesLotGoes x)) _ _ s
  refine wpAny_noted ?_
  rw [turn2i]
  refine wpAny_bind (wpAny_standAt (wpAny_bind (wpAny_mono (turn n s hJ) (fun r s1 h1 => ?_) fun _ _ z => z)))
  cases r with
  | none => exact wpAny_pure h1
  | some v =>
    refine wpAny_bind (wpAny_mono h1 (fun _ s2 h2 => wpAny_bind (wpAny_mono h2 (fun _ s3 h3 => wpAny_bind (wpAny_mono h3 (fun ok s4 h4 => ?_) fun _ _ z => z)) fun _ _ z => z)) fun _ _ z => z)
    cases ok with
    | false => exact wpAny_pure ⟨rfl, h4⟩
    | true => exact wpAny_bind (wpAny_bind (wpAny_mono h4 (fun x s5 h5 => wpAny_bind (wpAny_standAt (wpAny_bind (wpAny_mono h5 (fun _ s6 h6 => wpAny_pure (wpAny_pure ⟨rfl, h6⟩)) fun _ _ z => z)))) fun _ _ z => z))
theorem start2 {k : Nat} (hk : k = 0 ∨ k = 1) (h0 : codeAny (model prog w) A (.compLoop (sc2E el ta ia fa tb ib fb sc pos) k it acc env) R s)
    (h : wpAny (model prog w) A (pyIter it) (fun jt s' => codeAny (model prog w) A (.compLoop (sc2E el ta ia fa tb ib fb sc pos) k jt acc env) R s') (Nt prog w A env R) s) :
    codeAny (model prog w) A (.compStart (sc2E el ta ia fa tb ib fb sc pos) k it acc env) R s := by
  refine codeAny_of_tree ?_
  show wpAny _ _ ((compStart (sc2E el ta ia fa tb ib fb sc pos) k it acc env).onRaise (fun x => do noteFrame x env; standAt theWindowsPlace)) _ _ s
  refine wpAny_notedAt ?_
  rcases hk with e | e
  all_goals
    subst e
    unfold compStart
    show wpAny _ _ (ask >>= _) _ _ s
    refine wpAny_bind (wpAny_askSetting (wpAny_ite ?_))
    split
    · first
        | exact wpAny_bind (wpAny_pure (wpAny_pure (And.intro rfl h0)))
        | exact wpAny_pure (And.intro rfl h0)
    · refine wpAny_bind (wpAny_rule ?_)
      first
        | (show wpAny _ _ (standAt ia.pos >>= _) _ _ s; exact wpAny_bind (wpAny_standAt (wpAny_bind (wpAny_mono h (fun jt s' h' => wpAny_pure (And.intro rfl h')) fun _ _ z => z))))
        | (show wpAny _ _ (standAt ib.pos >>= _) _ _ s; exact wpAny_bind (wpAny_standAt (wpAny_bind (wpAny_mono h (fun jt s' h' => wpAny_pure (And.intro rfl h')) fun _ _ z => z))))
end
end RL
namespace RL
open PySem PySem.Spec PyProof.Rows L2
section
variable {X : Cx}
theorem newSet_at {prog : Program} {w : World} {A : Around} {E : Value → Shared → Prop} {s : Shared} {Q : Value → Shared → Prop}
    (h : Q (.ref s.heap.objs.size) { s with heap := s.heap.push { cls := .type "set", dict := none, data := .set #[] 0 (.fresh 0 0 (!w.params.followText "set-order")) } }) : wpAny (model prog w) A (newSet (.type "set")) Q E s := PpSet.newSet_ok h
theorem addI {pins : List (Addr × Obj)} {σ : L2.St} {H : Hp} {s : Shared} {E : Value → Shared → Prop} {D : Addr} {S : Int → Bool} {n : Nat} {y : Int} {v : Value} {Q : Value → Shared → Prop} (I : L2.Inv X pins σ H s) (hD : H D = some (SetO X.w D S n)) (room : n + 1 < scanBound) (r : RelV (.int y) v)
    (h : ∀ s', L2.Inv X pins σ (upd H D (SetO X.w D (fun j => S j || decide (j = y)) (if S y = true then n else n + 1))) s' → Q .none s') : wpAny (model X.prog X.w) X.A (call (.builtin "set.add") [.ref D, v]) Q E s := by
  obtain ⟨tk, rfl⟩ := r
  have R := setO_get I hD
  refine setR_add R room fun h1 sb new => ?_
  have ex : ∃ u, h1.get? D = some u := by
    have ⟨o, _, _, _, ho, _⟩ := new
    exact ⟨o, ho⟩
  exact h _ (I.write (e := D) (t' := s.toks + 1) (by rw [hD]; trivial) (.inl rfl) (fun b u hb hu => (sb.2 b hb).trans hu) ex (setO_new new))
/-- the reading: D the new set, its members told by S -/
def tSc2 (w : World) (wa : TI) (ga : TG) (fa : TT) (wb : TI) (gb : TG) (fb : TT) (te : TE) (vs vb : List Nat) : TE := fun σ H Q => wa σ H fun J H1 => ∀ D, H1 D = none → ∃ W : Nat → Nat → Hp → Prop, (∃ m, W 0 m (upd H1 D (SetO w D (fun _ => false) 0))) ∧ ∀ i m H, W i m H →
  (J.stop i H ∧ Q (.ref D) H) ∨ (J.go i H ∧ ∃ Nx : Hp → Prop, (∀ H', Nx H' → ∃ m', m' < m ∧ W (i + 1) m' H') ∧ ∀ x H', J.yld i H x H' → ga x (wipe σ vs) H' fun σ2 H2 => wipe σ2 vs = wipe σ vs ∧ fa σ2 H2 fun b H3 =>
    if b = true then wb σ2 H3 fun J1 H4 => ∃ W1 : Nat → Nat → Hp → Prop, (∃ m, W1 0 m H4) ∧ ∀ j k H, W1 j k H →
      (J1.stop j H ∧ Nx H) ∨ (J1.go j H ∧ ∃ Ny : Hp → Prop, (∀ H', Ny H' → ∃ k', k' < k ∧ W1 (j + 1) k' H') ∧ ∀ x H', J1.yld j H x H' → gb x (wipe σ2 vb) H' fun σ3 H5 => wipe σ3 vb = wipe σ2 vb ∧ fb σ3 H5 fun b H6 =>
        if b = true then te σ3 H6 fun y H7 => ∃ (c : Int) (S : Int → Bool) (n : Nat), y = .int c ∧ H7 D = some (SetO w D S n) ∧ n + 1 < scanBound ∧ Ny (upd H7 D (SetO w D (fun j => S j || decide (j = c)) (if S c = true then n else n + 1))) else Ny H6)
    else Nx H3)
theorem pe_sc2 {el ta ia tb ib : Expr} {ea eb : List Expr} {sc : Scope} {own : List (Str × Nat)} {vs1 : List Nat} {pos : Pos} {wa wb : TI} {ga gb : TG} {fa fb : TT} {te : TE} (hc : X.calm = true) (hN : X.N.Nodup) (hi : PI X ta ia wa) (ok : BlkOk X.N X.env.scope sc own) (hv : ∀ i ∈ vs1, i ∈ own.map (·.2))
    (hg : ∀ (s : Shared) (H : Hp) (C : Addr) (cl : List (Str × Addr)) (fp : List Addr), PG (X.blk s H sc (compEnvC sc cl C X.env) fp) ta ga) (ht : ∀ (s : Shared) (H : Hp) (C : Addr) (cl : List (Str × Addr)) (fp : List Addr), PTs (X.blk s H sc (compEnvC sc cl C X.env) fp) ea fa)
    (hi1 : ∀ (s : Shared) (H : Hp) (C : Addr) (cl : List (Str × Addr)) (fp : List Addr), PI (X.blk s H sc (compEnvC sc cl C X.env) fp) tb ib wb)
    (hg1 : ∀ (s : Shared) (H : Hp) (C : Addr) (cl : List (Str × Addr)) (fp : List Addr), PG (X.blk s H sc (compEnvC sc cl C X.env) fp) tb gb) (ht1 : ∀ (s : Shared) (H : Hp) (C : Addr) (cl : List (Str × Addr)) (fp : List Addr), PTs (X.blk s H sc (compEnvC sc cl C X.env) fp) eb fb)
    (he : ∀ (s : Shared) (H : Hp) (C : Addr) (cl : List (Str × Addr)) (fp : List Addr), PE (X.blk s H sc (compEnvC sc cl C X.env) fp) el te) (hs : ∀ x, foldedSetIterable ia X.env x = pure x := by intro _; rfl) (hs1 : ∀ env x, foldedSetIterable ib env x = pure x := by intro _ _; rfl) :
    PE X (sc2E el ta ia ea tb ib eb sc pos) (tSc2 X.w wa ga fa wb gb fb te (own.map (·.2)) vs1) := by
  refine ⟨fun pins s σ H Q I h => ?_⟩
  rw [PpSet.eval_SetComp]
  have cells : ∀ y ∈ sc.names, y.2 = .free → ∃ c, X.env.cells.lookup y.1 = some c := fun y hy e => (ok.free y hy e).elim (fun k => I.ok.has _ (.inl k)) fun k => I.ok.has _ (.inr k)
  refine wpAny_comprehension_free (use := none) rfl hs (closure_ok cells) ok.kind (fun y hy e => by rw [ok.uniq y hy, e]) (thn (hi.run pins s σ H _ I h) fun xv s1 hx => thn hx fun itv s2 h2 => ?_)
  obtain ⟨it, fp, tn, J, H2, e, I2, T, st2, f2, q⟩ := h2
  subst e
  refine newSet_at (newEnv_comp ?_)
  generalize hD : s2.heap.objs.size = D
  obtain ⟨W, ⟨m0, w0⟩, turn⟩ := q D (I2.hok.fresh (Nat.le_of_eq hD))
  generalize ho : ({ cls := .type "set", dict := none, data := .set #[] 0 (.fresh 0 0 (!X.w.params.followText "set-order")) } : Obj) = oS
  generalize hs3 : ({ s2 with heap := s2.heap.push oS } : Shared) = s3
  have hp3 : s3.heap = s2.heap.push oS := by rw [← hs3]
  have I3 : L2.Inv X pins σ (upd H2 D (SetO X.w D (fun _ => false) 0)) s3 := by
    rw [← hs3]
    refine I2.laid (t' := s2.toks) (fun b o e => Heap.get?_push_of_some _ e) (Nat.le_of_eq hD) ?_
    have g : (s2.heap.push oS).get? D = some oS := by
      rw [← hD]
      exact Heap.get?_push_size _ (by rw [← ho]; rfl)
    rw [← ho] at g ⊢
    exact setO_new (by simpa using setR_new_at (ns := []) g)
  have small : ∀ b ∈ fp, b < s2.heap.objs.size := fun b hb => (T.obj _ _ st2 b hb).elim fun o e => Heap.lt_size e.1
  have f3 : ∀ b ∈ fp, FpOk X pins (upd H2 D (SetO X.w D (fun _ => false) 0)) b ∧ b < s3.heap.objs.size := fun b hb => by
    refine ⟨⟨?_, (f2 b hb).2⟩, by rw [hp3, Heap.size_push]; exact Nat.lt_succ_of_lt (small b hb)⟩
    rw [upd_ne (by rw [← hD]; exact Nat.ne_of_lt (small b hb))]
    exact (f2 b hb).1
  have st3 : tn 0 s3.heap := T.keep _ _ _ st2 fun b _ o e => by rw [hp3]; exact Heap.get?_push_of_some _ e
  have I4 := block_start I3 ok hN f3
  generalize hcs : cellsFrom (s3.heap.objs.size + 1) sc.names (cloFrom X.env.cells sc.names []) = cs at I4
  have pg := hg s3 (upd H2 D (SetO X.w D (fun _ => false) 0)) s3.heap.objs.size cs fp
  have pt := ht s3 (upd H2 D (SetO X.w D (fun _ => false) 0)) s3.heap.objs.size cs fp
  have pe := he s3 (upd H2 D (SetO X.w D (fun _ => false) 0)) s3.heap.objs.size cs fp
  have qi := hi1 s3 (upd H2 D (SetO X.w D (fun _ => false) 0)) s3.heap.objs.size cs fp
  have qg := hg1 s3 (upd H2 D (SetO X.w D (fun _ => false) 0)) s3.heap.objs.size cs fp
  have qt := ht1 s3 (upd H2 D (SetO X.w D (fun _ => false) 0)) s3.heap.objs.size cs fp
  show codeAny _ _ (.compStart (sc2E el ta ia ea tb ib eb sc pos) 0 (.ref it) (.ref D) (compEnvC sc cs s3.heap.objs.size X.env)) (compPost (model X.prog X.w) X.A X.xe none (EP X pins σ Q) (.ref D) s3.heap.objs.size) { s3 with heap := pushCells (s3.heap.push { cls := .type "dict", data := .dict #[] }) sc.names }
  have nfp : ∀ b ∈ fp, (upd H2 D (SetO X.w D (fun _ => false) 0)) b = none := fun b hb => (f3 b hb).1.1
  generalize hce : compEnvC sc cs s3.heap.objs.size X.env = ce at I4 pg pt pe qi qg qt ⊢
  have cL : ce.locals = s3.heap.objs.size := by subst hce; rfl
  generalize hH3 : upd H2 D (SetO X.w D (fun _ => false) 0) = H3 at I3 I4 pg pt pe qi qg qt w0 nfp f3
  generalize hs4 : ({ s3 with heap := pushCells (s3.heap.push { cls := .type "dict", data := .dict #[] }) sc.names } : Shared) = s4 at I4 ⊢
  have st4 : tn 0 s4.heap := T.keep _ _ _ st3 fun b _ o e => by rw [← hs4]; exact pushCells_keeps _ _ _ _ (Heap.get?_push_of_some _ e)
  generalize hv0 : wipe σ (own.map (·.2)) = σ0 at I4 turn
  have len0 : σ0.length = σ.length := by rw [← hv0, wipe_length]
  have stat : ∀ {τ : L2.St} {H' : Hp} {s' : Shared}, L2.Inv (X.blk s3 H3 sc ce fp) [] τ H' s' → (∀ b ∈ fp, H' b = none) → ∀ b ∈ fp, FpOk (X.blk s3 H3 sc ce fp) [] H' b := fun {τ H' s'} I' hn b hb =>
    ⟨hn b hb, (I'.ok.exf b hb).1, I'.ok.exfs b hb, .inl hb, fun x c e => (I'.ok.exf b hb).2 x c e, fun p hp => absurd (show p ∈ ([] : List (Addr × Obj)) ++ [] from hp) (by simp)⟩
  -- between the turns of the first clause
  let Jo : Nat → Shared → Prop := fun n s' => ∃ i H', L2.Inv (X.blk s3 H3 sc ce fp) [] σ0 H' s' ∧ tn i s'.heap ∧ (∀ b ∈ fp, H' b = none) ∧ W i n H'
  have main : codeAny (model X.prog X.w) X.A (.compLoop (sc2E el ta ia ea tb ib eb sc pos) 0 (.ref it) (.ref D) ce) (compPost (model X.prog X.w) X.A X.xe none (EP X pins σ Q) (.ref D) s3.heap.objs.size) s4 := by
    refine loop2o (hs1 ce) Jo ?_ m0 ⟨0, H3, I4, st4, nfp, w0⟩
    rintro n s5 ⟨i, H5, I5, st5, n5, w5⟩
    rcases turn i n H5 w5 with ⟨stop, qq⟩ | ⟨go, Nx, hNx, step⟩
    · refine thnF (T.done (X.blk s3 H3 sc ce fp) rfl rfl rfl hc i [] s5 _ H5 (fun _ _ => False) I5 (stat I5 n5) st5 stop) fun r s6 ⟨hr, I6⟩ => ?_
      subst hr
      have I7 : L2.Inv X pins σ H5 s6 := I3.call' (ch := fp) I6.os I6.base I6.hok I6.bare fun b hb => ⟨(f3 b hb).1.2.2.2.1, (f3 b hb).1.2.1, (f3 b hb).1.2.2.2.2.1, (f3 b hb).1.2.2.2.2.2⟩
      have nC : H5 s3.heap.objs.size = none := by
        rw [← cL]
        exact I6.free
      obtain ⟨m, hn, _⟩ := I6.loc
      have hn : s6.heap.Ns ce.locals m := hn
      rw [cL] at hn
      refine ⟨m, hn, fun h'' sb => ?_⟩
      obtain ⟨g0, g1, g2, g3, g4, g5⟩ := I3.fpOk (Nat.le_refl _) nC
      exact ⟨.ref D, H5, I7.turned (t' := s6.toks) (fun b o hb e => (sb.2 b hb).trans e) g0 g1 g3 g4 g5, rfl, qq⟩
    · refine thnF (T.item (X.blk s3 H3 sc ce fp) rfl rfl rfl hc i [] s5 _ H5 (fun _ _ => False) I5 (stat I5 n5) st5 go) fun r s6 ⟨u, hr, h6⟩ => ?_
      subst hr
      refine thnF h6 fun _ s7 ⟨x, H7, I7, r7, y7, st7, n7⟩ => ?_
      have I7p := I7.pinned (stat I7 n7) (T.obj _ _ st7)
      refine thnF (pg.run _ s7 _ H7 x u _ I7p r7 (step x H7 y7)) fun _ s8 ⟨σ8, H8, I8, hw8, q8⟩ => ?_
      refine thnF (pt.run _ s8 σ8 H8 _ I8 q8) fun b s9 ⟨H9, I9, q9⟩ => ?_
      have back : ∀ {τ : L2.St} {s' : Shared} {H' : Hp}, L2.Inv (X.blk s3 H3 sc ce fp) ([] ++ pinsAt fp s7.heap) τ H' s' → σ0.length = τ.length → (∀ (j : Nat) v, σ0[j]? = some (some v) → τ[j]? = some (some v)) → Nx H' → ∃ m, m < n ∧ Jo m s' := fun {τ s' H'} I' hl hk nx => by
        obtain ⟨m1, hm, w1⟩ := hNx H' nx
        have pin : ∀ b ∈ fp, ∀ o, s7.heap.get? b = some o → s'.heap.get? b = some o ∧ H' b = none := fun b hb o e =>
          let z := I'.pin (b, o) (List.mem_append_right _ (List.mem_append_right _ (mem_pinsAt hb e)))
          ⟨z.1, z.2.1⟩
        refine ⟨m1, hm, i + 1, H', (I'.unpinned (pins := [])).weak hl hk, T.keep _ _ _ st7 fun b hb o e => (pin b hb o e).1, fun b hb => ?_, w1⟩
        obtain ⟨o, e, _⟩ := T.obj _ _ st7 b hb
        exact (pin b hb o e).2
      have l8 : σ0.length = σ8.length := by rw [← hw8, wipe_length]
      have k8 : ∀ (j : Nat) v, σ0[j]? = some (some v) → σ8[j]? = some (some v) ∧ (wipe σ8 vs1)[j]? = some (some v) := fun j v e => by
        rw [← hw8] at e
        obtain ⟨e1, e2⟩ := wipe_some e
        refine ⟨e1, ?_⟩
        rw [wipe_out fun z => e2 (hv j z)]
        exact e1
      cases b with
      | false =>
        simp only [Bool.false_eq_true, if_false] at q9 ⊢
        exact back I9 l8 (fun j v e => (k8 j v e).1) q9
      | true =>
        simp only [if_true] at q9 ⊢
        refine thnF (qi.run _ s9 σ8 H9 _ I9 q9) fun xv s10 hx => thnF hx fun itv s11 h11 => ?_
        obtain ⟨jt, fq, tq, J1, H11, e1, I11, T1, st11, f11, W1, ⟨m1, w1⟩, turn1⟩ := h11
        subst e1
        have stat1 : ∀ {H' : Hp}, (∀ b ∈ fq, H' b = none) → ∀ b ∈ fq, FpOk (X.blk s3 H3 sc ce fp) ([] ++ pinsAt fp s7.heap) H' b := fun hn b hb => ⟨hn b hb, (f11 b hb).2⟩
        let Ji : Nat → Shared → Prop := fun k s' => ∃ j H', L2.Inv (X.blk s3 H3 sc ce fp) ([] ++ pinsAt fp s7.heap) (wipe σ8 vs1) H' s' ∧ tq j s'.heap ∧ (∀ b ∈ fq, H' b = none) ∧ W1 j k H'
        have inner : codeAny (model X.prog X.w) X.A (.compLoop (sc2E el ta ia ea tb ib eb sc pos) 1 (.ref jt) (.ref D) ce) (fun r s' => match r with
              | .ok _ => ∃ m, m < n ∧ Jo m s'
              | .error _ => False) s11 := by
          refine loop2i Ji ?_ m1 ⟨0, H11, I11.weak (wipe_length _ _) (fun j v e => (wipe_some e).1), st11, fun b hb => (f11 b hb).1, w1⟩
          rintro k s12 ⟨j, H12, I12, st12, n12, w12⟩
          rcases turn1 j k H12 w12 with ⟨stop1, nx1⟩ | ⟨go1, Ny, hNy, step1⟩
          · refine thnF (T1.done (X.blk s3 H3 sc ce fp) rfl rfl rfl hc j _ s12 (wipe σ8 vs1) H12 (fun _ _ => False) I12 (stat1 n12) st12 stop1) fun r s13 ⟨hr, I13⟩ => ?_
            subst hr
            exact back I13 (l8.trans (wipe_length σ8 vs1).symm) (fun j v e => (k8 j v e).2) nx1
          · refine thnF (T1.item (X.blk s3 H3 sc ce fp) rfl rfl rfl hc j _ s12 (wipe σ8 vs1) H12 (fun _ _ => False) I12 (stat1 n12) st12 go1) fun r s13 ⟨u1, hr, h13⟩ => ?_
            subst hr
            refine thnF h13 fun _ s14 ⟨x1, H14, I14, r14, y14, st14, n14⟩ => ?_
            have I14p := I14.pinned (stat1 n14) (T1.obj _ _ st14)
            refine thnF (qg.run _ s14 (wipe σ8 vs1) H14 x1 u1 _ I14p r14 (step1 x1 H14 y14)) fun _ s15 ⟨σ15, H15, I15, hw15, q15⟩ => ?_
            refine thnF (qt.run _ s15 σ15 H15 _ I15 q15) fun b1 s16 ⟨H16, I16, q16⟩ => ?_
            have back1 : ∀ {s' : Shared} {H' : Hp}, L2.Inv (X.blk s3 H3 sc ce fp) (([] ++ pinsAt fp s7.heap) ++ pinsAt fq s14.heap) σ15 H' s' → Ny H' → ∃ m, m < k ∧ Ji m s' := fun {s' H'} I' nx => by
              obtain ⟨m2, hm, w2⟩ := hNy H' nx
              have pin : ∀ b ∈ fq, ∀ o, s14.heap.get? b = some o → s'.heap.get? b = some o ∧ H' b = none := fun b hb o e =>
                let z := I'.pin (b, o) (List.mem_append_right _ (List.mem_append_right _ (mem_pinsAt hb e)))
                ⟨z.1, z.2.1⟩
              refine ⟨m2, hm, j + 1, H', I'.unpinned.weak (by rw [← hw15, wipe_length]) (fun j v e => by rw [← hw15] at e; exact (wipe_some e).1), T1.keep _ _ _ st14 fun b hb o e => (pin b hb o e).1, fun b hb => ?_, w2⟩
              obtain ⟨o, e, _⟩ := T1.obj _ _ st14 b hb
              exact (pin b hb o e).2
            cases b1 with
            | false =>
              simp only [Bool.false_eq_true, if_false] at q16 ⊢
              exact back1 I16 q16
            | true =>
              simp only [if_true] at q16 ⊢
              refine thnF (pe.run _ s16 σ15 H16 _ I16 q16) fun z s17 ⟨yv, H17, I17, r17, c, S, nn, ey, hD17, hz17, nx⟩ => ?_
              subst ey
              exact addI (X := X.blk s3 H3 sc ce fp) I17 hD17 hz17 r17 fun s18 I18 => back1 I18 nx
        exact start2 (.inr rfl) inner (T1.self X.A 0 _ _ _ st11 inner)
  exact start2 (.inl rfl) main (T.self X.A 0 _ _ _ st4 main)
end
end RL
/-! The same rules with the written part by its name, for use within a comprehension. -/
namespace RL
open PySem PySem.Spec PyProof.Rows L2
section
variable {X : Cx} {K : PySem.W.Frag}
theorem ixL (h : X.K = K := by rfl) : IxR X (rIxL K) := h ▸ ix_list
theorem ixS (h : X.K = K := by rfl) : IxR X (rIx K) := h ▸ ix_seq
theorem ixT (h : X.K = K := by rfl) : IxR X (rIxT K) := h ▸ ix_tup
theorem inSq (h : X.K = K := by rfl) : OpR X (compareOp .In) (rIn K false) := h ▸ op_in_seq
theorem neD (hu : X.A.units + 64 < cLine) (h : X.K = K := by rfl) : OpR X (compareOp .NotEq) (rNeD K) := h ▸ op_neD hu
theorem eqD (hu : X.A.units + 64 < cLine) (h : X.K = K := by rfl) : OpR X (compareOp .Eq) (rEqD K) := h ▸ op_eqD hu
def rLenK (K : PySem.W.Frag) : List V → Hp → VK → Prop := fun xs H Q => ∃ p ys, xs = [.ref p] ∧ (SqL K H p ys ∨ SqT K H p ys) ∧ Q (.int ys.length) H
theorem lenK (h : X.K = K := by rfl) : CallR X (.builtin "len") (rLenK K) := h ▸ call_len_seq
def rListK (K : PySem.W.Frag) : List V → Hp → VK → Prop := fun xs H Q => ∃ p ys, xs = [.ref p] ∧ (SqL K H p ys ∨ SqT K H p ys) ∧ ∀ l, H l = none → Q (.ref l) (upd H l (.lst ys))
theorem listK (h : X.K = K := by rfl) : CallR X (.type "list") (rListK K) := h ▸ call_list_of
def rTupK (K : PySem.W.Frag) : List V → Hp → VK → Prop := fun xs H Q => ∃ p ys, xs = [.ref p] ∧ ((SqL K H p ys ∧ ∀ l, H l = none → Q (.ref l) (upd H l (.tup ys))) ∨ (SqT K H p ys ∧ Q (.ref p) H))
theorem tupK (h : X.K = K := by rfl) : CallR X (.type "tuple") (rTupK K) := h ▸ call_tuple_of
theorem isiK (h : X.K = K := by rfl) : CallR X (.builtin "isinstance") (rIsi K) := h ▸ call_isi
theorem anyK (hc : X.calm = true := by rfl) (h : X.K = K := by rfl) : CallR X (.builtin "any") (rAny K) := h ▸ cr_any hc
theorem allK (hc : X.calm = true := by rfl) (h : X.K = K := by rfl) : CallR X (.builtin "all") (rAll K) := h ▸ cr_all hc
theorem slL (h : X.K = K := by rfl) : SlR X (rSlL K) := h ▸ sl_list
theorem sortTK (h : X.K = K := by rfl) : CallR X (.builtin "sorted") (rSortT K) := h ▸ cr_sortTup
theorem sortLK (h : X.K = K := by rfl) : CallR X (.builtin "sorted") (rSorted K) := h ▸ cr_sorted
theorem setTK {w : World} (hc : X.calm = true := by rfl) (hw : X.w = w := by rfl) (h : X.K = K := by rfl) : CallR X (.type "set") (rSetT w K) := hw ▸ h ▸ cr_setT hc
theorem sortS {w : World} (hc : X.calm = true := by rfl) (hw : X.w = w := by rfl) : CallR X (.builtin "sorted") (rSortedSet w) := hw ▸ cr_sortedSet hc
theorem tupIxK (h : X.K = K := by rfl) : MtR X "tuple.index" (rTupIx K) := h ▸ mt_tupIx
theorem repTK (h : X.K = K := by rfl) : OpR X (binaryOp .Mult) (rRepT1 K) := h ▸ op_repT1
theorem fldK {e : Expr} {ta : TE} {f : Str} {pos : Pos} (he : PE X e ta) (hb : attributeBase e f X.env (eval e X.env) = eval e X.env) (h : X.K = K := by rfl) : PE X (.Attribute e f pos) (tFld K ta f) := h ▸ pe_fld he hb
theorem piEnum {e : Expr} {ta : TA} {p pos tpos : Pos} {elts : List Expr} {kk : Nat} (hg : Gl X "enumerate") (hm : X.mg "enumerate" = none) (ha : PA X [e] ta) (hs : starEach [e] X.env = [(false, eval e X.env)] := by rfl) (h : X.K = K := by rfl) :
    PI X (.Tuple elts kk tpos) (.Call (.Name "enumerate" p) [e] [] pos) (iEnum K ta) := h ▸ pi_enum hg hm ha hs
theorem piEnumT {e : Expr} {ta : TA} {p pos tpos : Pos} {elts : List Expr} {kk : Nat} (hg : Gl X "enumerate") (hm : X.mg "enumerate" = none) (ha : PA X [e] ta) (hs : starEach [e] X.env = [(false, eval e X.env)] := by rfl) (h : X.K = K := by rfl) :
    PI X (.Tuple elts kk tpos) (.Call (.Name "enumerate" p) [e] [] pos) (iEnumT K ta) := h ▸ pi_enumT hg hm ha hs
theorem piL {tg l : Expr} {tl : TE} (hl : PE X l tl) (h : X.K = K := by rfl) : PI X tg l (iList K tl) := h ▸ pi_list hl
theorem piT {tg l : Expr} {tl : TE} (hl : PE X l tl) (h : X.K = K := by rfl) : PI X tg l (iTup K tl) := h ▸ pi_tup hl
theorem pgT {es : List Expr} {k : Nat} {t : TGs} {n : Nat} {pos : Pos} (hc : X.calm = true) (ht : PGs X es t) (hn : (assignEach es X.env).length = n := by rfl) (hst : (assignEach es X.env).findIdx? (·.1) = none := by rfl) (h : X.K = K := by rfl) : PG X (.Tuple es k pos) (gTup K n t) := h ▸ pg_tup hc ht hn hst
theorem bmK {T id : String} {name : Str} {r : V → List V → Hp → VK → Prop} {o e : Expr} {es : List Expr} {to : TE} {t : TA} {apos cpos : Pos} (pa : PlainAttrs T) (slot : Slot T name id) (hty : typeOf (.builtin id) = pure (.type "method_descriptor")) (hm : MtR X id r) (ho : PE X o to) (ha : PA X (e :: es) t)
    (hbase : attributeBase o name X.env (eval o X.env) = eval o X.env := by rfl)
    (hfew : ((backTo cpos (starEach (e :: es) X.env)).all (fun x => !x.1) && (backToKw cpos (keywordEach [] X.env)).all (fun x => x.1.isSome) && decide ((e :: es).length + ([] : List Keyword).length + (if ([] : List Keyword).isEmpty then 0 else 1) < 30)) = true := by rfl)
    (hline : (apos.endLine == cpos.line) = true := by rfl) (hs : starEach (e :: es) X.env = (false, eval e X.env) :: starEach es X.env := by rfl) (hplain : (backTo cpos (starEach es X.env)).any (·.1) = false := by rfl) (h : X.K = K := by rfl) :
    PE X (.Call (.Attribute o name apos) (e :: es) [] cpos) (tBM K T r to t) := h ▸ pe_bm pa slot hty hm ho ha hbase hfew hline hs hplain
end
end RL
/-! Sets of tuples of ints: set(), add, in. -/
namespace RL
open PySem PySem.Spec PyProof.Rows L2
section
variable {P : Program} {w : World} {A : Around} {E : Value → Shared → Prop} {s : Shared} {a : Addr} {L : List (Addr × List Int)} {es : Array (Int × Value)} {ep : Nat} {t : SetTable}
/-- the probe's stand at its c-th step -/
abbrev stAt (P : Program) (w : World) (t : SetTable) (k : List Int) (c : Nat) : SetTable.Probe := nth t.mask (runAt t.mask (SetTable.bits (thash P w k) % (t.mask + 1)) (SetTable.bits (thash P w k))) c
theorem stAt_dummy (k : List Int) (c : Nat) : (stAt P w t k c).dummy = none := by
  have key : ∀ (n : Nat) (p : SetTable.Probe), p.dummy = none → (nth t.mask p n).dummy = none := by
    intro n
    induction n with
    | zero => exact fun _ z => z
    | succ n ih =>
      intro p z
      refine ih (adv t.mask p) ?_
      unfold adv
      split <;> exact z
  exact key c _ rfl
theorem find_from (R : SetTR P w s.heap a L es ep t) {x : Addr} {k : List Int} (hx : IsT P w s.heap k x) (hu : A.units < cLine) {M : Nat} (hMf : M < 10 * SetTable.turns t.mask)
    (hM : way t.mask (thash P w k) M ∉ t.place.toList) (hMb : ∀ c, c < M → way t.mask (thash P w k) c ∈ t.place.toList) {Q : SetFound → Shared → Prop}
    (yes : ∀ i, k ∈ L.map (·.2) → Q (.there (some i)) s) (no : k ∉ L.map (·.2) → Q (.free (way t.mask (thash P w k) M) false) s) :
    ∀ (f c : Nat) (st : Option SetTable.Probe), st.getD (t.probeStart (thash P w k)) = stAt P w t k c → c ≤ M → M - c < f →
      (∀ (i : Nat) p, L[i]? = some p → p.2 = k → ∃ d, c ≤ d ∧ d < M ∧ t.place.toList[i]? = some (way t.mask (thash P w k) d)) →
      wpAny (model P w) A (setSearchFrom a (.ref x) (thash P w k) false f st) Q E s
  | 0, c, st, _, _, hf, _ => absurd hf (Nat.not_lt_zero _)
  | f + 1, c, st, hst, hcM, hf, ahead => by
    obtain ⟨o, ho, hex, hd⟩ := R.ob
    rw [setSearchFrom_succ]
    refine wpAny_bind (wpAny_setState_of ho hd R.fits ?_)
    dsimp only
    refine wp_if_neg R.gw ?_
    try refine wpAny_bind (wpAny_pure ?_)
    have sh : ∀ q, nth t.mask (stAt P w t k c) q = stAt P w t k (c + q) := fun q => (nth_add t.mask c _ q).symm
    have jj : ∀ q, (nth t.mask (stAt P w t k c) q).j = way t.mask (thash P w k) (c + q) := fun q => congrArg SetTable.Probe.j (sh q)
    have cM : c + (M - c) = M := by omega
    have spec := go_spec t R.tab.ris R.tab.dm (fun i => (es[i]?.map (·.1)).getD 0) (thash P w k) (10 * SetTable.turns t.mask) (M - c) _ (stAt_dummy k c) (by omega)
      (fun q hq => by rw [jj]; exact hMb (c + q) (by omega)) (by rw [jj, cM]; exact hM)
    have hashAt : ∀ (i : Nat) p, L[i]? = some p → (fun i => (es[i]?.map (·.1)).getD 0) i = thash P w p.2 := fun i p hp => by
      show (es[i]?.map (·.1)).getD 0 = _
      rw [R.entry hp]
      rfl
    rcases spec with ⟨q, i, hq, hi, hh, free, pr⟩ | ⟨free, pr⟩
    · have pr1 : t.probe (fun i => (es[i]?.map (·.1)).getD 0) (thash P w k) (st.getD (t.probeStart (thash P w k))) = some (.candidate (way t.mask (thash P w k) (c + q)) i (stAt P w t k (c + (q + 1)))) := by
        rw [hst, ← jj, ← sh]
        exact pr
      rw [pr1]
      dsimp only
      rw [jj] at hi
      have il : i < L.length := by
        have l1 : i < t.place.toList.length := (List.getElem?_eq_some_iff.mp hi).1
        have l2 := R.tab.sz
        rw [List.length_map] at l2
        rw [Array.length_toList] at l1
        omega
      obtain ⟨p, hp⟩ : ∃ p, L[i]? = some p := ⟨_, List.getElem?_eq_getElem il⟩
      have mp : p ∈ L := List.mem_of_getElem? hp
      have live : t.slot (way t.mask (thash P w k) (c + q)) = .live i := slot_live R.tab.ris hi
      have rest : wpAny (model P w) A (searchRest a (.ref x) (thash P w k) false f es t (way t.mask (thash P w k) (c + q)) i (stAt P w t k (c + (q + 1)))) Q E s := by
        unfold searchRest
        rw [R.entry hp]
        dsimp only
        refine wpAny_bind (wpAny_holding (wpAny_eqBool_tuple hu (R.tup p mp) hx ?_))
        refine wpAny_bind (wpAny_setState_of ho hd R.fits ?_)
        dsimp only
        refine wp_if_neg (by simp) ?_
        try refine wpAny_bind (wpAny_pure ?_)
        rw [sameMem]
        dsimp only
        simp only [if_true, live, R.entry hp]
        refine wpAny_bind (wpAny_isSame_ref_self (wpAny_bind (wpAny_pure ?_)))
        simp only [if_true]
        by_cases e : p.2 = k
        · refine wp_if_pos (by simp [e]) ?_
          exact wpAny_pure (yes i (List.mem_map.mpr ⟨p, mp, e⟩))
        · refine wp_if_neg (by simp [e]) ?_
          refine find_from R hx hu hMf hM hMb yes no f (c + (q + 1)) _ rfl (by omega) (by omega) fun i0 p0 h0 k0 => ?_
          obtain ⟨d, d1, d2, d3⟩ := ahead i0 p0 h0 k0
          refine ⟨d, ?_, d2, d3⟩
          have ne : d ≠ c + q := fun z => by
            rw [z] at d3
            have l0 := slot_live R.tab.ris d3
            rw [live] at l0
            injection l0 with l0
            rw [← l0, hp] at h0
            exact e ((congrArg Prod.snd (Option.some.inj h0)).trans k0)
          have ge : ¬ d < c + q := fun z => by
            refine free (d - c) i0 (by omega) (by rw [jj, show c + (d - c) = d by omega]; exact d3) ?_
            exact (hashAt i0 p0 h0).trans (congrArg (thash P w) k0)
          omega
      by_cases led : t.led = true
      · refine wp_if_neg (by simp [led]) ?_
        try refine wpAny_bind (wpAny_pure ?_)
        exact rest
      · refine wp_if_pos (by simp [led]) ?_
        refine wpAny_bind (seen_tup hx (fun y hy => ?_) ?_)
        · obtain ⟨e, he, ee⟩ := List.mem_map.mp hy
          have e1 : e ∈ es ∧ e.1 = thash P w k := by simpa using he
          have e2 : e ∈ es.toList := by simpa using e1.1
          rw [R.rows] at e2
          obtain ⟨p2, hp2, e3⟩ := List.mem_map.mp e2
          exact ⟨p2.2, p2.1, by rw [← ee, ← e3], R.tup p2 hp2⟩
        · refine wp_if_neg (by decide) ?_
          try refine wpAny_bind (wpAny_pure ?_)
          exact rest
    · have pr1 : t.probe (fun i => (es[i]?.map (·.1)).getD 0) (thash P w k) (st.getD (t.probeStart (thash P w k))) = some (.empty (way t.mask (thash P w k) M) none) := by
        have e2 : way t.mask (thash P w k) M = (nth t.mask (stAt P w t k c) (M - c)).j := by rw [jj, cM]
        rw [hst, e2]
        exact pr
      rw [pr1]
      dsimp only
      refine wpAny_pure (no fun hm => ?_)
      obtain ⟨p0, h0, k0⟩ := List.mem_map.mp hm
      obtain ⟨i0, hi0, e0⟩ := List.getElem_of_mem h0
      have h00 : L[i0]? = some p0 := by rw [List.getElem?_eq_getElem hi0, e0]
      obtain ⟨d, d1, d2, d3⟩ := ahead i0 p0 h00 k0
      refine free (d - c) i0 (by omega) (by rw [jj, show c + (d - c) = d by omega]; exact d3) ?_
      exact (hashAt i0 p0 h00).trans (congrArg (thash P w) k0)
theorem find_at (R : SetTR P w s.heap a L es ep t) {x : Addr} {k : List Int} (hx : IsT P w s.heap k x) (hu : A.units < cLine) {Q : Option Nat → Shared → Prop} (h : ∀ r : Option Nat, r.isSome = decide (k ∈ L.map (·.2)) → Q r s) :
    wpAny (model P w) A (setFind a (.ref x) (thash P w k)) Q E s := by
  have room := R.room
  obtain ⟨M, hMf, hM, hMb⟩ := R.tab.first (by rw [List.length_map]; omega) (thash P w k)
  have big : M < 100000 := by
    have : 10 * SetTable.turns t.mask ≤ 1420 := by
      unfold SetTable.turns
      rcases R.tab.mok with e | e | e <;> omega
    omega
  obtain ⟨o, ho, hex, hd⟩ := R.ob
  unfold setFind setFindIn
  refine wpAny_bind (wpAny_setState_of ho hd R.fits ?_)
  dsimp only
  have bs : byScan (.ref x) es = false := by rfl
  rw [bs]
  simp only [Bool.false_eq_true, if_false]
  unfold setSearch
  refine wpAny_bind (find_from R hx hu hMf hM hMb (fun i hm => wpAny_pure (h _ (by simp [hm]))) (fun hm => wpAny_pure (h _ (by simp [hm]))) 100000 0 none rfl (Nat.zero_le _) (by omega) fun i p hp hk => ?_)
  have hi : (L.map fun p => thash P w p.2)[i]? = some (thash P w k) := by
    rw [List.getElem?_map, hp, ← hk]
    rfl
  have il : i < t.place.toList.length := by
    have h1 : i < L.length := (List.getElem?_eq_some_iff.mp hp).1
    have h2 := R.tab.sz
    rw [List.length_map] at h2
    rw [Array.length_toList]
    omega
  have hj := List.getElem?_eq_getElem il
  obtain ⟨c, hc, e⟩ := R.tab.before hM hi hj
  exact ⟨c, Nat.zero_le _, hc, by rw [hj, e]⟩
end
section
variable {X : Cx} {K : PySem.W.Frag} {P : Program} {w : World}
/-- the set's tuples stand -/
def TupsAt (K : PySem.W.Frag) (H : Hp) (L : List (Addr × List Int)) : Prop := ∀ p ∈ L, SqT K H p.1 (p.2.map V.int)
theorem setTR_of {pins : List (Addr × Obj)} {σ : L2.St} {H : Hp} {s : Shared} {a : Addr} {L : List (Addr × List Int)} (I : L2.Inv X pins σ H s) (ha : H a = some (SetTO X.prog X.w a L)) (ht : TupsAt X.K H L) : ∃ es ep t, SetTR X.prog X.w s.heap a L es ep t :=
  SetT0.full (I.hok a _ ha).1 fun p hp => I.isT (ht p hp)
/-- set() that is to hold tuples -/
def rSet0T (P : Program) (w : World) : List V → Hp → VK → Prop := fun xs H Q => xs = [] ∧ ∀ p, H p = none → Q (.ref p) (upd H p (SetTO P w p []))
theorem set0T (hP : X.prog = P := by rfl) (hw : X.w = w := by rfl) : CallR X (.type "set") (rSet0T P w) := by
  subst hP hw
  intro pins s σ H xs us Q I r h
  obtain ⟨rfl, q⟩ := h
  cases r
  refine setR_new fun _ => ?_
  exact ⟨.ref _, _, I.laid (t' := s.toks) (fun b u e => Heap.get?_push_of_some _ e) (Nat.le_refl _) (setTO_new (setTR_fresh (Heap.get?_push_size _ rfl)).t0), rfl, q _ (I.hok.fresh (Nat.le_refl _))⟩
/-- t in seen -/
def rInT (K : PySem.W.Frag) (P : Program) (w : World) : R2 := fun x y H Q => ∃ (b a : Addr) (k : List Int) (L : List (Addr × List Int)), x = .ref b ∧ y = .ref a ∧ SqT K H b (k.map V.int) ∧ H a = some (SetTO P w a L) ∧ TupsAt K H L ∧ Q (.bl (decide (k ∈ L.map (·.2)))) H
theorem inT (hu : X.A.units + 64 < cLine) (hK : X.K = K := by rfl) (hP : X.prog = P := by rfl) (hw : X.w = w := by rfl) : OpR X (compareOp .In) (rInT K P w) := by
  subst hK hP hw
  intro pins s σ H x y v u Q I rx ry h
  obtain ⟨b, a, k, L, rfl, rfl, hb, ha, ht, q⟩ := h
  cases rx
  cases ry
  obtain ⟨es, ep, t, R⟩ := setTR_of I ha ht
  have hx := I.isT hb
  obtain ⟨o, ho, hex, hd⟩ := R.ob
  have ty : s.TypeIs (.ref a) "set" := ⟨o, ho, hex.1⟩
  show wpAny _ _ (do return Value.bool (← contains (.ref a) (.ref b))) _ _ s
  refine wpAny_bind ?_
  unfold contains
  try with_reducible refine wpAny_holding ?_
  refine wpAny_bind (wpAny_specialOf ty F.slot_set_contains.lookup ?_)
  show wpAny _ _ (if (some (Value.builtin "set.__contains__") == some Value.none) = true then _ else _) _ _ s
  rw [if_neg (by rw [beq_builtin_none]; exact Bool.false_ne_true)]
  refine wpAny_bind (wpAny_callSpecialUnlessNone?_slot (name := Str.ofString "__contains__") ty F.slot_set_contains
    (wpAny_call_entry F.slot_set_contains ty entry_set_contains ?_ (F.args_set_contains_2 _ _)))
  unfold Builtin.«frozenset.__contains__» Builtin.Frozenset.oneOther
  simp only [List.isEmpty_nil, bind_assoc]
  unfold Builtin.Frozenset.addrOf Builtin.Frozenset.withSetAsKey setContains
  refine wpAny_bind (wpAny_pure ?_)
  try dsimp only
  refine wpAny_bind (wpAny_pure ?_)
  try dsimp only
  refine wpAny_bind (wpAny_tryCatch ?_)
  refine wpAny_holding ?_
  have hu2 : X.A.in1.units < cLine := by
    show X.A.units + 1 < cLine
    omega
  refine wpAny_bind (wpAny_pyHash_tuple (by simpa using hu2) hx ?_)
  refine wpAny_bind (find_at (s := { s with toks := s.toks + (k.length + 1) }) R hx (by simpa using hu2) fun r hr => ?_)
  refine wpAny_pure ?_
  show wpAny _ _ (ret (Value.bool r.isSome)) _ _ _
  rw [hr]
  exact wpAny_pure ⟨_, rfl, wpAny_truthy_bool (wpAny_pure ⟨.bl _, H, I.tok _, rfl, q⟩)⟩
/-- seen.add(t) -/
def rAddT (K : PySem.W.Frag) (P : Program) (w : World) : V → List V → Hp → VK → Prop := fun x xs H Q => ∃ (a b : Addr) (k : List Int) (L : List (Addr × List Int)), x = .ref a ∧ xs = [.ref b] ∧ SqT K H b (k.map V.int) ∧ H a = some (SetTO P w a L) ∧ TupsAt K H L ∧ L.length < 63 ∧ k ∉ L.map (·.2) ∧
  ∀ L', L'.Perm ((b, k) :: L) → Q .non (upd H a (SetTO P w a L'))
def tAddT (K : PySem.W.Frag) (P : Program) (w : World) (to : TE) (t : TA) : TE := fun σ H Q => to σ H fun x H1 => (∃ a L, x = V.ref a ∧ H1 a = some (SetTO P w a L)) ∧ t σ H1 fun xs H2 => rAddT K P w x xs H2 Q
theorem addT (hu : X.A.units + 64 < cLine) (hK : X.K = K) (hP : X.prog = P) (hw : X.w = w) : MtR X "set.add" (rAddT K P w) := by
  subst hK hP hw
  intro pins s σ H x xs v us Q I rx rxs h
  obtain ⟨a, b, k, L, rfl, rfl, hb, ha, ht, few, nin, q⟩ := h
  cases rx
  rw [Vals.ref1 rxs]
  obtain ⟨es, ep, t, R⟩ := setTR_of I ha ht
  have hx := I.isT hb
  obtain ⟨o, ho, hex, hd⟩ := R.ob
  have ty : s.TypeIs (.ref a) "set" := ⟨o, ho, hex.1⟩
  refine wpAny_call_entry F.slot_set_add ty F.entry_set_add ?_ (F.args_set_add_2 _ _)
  unfold Builtin.«set.add» Builtin.Frozenset.oneOther
  simp only [List.isEmpty_nil, bind_assoc]
  unfold Builtin.Frozenset.addrOf setAdd
  refine wpAny_bind (wpAny_pure ?_)
  try dsimp only
  refine wpAny_bind (wpAny_pure ?_)
  try dsimp only
  have hu2 : X.A.in1.units < cLine := by
    show X.A.units + 1 < cLine
    omega
  refine wpAny_bind (wpAny_holding (wpAny_bind (wpAny_pyHash_tuple hu2 hx ?_)))
  refine add_at (s := { s with toks := s.toks + (k.length + 1) }) R hx hu2 (by omega) fun fl h1 L' es' ep' t' sb R' _ c2 => ?_
  show wpAny _ _ (ret Value.none) _ _ _
  have ex : ∃ u, h1.get? a = some u := by
    obtain ⟨o', ho', _⟩ := R'.ob
    exact ⟨o', ho'⟩
  refine wpAny_pure ⟨_, rfl, ?_⟩
  exact ⟨.non, _, I.write (e := a) (t' := s.toks + (k.length + 1)) (by rw [ha]; trivial) (.inl rfl) (fun c u hc hu => (sb.2 c hc).trans hu) ex (setTO_new R'.t0), rfl, q L' (c2 nin)⟩
theorem pe_addT {o e : Expr} {es : List Expr} {to : TE} {t : TA} {apos cpos : Pos} (hu : X.A.units + 64 < cLine) (ho : PE X o to) (ha : PA X (e :: es) t)
    (hbase : attributeBase o "add" X.env (eval o X.env) = eval o X.env := by rfl)
    (hfew : ((backTo cpos (starEach (e :: es) X.env)).all (fun x => !x.1) && (backToKw cpos (keywordEach [] X.env)).all (fun x => x.1.isSome) && decide ((e :: es).length + ([] : List Keyword).length + (if ([] : List Keyword).isEmpty then 0 else 1) < 30)) = true := by rfl)
    (hline : (apos.endLine == cpos.line) = true := by rfl) (hs : starEach (e :: es) X.env = (false, eval e X.env) :: starEach es X.env := by rfl) (hplain : (backTo cpos (starEach es X.env)).any (·.1) = false := by rfl) (hK : X.K = K := by rfl) (hP : X.prog = P := by rfl) (hw : X.w = w := by rfl) :
    PE X (.Call (.Attribute o "add" apos) (e :: es) [] cpos) (tAddT K P w to t) := by
  refine ⟨fun pins s σ H Q I h => ?_⟩
  refine wpAny_Call_method_late hbase hfew hline rfl (thn (ho.run pins s σ H _ I h) fun v s1 ⟨x, H1, I1, r1, ty, q1⟩ => ?_)
  obtain ⟨a, L, rfl, hka⟩ := ty
  cases r1
  subst hP hw
  obtain ⟨es1, ep1, t1, ⟨ob, hob, hex, hd⟩, _⟩ := SetT0.ex (I1.hok a _ hka).1
  refine ⟨"set", "set.add", F.plainAttrs_set, F.slot_set_add, F.type_set_add, ⟨ob, hob, hex.1⟩, fun b z => by injection z with z; subst z; exact ⟨ob, hob, hex.2.1⟩, ?_⟩
  have hA := ha.run cpos pins s1 σ H1 _ I1 q1
  rw [hs] at hA ⊢
  refine Calls.callWith_builtin (by show (false || (backTo cpos (starEach es X.env)).any (·.1)) = false; rw [hplain]; rfl) (Calls.evalArgs_plain ?_)
  exact thn hA fun us s2 ⟨vs, H2, I2, r2, q2⟩ => addT hu hK rfl rfl pins s2 σ H2 (.ref a) vs (.ref a) us Q I2 rfl r2 q2
theorem sortSetT (hc : X.calm = true := by rfl) (hK : X.K = K := by rfl) (hP : X.prog = P := by rfl) (hw : X.w = w := by rfl) : CallR X (.builtin "sorted") (rSortedT K P w) := by
  subst hK hP hw
  exact cr_sortedT hc
end
end RL
/-! A tuple whose object is known to have no dict of its own: made by tuple(list), asked for index. -/
namespace RL
open PySem PySem.Spec PyProof.Rows L2
section
variable {X : Cx} {K : PySem.W.Frag}
def rTupFz (K : PySem.W.Frag) : List V → Hp → VK → Prop := fun xs H Q => ∃ p ys, xs = [.ref p] ∧ SqL K H p ys ∧ ∀ (l : Addr) (o : Obj), H l = none → o.dict = none → Q (.ref l) (upd H l (.frz o (.tup ys)))
theorem tupFz (h : X.K = K := by rfl) : CallR X (.type "tuple") (rTupFz K) := by
  subst h
  intro pins s σ H xs us Q I r h
  obtain ⟨p, ys, rfl, hq, q⟩ := h
  rw [Vals.ref1 r]
  obtain ⟨its, rv, pl, hz⟩ := I.list hq
  have hlen := rv.length
  refine call_tuple_list pl.isList (fun h1 kp => ?_) (by rw [List.size_toArray]; omega)
  have I1 : L2.Inv X pins σ H { s with heap := h1 } := I.kept (t' := s.toks) kp
  have fr : H h1.objs.size = none := I1.hok.fresh (Nat.le_refl _)
  refine ⟨.ref h1.objs.size, upd H h1.objs.size (.frz { cls := .type "tuple", data := .seq its.toArray } (.tup ys)), I1.laid (t' := s.toks) (fun b o e => Heap.get?_push_of_some _ e) (Nat.le_refl _) ?_, rfl, q _ _ fr rfl⟩
  exact ⟨Heap.get?_push_size _ rfl, hz, its, rv, IsTup.new _ _⟩
def tTupIx (K : PySem.W.Frag) (to : TE) (t : TA) : TE := fun σ H Q => to σ H fun x H1 => (∃ a o xs, x = V.ref a ∧ H1 a = some (.frz o (.tup xs)) ∧ o.dict = none) ∧ t σ H1 fun xs H2 => rTupIx K x xs H2 Q
theorem pe_tupIx {o e : Expr} {es : List Expr} {to : TE} {t : TA} {apos cpos : Pos} (ho : PE X o to) (ha : PA X (e :: es) t)
    (hbase : attributeBase o "index" X.env (eval o X.env) = eval o X.env := by rfl)
    (hfew : ((backTo cpos (starEach (e :: es) X.env)).all (fun x => !x.1) && (backToKw cpos (keywordEach [] X.env)).all (fun x => x.1.isSome) && decide ((e :: es).length + ([] : List Keyword).length + (if ([] : List Keyword).isEmpty then 0 else 1) < 30)) = true := by rfl)
    (hline : (apos.endLine == cpos.line) = true := by rfl) (hs : starEach (e :: es) X.env = (false, eval e X.env) :: starEach es X.env := by rfl) (hplain : (backTo cpos (starEach es X.env)).any (·.1) = false := by rfl) (hK : X.K = K := by rfl) :
    PE X (.Call (.Attribute o "index" apos) (e :: es) [] cpos) (tTupIx K to t) := by
  subst hK
  refine ⟨fun pins s σ H Q I h => ?_⟩
  refine wpAny_Call_method_late hbase hfew hline rfl (thn (ho.run pins s σ H _ I h) fun v s1 ⟨x, H1, I1, r1, ty, q1⟩ => ?_)
  obtain ⟨a, ob, ys, rfl, hka, nd⟩ := ty
  cases r1
  obtain ⟨hob, _, its, rv, ⟨o2, ho2, hc2, _⟩⟩ := (show ObjOk X.prog X.w H1 s1.heap a (.frz ob (.tup ys)) from I1.hok a _ hka)
  refine ⟨"tuple", "tuple.index", F.plainAttrs_tuple, F.slot_tuple_index, F.type_tuple_index, ⟨o2, ho2, hc2⟩, fun b z => by injection z with z; subst z; exact ⟨ob, hob, nd⟩, ?_⟩
  have hA := ha.run cpos pins s1 σ H1 _ I1 q1
  rw [hs] at hA ⊢
  refine Calls.callWith_builtin (by show (false || (backTo cpos (starEach es X.env)).any (·.1)) = false; rw [hplain]; rfl) (Calls.evalArgs_plain ?_)
  exact thn hA fun us s2 ⟨vs, H2, I2, r2, q2⟩ => mt_tupIx pins s2 σ H2 (.ref a) vs (.ref a) us Q I2 rfl r2 q2
end
end RL
/-! zip of two things, each a list or a tuple. -/
namespace RL
open PySem PySem.Spec PyProof.Rows L2
/-- what is drawn from: true a tuple, false a list -/
def hIt : Bool → Heap → Addr → Addr → Nat → Prop
  | true, h, i, l, k => h.IsTupleIter i l k
  | false, h, i, l, k => h.IsListIter i l k
def hSq : Bool → Heap → Addr → Array Value → Prop
  | true, h, l, xs => h.IsTuple l xs
  | false, h, l, xs => h.IsList l xs
theorem hIt.but {u : Bool} {h g : Heap} {c i l : Addr} {k : Nat} (x : hIt u h i l k) (e : Heap.ExtBut c h g) (n : i ≠ c) : hIt u g i l k := by
  cases u with
  | true => exact Heap.IsTupleIter.extBut x e n
  | false => exact Heap.IsListIter.extBut x e n
theorem hSq.but {u : Bool} {h g : Heap} {c l : Addr} {xs : Array Value} (x : hSq u h l xs) (e : Heap.ExtBut c h g) (n : l ≠ c) : hSq u g l xs := by
  cases u with
  | true => exact Heap.IsTuple.extBut x e n
  | false => exact Heap.IsList.extBut x e n
theorem hIt.to {u : Bool} {h g : Heap} {i l : Addr} {k : Nat} (x : hIt u h i l k) (e : ∀ o, h.get? i = some o → g.get? i = some o) : hIt u g i l k := by
  cases u with
  | true => exact Heap.IsTupleIter.at x e
  | false => exact Heap.IsListIter.at x e
theorem hIt.obj {u : Bool} {h : Heap} {i l : Addr} {k : Nat} (x : hIt u h i l k) : ∃ o, h.get? i = some o ∧ ∀ v, o.data ≠ .cell v := by
  cases u with
  | true =>
    obtain ⟨o, e, _, d⟩ := x
    exact ⟨o, e, fun v q => by rw [d] at q; cases q⟩
  | false =>
    obtain ⟨o, e, _, d⟩ := x
    exact ⟨o, e, fun v q => by rw [d] at q; cases q⟩
theorem hIt.small {u : Bool} {h : Heap} {i l : Addr} {k : Nat} (x : hIt u h i l k) : i < h.objs.size := by
  obtain ⟨o, e, _⟩ := x.obj
  exact Heap.lt_size e
section
variable {prog : Program} {w : World} {A : Around} {E : Value → Shared → Prop} {s : Shared}
theorem half_item {u : Bool} {it l : Addr} {k : Nat} {xs : Array Value} {x : Value} {Q : Value → Shared → Prop} (a1 : hIt u s.heap it l k) (a2 : hSq u s.heap l xs) (hx : xs[k]? = some x)
    (hq : ∀ g, hIt u g it l (k + 1) → Heap.SameBut it s.heap g → Q x { s with heap := g }) : wpAny (model prog w) A (Builtin.SmallTypes.nextOf (.ref it)) Q E s := by
  cases u with
  | true => exact RZ.nextOf_tuple_item a1 a2 hx hq
  | false => exact wpAny_nextOf_list_item a1 a2 hx hq
theorem half_end {u : Bool} {it l : Addr} {k : Nat} {xs : Array Value} {Q : Value → Shared → Prop} (hh : A.handled = none) (a1 : hIt u s.heap it l k) (a2 : hSq u s.heap l xs) (hx : xs[k]? = none)
    (he : ∀ g e, Heap.ExtBut it s.heap g → (∃ o, g.get? e = some o ∧ o.cls = .type "StopIteration") → E (.ref e) { s with heap := g }) : wpAny (model prog w) A (Builtin.SmallTypes.nextOf (.ref it)) Q E s := by
  cases u with
  | true => exact RZ.nextOf_tuple_end hh a1 a2 hx he
  | false => exact wpAny_nextOf_list_end hh a1 a2 hx he
theorem zh_item {q ti to m1 m2 d1 d2 : Addr} {u1 u2 : Bool} {n1 n2 : Nat} {vs1 vs2 : Array Value} {x y a b : Value} {Q : Value → Shared → Prop} (D : ZipApart q ti to m1 m2 d1 d2)
    (zz : IsZip s.heap q ti to .none) (pi : IsPair s.heap ti (.ref m1) (.ref m2)) (po : IsPair s.heap to a b)
    (w1 : hIt u1 s.heap m1 d1 n1) (w2 : hIt u2 s.heap m2 d2 n2) (s1 : hSq u1 s.heap d1 vs1) (s2 : hSq u2 s.heap d2 vs2) (hx : vs1[n1]? = some x) (hy : vs2[n2]? = some y)
    (hq : ∀ g, IsZip g q ti to (rawInt s.heap.objs.size) → IsPair g to x y → hIt u1 g m1 d1 (n1 + 1) → hIt u2 g m2 d2 (n2 + 1) → IsPair g s.heap.objs.size x y → g.objs.size = s.heap.objs.size + 1 →
      (∀ c o, c ≠ q → c ≠ to → c ≠ m1 → c ≠ m2 → s.heap.get? c = some o → g.get? c = some o) → Q (.ref s.heap.objs.size) { s with heap := g }) :
    wpAny (model prog w) A (Builtin.«zip.__next__» ⟨[.ref q], []⟩) (fun f s' => ∃ v, f = .done (.ret v) ∧ Q v s') E s := by
  show wpAny _ _ (field (.ref q) 2 >>= _) _ _ _
  refine wpAny_bind (wpAny_field zz rfl (x := .bool false) rfl ?_)
  show wpAny _ _ (field (.ref q) 3 >>= _) _ _ _
  refine wpAny_bind (wpAny_field zz rfl (x := .ref ti) rfl (wpAny_bind (wpAny_seqItems pi rfl ?_)))
  show wpAny _ _ (Builtin.SmallTypes.ownedTupleIsFree (.ref q) >>= _) _ _ _
  refine wpAny_bind ?_; unfold Builtin.SmallTypes.ownedTupleIsFree
  refine wpAny_bind (wpAny_field zz rfl (x := .none) rfl (wpAny_pure ?_))
  simp only [if_true]
  refine wpAny_bind (wpAny_rule (wpAny_bind (wpAny_field zz rfl (x := .ref to) rfl (wpAny_bind (wpAny_setField_rec zz (by simp) fun g1 zz1 b1 => ?_)))))
  replace zz1 : IsZip g1 q ti to .ellipsis := zz1
  refine wpAny_bind ?_
  simp only [List.zipIdx_nil, List.zipIdx_cons, List.forIn_nil, List.forIn_cons]
  refine wpAny_bind (wpAny_bind (wpAny_onRaise ?_))
  show wpAny _ _ (Builtin.SmallTypes.nextOf (.ref m1) >>= _) _ _ _
  refine wpAny_bind (half_item (w1.but b1.extBut D.i1z) (s1.but b1.extBut D.l1z) hx fun g2 v1 b2 => wpAny_pure ?_)
  have po2 : IsPair g2 to a b := b2.extBut _ _ D.TOi1 (b1.extBut _ _ D.TOz po)
  refine wpAny_bind (wpAny_seqItems po2 rfl (wpAny_bind (wpAny_updateSeq_pair po2 fun g3 po3 b3 => ?_)))
  replace po3 : IsPair g3 to x b := po3
  refine wpAny_bind (wpAny_letGo (wpAny_pure (wpAny_bind (wpAny_bind (wpAny_onRaise ?_)))))
  show wpAny _ _ (Builtin.SmallTypes.nextOf (.ref m2) >>= _) _ _ _
  refine wpAny_bind (half_item (((w2.but b1.extBut D.i2z).but b2.extBut D.i12.symm).but b3.extBut D.TOi2.symm) (((s2.but b1.extBut D.l2z).but b2.extBut D.l2i1).but b3.extBut D.l2TO) hy fun g4 v2 b4 => wpAny_pure ?_)
  have po4 : IsPair g4 to x b := b4.extBut _ _ D.TOi2 po3
  refine wpAny_bind (wpAny_seqItems po4 rfl (wpAny_bind (wpAny_updateSeq_pair po4 fun g5 po5 b5 => ?_)))
  replace po5 : IsPair g5 to x y := po5
  refine wpAny_bind (wpAny_letGo (wpAny_pure (wpAny_pure (wpAny_bind (wpAny_seqItems po5 rfl (wpAny_bind (wpAny_newTuple ?_)))))))
  have sz : g5.objs.size = s.heap.objs.size := by rw [b5.1, b4.1, b3.1, b2.1, b1.1]
  have zz5 : IsZip g5 q ti to .ellipsis := b5.extBut _ _ D.TOz.symm (b4.extBut _ _ D.i2z.symm (b3.extBut _ _ D.TOz.symm (b2.extBut _ _ D.i1z.symm zz1)))
  have old5 : ∀ c o, c ≠ q → c ≠ to → c ≠ m1 → c ≠ m2 → s.heap.get? c = some o → g5.get? c = some o := fun c o c1 c2 c3 c4 e => b5.extBut _ _ c2 (b4.extBut _ _ c4 (b3.extBut _ _ c2 (b2.extBut _ _ c3 (b1.extBut _ _ c1 e))))
  have v15 : hIt u1 g5 m1 d1 (n1 + 1) := ((v1.but b3.extBut D.TOi1.symm).but b4.extBut D.i12).but b5.extBut D.TOi1.symm
  have v25 : hIt u2 g5 m2 d2 (n2 + 1) := v2.but b5.extBut D.TOi2.symm
  have ql : q < g5.objs.size := Heap.lt_size zz5
  show wpAny _ _ (Builtin.SmallTypes.ownedTupleHandOut (.ref q) (.ref g5.objs.size) >>= _) _ _ _
  refine wpAny_bind ?_; unfold Builtin.SmallTypes.ownedTupleHandOut
  have zz6 : IsZip (g5.push { cls := .type "tuple", data := .seq #[x, y] }) q ti to .ellipsis := Heap.get?_push_of_some _ zz5
  refine wpAny_bind (wpAny_setField_rec zz6 (by simp) fun g7 zz7 b7 => ?_)
  replace zz7 : IsZip g7 q ti to (rawInt g5.objs.size) := zz7
  refine wpAny_setField_rec zz7 (by simp) fun g8 zz8 b8 => ?_
  replace zz8 : IsZip g8 q ti to (rawInt g5.objs.size) := zz8
  have up : ∀ c o, c ≠ q → g5.get? c = some o → g8.get? c = some o := fun c o c1 e => b8.extBut _ _ c1 (b7.extBut _ _ c1 (Heap.get?_push_of_some _ e))
  have t8 : IsPair g8 g5.objs.size x y := b8.extBut _ _ (Nat.ne_of_gt ql) (b7.extBut _ _ (Nat.ne_of_gt ql) (Heap.get?_push_size _ rfl))
  have sz8 : g8.objs.size = g5.objs.size + 1 := by rw [b8.1, b7.1, Heap.size_push]
  rw [sz] at zz8 t8 sz8
  refine wpAny_pure ⟨_, rfl, ?_⟩
  show Q (.ref g5.objs.size) _
  rw [sz]
  exact hq g8 zz8 (up _ _ D.TOz po5) (v15.to fun o e => up _ o D.i1z e) (v25.to fun o e => up _ o D.i2z e) t8 sz8 fun c o c1 c2 c3 c4 e => up c o c1 (old5 c o c1 c2 c3 c4 e)
theorem zh_end {q ti to m1 m2 d1 d2 : Addr} {u1 u2 : Bool} {n1 n2 : Nat} {vs1 vs2 : Array Value} {a b : Value} {Q : Fin → Shared → Prop} (hh : A.handled = none) (D : ZipApart q ti to m1 m2 d1 d2)
    (zz : IsZip s.heap q ti to .none) (pi : IsPair s.heap ti (.ref m1) (.ref m2)) (po : IsPair s.heap to a b)
    (w1 : hIt u1 s.heap m1 d1 n1) (w2 : hIt u2 s.heap m2 d2 n2) (s1 : hSq u1 s.heap d1 vs1) (s2 : hSq u2 s.heap d2 vs2) (he : vs1[n1]? = none ∨ vs2[n2]? = none)
    (hE : ∀ g e, (∀ c o, c ≠ q → c ≠ to → c ≠ m1 → c ≠ m2 → s.heap.get? c = some o → g.get? c = some o) → (∃ o, g.get? e = some o ∧ o.cls = .type "StopIteration") → E (.ref e) { s with heap := g }) :
    wpAny (model prog w) A (Builtin.«zip.__next__» ⟨[.ref q], []⟩) Q E s := by
  show wpAny _ _ (field (.ref q) 2 >>= _) _ _ _
  refine wpAny_bind (wpAny_field zz rfl (x := .bool false) rfl ?_)
  show wpAny _ _ (field (.ref q) 3 >>= _) _ _ _
  refine wpAny_bind (wpAny_field zz rfl (x := .ref ti) rfl (wpAny_bind (wpAny_seqItems pi rfl ?_)))
  show wpAny _ _ (Builtin.SmallTypes.ownedTupleIsFree (.ref q) >>= _) _ _ _
  refine wpAny_bind ?_; unfold Builtin.SmallTypes.ownedTupleIsFree
  refine wpAny_bind (wpAny_field zz rfl (x := .none) rfl (wpAny_pure ?_))
  simp only [if_true]
  refine wpAny_bind (wpAny_rule (wpAny_bind (wpAny_field zz rfl (x := .ref to) rfl (wpAny_bind (wpAny_setField_rec zz (by simp) fun g1 zz1 b1 => ?_)))))
  replace zz1 : IsZip g1 q ti to .ellipsis := zz1
  refine wpAny_bind ?_
  simp only [List.zipIdx_nil, List.zipIdx_cons, List.forIn_nil, List.forIn_cons]
  refine wpAny_bind (wpAny_bind (wpAny_onRaise ?_))
  show wpAny _ _ (Builtin.SmallTypes.nextOf (.ref m1) >>= _) _ _ _
  cases hx : vs1[n1]? with
  | none =>
    refine wpAny_bind (half_end hh (w1.but b1.extBut D.i1z) (s1.but b1.extBut D.l1z) hx fun g2 e b2 ⟨oe, hoe, hce⟩ => ?_)
    have zz2 : IsZip g2 q ti to .ellipsis := b2 _ _ D.i1z.symm zz1
    have ne : e ≠ q := fun x => by
      subst x
      rw [zz2] at hoe
      cases hoe
      simp at hce
    exact wpAny_setField_rec zz2 (by simp) fun g3 _ b3 => hE g3 e (fun c o c1 _ c3 _ x => b3.extBut _ _ c1 (b2 _ _ c3 (b1.extBut _ _ c1 x))) ⟨oe, b3.extBut _ _ ne hoe, hce⟩
  | some x =>
    have hy : vs2[n2]? = none := he.elim (fun z => by rw [hx] at z; cases z) id
    refine wpAny_bind (half_item (w1.but b1.extBut D.i1z) (s1.but b1.extBut D.l1z) hx fun g2 v1 b2 => wpAny_pure ?_)
    have po2 : IsPair g2 to a b := b2.extBut _ _ D.TOi1 (b1.extBut _ _ D.TOz po)
    refine wpAny_bind (wpAny_seqItems po2 rfl (wpAny_bind (wpAny_updateSeq_pair po2 fun g3 po3 b3 => ?_)))
    refine wpAny_bind (wpAny_letGo (wpAny_pure (wpAny_bind (wpAny_bind (wpAny_onRaise ?_)))))
    show wpAny _ _ (Builtin.SmallTypes.nextOf (.ref m2) >>= _) _ _ _
    refine wpAny_bind (half_end hh (((w2.but b1.extBut D.i2z).but b2.extBut D.i12.symm).but b3.extBut D.TOi2.symm) (((s2.but b1.extBut D.l2z).but b2.extBut D.l2i1).but b3.extBut D.l2TO) hy fun g4 e b4 ⟨oe, hoe, hce⟩ => ?_)
    have zz4 : IsZip g4 q ti to .ellipsis := b4 _ _ D.i2z.symm (b3.extBut _ _ D.TOz.symm (b2.extBut _ _ D.i1z.symm zz1))
    have ne : e ≠ q := fun x => by
      subst x
      rw [zz4] at hoe
      cases hoe
      simp at hce
    exact wpAny_setField_rec zz4 (by simp) fun g5 _ b5 => hE g5 e (fun c o c1 c2 c3 c4 x => b5.extBut _ _ c1 (b4 _ _ c4 (b3.extBut _ _ c2 (b2.extBut _ _ c3 (b1.extBut _ _ c1 x))))) ⟨oe, b5.extBut _ _ ne hoe, hce⟩
theorem zh_next_item {q ti to m1 m2 d1 d2 : Addr} {u1 u2 : Bool} {n1 n2 : Nat} {vs1 vs2 : Array Value} {x y a b : Value} {Q : Option Value → Shared → Prop} (D : ZipApart q ti to m1 m2 d1 d2)
    (zz : IsZip s.heap q ti to .none) (pi : IsPair s.heap ti (.ref m1) (.ref m2)) (po : IsPair s.heap to a b)
    (w1 : hIt u1 s.heap m1 d1 n1) (w2 : hIt u2 s.heap m2 d2 n2) (s1 : hSq u1 s.heap d1 vs1) (s2 : hSq u2 s.heap d2 vs2) (hx : vs1[n1]? = some x) (hy : vs2[n2]? = some y)
    (hq : ∀ g, IsZip g q ti to (rawInt s.heap.objs.size) → IsPair g to x y → hIt u1 g m1 d1 (n1 + 1) → hIt u2 g m2 d2 (n2 + 1) → IsPair g s.heap.objs.size x y → g.objs.size = s.heap.objs.size + 1 →
      (∀ c o, c ≠ q → c ≠ to → c ≠ m1 → c ≠ m2 → s.heap.get? c = some o → g.get? c = some o) → Q (some (.ref s.heap.objs.size)) { s with heap := g }) :
    wpAny (model prog w) A (pyNext (.ref q)) Q E s := by
  have ty : s.TypeIs (.ref q) "zip" := ⟨_, zz, rfl⟩
  unfold pyNext
  exact wpAny_bind (wpAny_attempt (wpAny_callSpecial?_slot (name := Str.ofString "__next__") ty F.slot_zip_next (wpAny_call_entry F.slot_zip_next ty F.entry_zip_next
    (zh_item D zz pi po w1 w2 s1 s2 hx hy fun g a1 a2 a3 a4 a5 a6 a7 => wpAny_pure (hq g a1 a2 a3 a4 a5 a6 a7)) (F.args_zip_next_1 _))))
theorem zh_next_end {q ti to m1 m2 d1 d2 : Addr} {u1 u2 : Bool} {n1 n2 : Nat} {vs1 vs2 : Array Value} {a b : Value} {Q : Option Value → Shared → Prop} (hh : A.handled = none) (D : ZipApart q ti to m1 m2 d1 d2)
    (zz : IsZip s.heap q ti to .none) (pi : IsPair s.heap ti (.ref m1) (.ref m2)) (po : IsPair s.heap to a b)
    (w1 : hIt u1 s.heap m1 d1 n1) (w2 : hIt u2 s.heap m2 d2 n2) (s1 : hSq u1 s.heap d1 vs1) (s2 : hSq u2 s.heap d2 vs2) (he : vs1[n1]? = none ∨ vs2[n2]? = none)
    (hq : ∀ g, (∀ c o, c ≠ q → c ≠ to → c ≠ m1 → c ≠ m2 → s.heap.get? c = some o → g.get? c = some o) → Q none { s with heap := g }) : wpAny (model prog w) A (pyNext (.ref q)) Q E s := by
  have ty : s.TypeIs (.ref q) "zip" := ⟨_, zz, rfl⟩
  unfold pyNext
  refine wpAny_bind (wpAny_attempt (wpAny_callSpecial?_slot (name := Str.ofString "__next__") ty F.slot_zip_next (wpAny_call_entry F.slot_zip_next ty F.entry_zip_next
    (zh_end hh D zz pi po w1 w2 s1 s2 he fun g e hk ⟨o, ho, hc⟩ => ?_) (F.args_zip_next_1 _))))
  exact wpAny_bind (wpAny_isInstance (T := "StopIteration") (b := true) ⟨o, ho, hc⟩ isSubtype_stop (wpAny_pure (hq _ hk)))
end
/-- the iterator of either -/
def itO : Bool → Addr → Obj
  | true, l => { cls := .type "tuple_iterator", data := .fields #[.ref l, .int 0 0] }
  | false, l => { cls := .type "list_iterator", data := .fields #[.ref l, .int 0 0] }
theorem itO_free (u : Bool) (l : Addr) : (itO u l).isFreed = false := by cases u <;> rfl
theorem itO_is {u : Bool} {h : Heap} {i l : Addr} (e : h.get? i = some (itO u l)) : hIt u h i l 0 := by
  cases u with
  | true => exact ⟨_, e, rfl, rfl⟩
  | false => exact ⟨_, e, rfl, rfl⟩
theorem half_iter {prog : Program} {w : World} {A : Around} {E : Value → Shared → Prop} {s : Shared} {u : Bool} {l : Addr} {xs : Array Value} {Q : Value → Shared → Prop} (h : hSq u s.heap l xs) (q : Q (.ref s.heap.objs.size) { s with heap := s.heap.push (itO u l) }) :
    wpAny (model prog w) A (pyIter (.ref l)) Q E s := by
  cases u with
  | true => exact wpAny_pyIter_tuple h q
  | false => exact wpAny_pyIter_list h q
theorem hSq.push {u : Bool} {h : Heap} {l : Addr} {xs : Array Value} (x : hSq u h l xs) (o : Obj) : hSq u (h.push o) l xs := by
  cases u with
  | true => exact Heap.IsTuple.push x o
  | false => exact Heap.IsList.push x o
abbrev zg1 (h : Heap) (u1 : Bool) (d1 : Addr) : Heap := h.push (itO u1 d1)
abbrev zg2 (h : Heap) (u1 u2 : Bool) (d1 d2 : Addr) : Heap := (zg1 h u1 d1).push (itO u2 d2)
abbrev zg3 (h : Heap) (u1 u2 : Bool) (d1 d2 : Addr) : Heap := (zg2 h u1 u2 d1 d2).push { cls := .type "tuple", data := .seq #[.ref h.objs.size, .ref (zg1 h u1 d1).objs.size] }
abbrev zg4 (h : Heap) (u1 u2 : Bool) (d1 d2 : Addr) : Heap := (zg3 h u1 u2 d1 d2).push { cls := .type "tuple", data := .seq #[.none, .none] }
abbrev zg5 (h : Heap) (u1 u2 : Bool) (d1 d2 : Addr) : Heap := (zg4 h u1 u2 d1 d2).push { cls := .type "zip", data := .fields #[.none, .bool false, .bool false, .ref (zg2 h u1 u2 d1 d2).objs.size, .ref (zg3 h u1 u2 d1 d2).objs.size] }
theorem zh_made (u1 u2 : Bool) (d1 d2 : Addr) (vs1 vs2 : Array Value) :
    Meets (Builtin.«zip.__new__» ⟨[.type "zip", .ref d1, .ref d2], []⟩) (fun _ R s => hSq u1 s.heap d1 vs1 ∧ hSq u2 s.heap d2 vs2 ∧ R (.ok (.ret (.ref (zg4 s.heap u1 u2 d1 d2).objs.size))) { s with heap := zg5 s.heap u1 u2 d1 d2 }) :=
  .of_wp fun prog w A R s h => by
    obtain ⟨hp, g, d, tk, os⟩ := s
    obtain ⟨k1, k2, h⟩ := h
    have sub := sub_zip
    have K1 : hSq u1 (Shared.heap ⟨hp, g, d, tk, os⟩) d1 vs1 := k1
    have K2 : hSq u2 (Shared.heap ⟨hp.push (itO u1 d1), g, d, tk, os⟩) d2 vs2 := k2.push _
    wp_walk using half_iter K1, half_iter K2
    exact ⟨_, rfl, h⟩
theorem zh_call {prog : Program} {w : World} {A : Around} {E : Value → Shared → Prop} {s : Shared} {u1 u2 : Bool} {d1 d2 : Addr} {vs1 vs2 : Array Value} {Q : Value → Shared → Prop} (s1 : hSq u1 s.heap d1 vs1) (s2 : hSq u2 s.heap d2 vs2)
    (h : ∀ g, IsZip g (s.heap.objs.size + 4) (s.heap.objs.size + 2) (s.heap.objs.size + 3) .none → IsPair g (s.heap.objs.size + 2) (.ref s.heap.objs.size) (.ref (s.heap.objs.size + 1)) → IsPair g (s.heap.objs.size + 3) .none .none → hIt u1 g s.heap.objs.size d1 0 → hIt u2 g (s.heap.objs.size + 1) d2 0 →
      (∀ c o, s.heap.get? c = some o → g.get? c = some o) → Q (.ref (s.heap.objs.size + 4)) { s with heap := g }) :
    wpAny (model prog w) A (call (.type "zip") [.ref d1, .ref d2]) Q E s := by
  refine callType_new F.called_zip (by decide) (F.typeCall_zip_2 _ _) (F.newCall_zip_2 _ _) (fun ob => F.args_object_init_3 ob _ _) F.entry_zip_new (zh_made u1 u2 d1 d2 vs1 vs2) ⟨s1, s2, ?_⟩
  have e1 : (zg1 s.heap u1 d1).objs.size = s.heap.objs.size + 1 := Heap.size_push ..
  have e2 : (zg2 s.heap u1 u2 d1 d2).objs.size = s.heap.objs.size + 2 := by rw [Heap.size_push, e1]
  have e3 : (zg3 s.heap u1 u2 d1 d2).objs.size = s.heap.objs.size + 3 := by rw [Heap.size_push, e2]
  have e4 : (zg4 s.heap u1 u2 d1 d2).objs.size = s.heap.objs.size + 4 := by rw [Heap.size_push, e3]
  have f5 : (zg5 s.heap u1 u2 d1 d2).get? (zg4 s.heap u1 u2 d1 d2).objs.size = some _ := Heap.get?_push_size _ rfl
  have f4 : (zg5 s.heap u1 u2 d1 d2).get? (zg3 s.heap u1 u2 d1 d2).objs.size = some _ := Heap.get?_push_of_some _ (Heap.get?_push_size _ rfl)
  have f3 : (zg5 s.heap u1 u2 d1 d2).get? (zg2 s.heap u1 u2 d1 d2).objs.size = some _ := Heap.get?_push_of_some _ (Heap.get?_push_of_some _ (Heap.get?_push_size _ rfl))
  have f2 : (zg5 s.heap u1 u2 d1 d2).get? (zg1 s.heap u1 d1).objs.size = some _ := Heap.get?_push_of_some _ (Heap.get?_push_of_some _ (Heap.get?_push_of_some _ (Heap.get?_push_size _ (itO_free u2 d2))))
  have f1 : (zg5 s.heap u1 u2 d1 d2).get? s.heap.objs.size = some _ := Heap.get?_push_of_some _ (Heap.get?_push_of_some _ (Heap.get?_push_of_some _ (Heap.get?_push_of_some _ (Heap.get?_push_size _ (itO_free u1 d1)))))
  show _ ∧ _
  rw [e2, e3, e4] at f5
  rw [e1, e2] at f3
  rw [e3] at f4
  rw [e1] at f2
  rw [e4]
  exact ⟨⟨_, f5, rfl⟩, h _ f5 f3 f4 (itO_is f1) (itO_is f2) fun c o x => Heap.get?_push_of_some _ (Heap.get?_push_of_some _ (Heap.get?_push_of_some _ (Heap.get?_push_of_some _ (Heap.get?_push_of_some _ x))))⟩
/-- a list or a tuple as it stands -/
def SqH (u : Bool) (K : PySem.W.Frag) (H : Hp) (a : Addr) (xs : List V) : Prop := match u with
  | true => SqT K H a xs
  | false => SqL K H a xs
def Itzh (u1 u2 : Bool) (K : PySem.W.Frag) (a b : Addr) : It :=
  ⟨fun i H => ∃ (xs ys : List V) (x y : V), SqH u1 K H a xs ∧ SqH u2 K H b ys ∧ xs[i]? = some x ∧ ys[i]? = some y,
    fun i H v H' => ∃ T x y, v = .ref T ∧ H T = none ∧ H' = upd H T (.tup [x, y]) ∧ (∀ xs, SqH u1 K H a xs → xs[i]? = some x) ∧ ∀ ys, SqH u2 K H b ys → ys[i]? = some y,
    fun i H => ∃ xs ys : List V, SqH u1 K H a xs ∧ SqH u2 K H b ys ∧ (xs.length ≤ i ∨ ys.length ≤ i)⟩
theorem inv_half {X : Cx} {pins : List (Addr × Obj)} {σ : L2.St} {H : Hp} {s : Shared} {u : Bool} {a : Addr} {xs : List V} (I : L2.Inv X pins σ H s) (h : SqH u X.K H a xs) : ∃ its, Vals xs its ∧ hSq u s.heap a its.toArray ∧ a < s.heap.objs.size := by
  cases u with
  | true =>
    obtain ⟨its, rv, p, _⟩ := I.tuple h
    refine ⟨its, rv, p, ?_⟩
    obtain ⟨o, ho, _⟩ := id p
    exact Heap.lt_size ho
  | false =>
    obtain ⟨its, rv, p, _⟩ := I.list h
    exact ⟨its, rv, p.isList, p.lt⟩
theorem inv_half_inj {X : Cx} {pins : List (Addr × Obj)} {σ : L2.St} {H : Hp} {s : Shared} {u : Bool} {a : Addr} {xs ys : List V} (I : L2.Inv X pins σ H s) (h : SqH u X.K H a xs) (g : SqH u X.K H a ys) : xs = ys := by
  cases u with
  | true => exact I.tuple_inj h g
  | false => exact I.list_inj h g
theorem turn_zh {P : Program} {w : World} {K : PySem.W.Frag} {elts : List Expr} {kk : Nat} {tpos : Pos} {u1 u2 : Bool} {a b q ti to m1 m2 : Addr} (D : ZipApart q ti to m1 m2 a b) :
    Turn P w K (.Tuple elts kk tpos) (Itzh u1 u2 K a b) [q, ti, to, m1, m2] q (fun i h => IsZip h q ti to .none ∧ IsPair h ti (.ref m1) (.ref m2) ∧ (∃ x y, IsPair h to x y) ∧ hIt u1 h m1 a i ∧ hIt u2 h m2 b i) where
  mem := by simp
  obj := fun i h st c hc => by
    obtain ⟨zz, pi, ⟨x, y, po⟩, w1, w2⟩ := st
    have e : c = q ∨ c = ti ∨ c = to ∨ c = m1 ∨ c = m2 := by simpa using hc
    rcases e with z | z | z | z | z
    · rw [z]; exact ⟨_, zz, fun v e => nomatch e⟩
    · rw [z]; exact ⟨_, pi, fun v e => nomatch e⟩
    · rw [z]; exact ⟨_, po, fun v e => nomatch e⟩
    · rw [z]; exact w1.obj
    · rw [z]; exact w2.obj
  keep := fun i h h' st k => by
    obtain ⟨zz, pi, ⟨x, y, po⟩, w1, w2⟩ := st
    exact ⟨k q (by simp) _ zz, k ti (by simp) _ pi, ⟨x, y, k to (by simp) _ po⟩, w1.to fun o e => k m1 (by simp) o e, w2.to fun o e => k m2 (by simp) o e⟩
  item := by
    intro X hP hw hK hc i pins s σ H E I hf st hg
    subst hP hw hK
    obtain ⟨zz, pi, ⟨x0, y0, po⟩, w1, w2⟩ := st
    obtain ⟨xs, ys, x, y, hqx, hqy, hx, hy⟩ := hg
    obtain ⟨its, rv, p, _⟩ := inv_half I hqx
    obtain ⟨its2, rv2, p2, _⟩ := inv_half I hqy
    obtain ⟨v, hv, ru⟩ := rv.get hx
    obtain ⟨v2, hv2, ru2⟩ := rv2.get hy
    have ql : q < s.heap.objs.size := Heap.lt_size zz
    refine zh_next_item D zz pi po w1 w2 p p2 (x := v) (y := v2) (by simpa using hv) (by simpa using hv2) fun g z1 po1 w11 w21 hT hsz hk => ?_
    refine ⟨_, rfl, wpAny_letOwnedTupleGo_zip (s := { s with heap := g }) z1 fun g2 z2 sb => ?_⟩
    have hT2 : g2.get? s.heap.objs.size = some { cls := .type "tuple", data := .seq #[v, v2] } := (sb.2 _ (Nat.ne_of_gt ql)).trans hT
    have new : ObjOk X.prog X.w (upd H s.heap.objs.size (.tup [x, y])) g2 s.heap.objs.size (.tup [x, y]) := ⟨by show 2 ≤ sizeLine; decide, [v, v2], .cons ru (.cons ru2 .nil), ⟨_, hT2, rfl, _, rfl⟩⟩
    have I1 : Inv X pins σ (upd H s.heap.objs.size (.tup [x, y])) { s with heap := g2 } := I.turnedNew (t' := s.toks) (ch := [q, ti, to, m1, m2])
      (fun c o hb e => (sb.2 c (fun z => hb (by simp [z]))).trans (hk c o (fun z => hb (by simp [z])) (fun z => hb (by simp [z])) (fun z => hb (by simp [z])) (fun z => hb (by simp [z])) e)) hf (Nat.le_refl _) new
    refine ⟨.ref s.heap.objs.size, _, I1, rfl, ⟨_, x, y, rfl, I.hok.fresh (Nat.le_refl _), rfl, fun l hl => by rw [inv_half_inj I hl hqx]; exact hx, fun l hl => by rw [inv_half_inj I hl hqy]; exact hy⟩, ⟨z2, ?_, ⟨v, v2, ?_⟩, ?_, ?_⟩, fun c hcm => ?_⟩
    · exact (sb.2 _ D.TIz).trans (hk _ _ D.TIz D.TITO D.TIi1 D.TIi2 pi)
    · exact (sb.2 _ D.TOz).trans po1
    · exact w11.to fun o e => (sb.2 _ D.i1z).trans e
    · exact w21.to fun o e => (sb.2 _ D.i2z).trans e
    · have lt : c < s.heap.objs.size := by
        have e : c = q ∨ c = ti ∨ c = to ∨ c = m1 ∨ c = m2 := by simpa using hcm
        rcases e with z | z | z | z | z
        · rw [z]; exact ql
        · rw [z]; exact Heap.lt_size pi
        · rw [z]; exact Heap.lt_size po
        · rw [z]; exact w1.small
        · rw [z]; exact w2.small
      rw [upd_ne (Nat.ne_of_lt lt)]
      exact (hf c hcm).1
  done := by
    intro X hP hw hK hc i pins s σ H E I hf st hg
    subst hP hw hK
    obtain ⟨zz, pi, ⟨x0, y0, po⟩, w1, w2⟩ := st
    obtain ⟨xs, ys, hqx, hqy, hend⟩ := hg
    obtain ⟨its, rv, p, _⟩ := inv_half I hqx
    obtain ⟨its2, rv2, p2, _⟩ := inv_half I hqy
    have l1 := rv.length
    have l2 := rv2.length
    have he : its.toArray[i]? = none ∨ its2.toArray[i]? = none := hend.imp (fun z => by simp; omega) fun z => by simp; omega
    exact zh_next_end (I.ok.hd hc) D zz pi po w1 w2 p p2 he fun g hk => ⟨rfl, I.turnedL (t' := s.toks) (ch := [q, ti, to, m1, m2]) (fun c o hb e =>
      hk c o (fun z => hb (by simp [z])) (fun z => hb (by simp [z])) (fun z => hb (by simp [z])) (fun z => hb (by simp [z])) e) hf⟩
  self := fun A i s Q E st h => wpAny_pyIter_zip st.1 h
section
variable {X : Cx} {K : PySem.W.Frag}
def iZh (u1 u2 : Bool) (K : PySem.W.Frag) (ta : TA) : TI := fun σ H R => ta σ H fun vs H1 => ∃ a b xs ys, vs = [.ref a, .ref b] ∧ SqH u1 K H1 a xs ∧ SqH u2 K H1 b ys ∧ R (Itzh u1 u2 K a b) H1
theorem pi_zh (u1 u2 : Bool) {e e2 : Expr} {ta : TA} {p pos tpos : Pos} {elts : List Expr} {kk : Nat} (hg : Gl X "zip") (hm : X.mg "zip" = none) (ha : PA X [e, e2] ta)
    (hs : starEach [e, e2] X.env = (false, eval e X.env) :: starEach [e2] X.env := by rfl) (hpl : (backTo pos (starEach [e2] X.env)).any (·.1) = false := by rfl) (hK : X.K = K := by rfl) :
    PI X (.Tuple elts kk tpos) (.Call (.Name "zip" p) [e, e2] [] pos) (iZh u1 u2 K ta) := by
  subst hK
  refine ⟨fun pins s σ H R I h => ?_⟩
  refine Call_ (ld_blt I hg hm PyProof.Rows.boot_zip (PyProof.Rows.callWith_type1 (thn (ha.run pos pins s σ H _ I h) fun us s1 ⟨vs, H1, I1, r1, q1⟩ => ?_) hs hpl))
  obtain ⟨a, b, xs, ys, rfl, hqx, hqy, q⟩ := q1
  cases r1 with
  | cons r rr =>
    cases rr with
    | cons r' rr =>
      cases rr
      cases r
      cases r'
      have new5 : ∀ c, c ∈ [s1.heap.objs.size + 4, s1.heap.objs.size + 2, s1.heap.objs.size + 3, s1.heap.objs.size, s1.heap.objs.size + 1] → FpOk X pins H1 c := fun c hcm => by
        have le : s1.heap.objs.size ≤ c := by
          simp only [List.mem_cons, List.not_mem_nil, or_false] at hcm
          rcases hcm with z | z | z | z | z <;> rw [z] <;> first | exact Nat.le_refl _ | exact Nat.le_add_right _ _
        exact I1.fpOk le (I1.hok.fresh le)
      obtain ⟨its, rv, p1, lt1⟩ := inv_half I1 hqx
      obtain ⟨its2, rv2, p2, lt2⟩ := inv_half I1 hqy
      refine zh_call p1 p2 fun g zz pi po w1 w2 hk => wpAny_pyIter_zip zz ?_
      have I2 : Inv X pins σ H1 { s1 with heap := g } := I1.kept (t' := s1.toks) hk
      exact ⟨s1.heap.objs.size + 4, [s1.heap.objs.size + 4, s1.heap.objs.size + 2, s1.heap.objs.size + 3, s1.heap.objs.size, s1.heap.objs.size + 1], _, _, H1, rfl, I2, turn_zh (PySem.W.ktu_apart s1.heap.objs.size a b lt1 lt2), ⟨zz, pi, ⟨_, _, po⟩, w1, w2⟩, new5, q⟩
theorem walk_zh {u1 u2 : Bool} {a b : Addr} {xs ys : List V} {n : Nat} (hn : n = min xs.length ys.length) : Walk (Itzh u1 u2 K a b) n (fun H => SqH u1 K H a xs ∧ SqH u2 K H b ys) (YPair (fun i => xs[i]?) (fun i => ys[i]?)) := by
  subst hn
  refine ⟨fun i H hi q => ⟨xs, ys, xs[i]'(by omega), ys[i]'(by omega), q.1, q.2, List.getElem?_eq_getElem _, List.getElem?_eq_getElem _⟩, fun H q => ⟨xs, ys, q.1, q.2, by omega⟩, fun i H v H' hi q y => ?_⟩
  obtain ⟨T, x, z, h1, h2, h3, h4, h5⟩ := y
  exact ⟨T, x, z, h1, h2, h3, h4 xs q.1, h5 ys q.2⟩
/-- t[::-1], t a tuple -/
def tRevT (K : PySem.W.Frag) (te : TE) : TE := fun σ H Q => te σ H fun x H1 => ∃ a xs, x = .ref a ∧ SqT K H1 a xs ∧ ∀ p, H1 p = none → Q (.ref p) (upd H1 p (.tup xs.reverse))
end
end RL
/-! set(l) of a list of ints; xs[::-1]. -/
namespace RL
open PySem PySem.Spec PyProof.Rows L2
abbrev nSet (w : World) : Obj := { cls := .type "set", dict := none, data := .set #[] 0 (.fresh 0 0 (!w.params.followText "set-order")) }
set_option maxHeartbeats 3200000 in
theorem set_of_list {P : Program} {w : World} {A : Around} {E : Value → Shared → Prop} {s : Shared} {l : Addr} {items : Array Value} (ms : List Int) {Q : Value → Shared → Prop} (hh : A.handled = none) (hl : s.heap.IsList l items) (im : IntsAre items.toList ms) (hb : ms.length + 1 < scanBound)
    (h : ∀ (g : Heap) (tk c : Nat), SetR w g s.heap.objs.size (fun j => decide (j ∈ ms)) c → c ≤ ms.length → (∀ b o, s.heap.get? b = some o → g.get? b = some o) → Q (.ref s.heap.objs.size) { s with heap := g, toks := tk }) :
    wpAny (model P w) A (call (.type "set") [.ref l]) Q E s := by
  have isz : items.size = ms.length := by
    have z := IntsAre.length im
    rwa [Array.length_toList] at z
  obtain ⟨cc, tl, mro⟩ := F.called_set.mro
  have made := F.called_set.made
  have sub := F.called_set.sub
  refine wpAny_call (codeAny_of_tree ?_)
  show wpAny _ _ (callAny (.type "set") _) _ _ _
  refine wpAny_pure ⟨Code.quiet_builtin _ (by decide +kernel), codeAny_builtin F.entry_type_call ?_⟩
  rw [Around.under_plain (weight_type_call_type "set" [.ref l] []) rfl]
  have q1 := F.called_set.notType
  have q2 := F.called_set.canCreate
  have q3 := F.typeCall_set_1 (.ref l)
  repeat (any_goals (first | assumption | wp_step))
  refine codeAny_mono (code_set_led1 (.ref l) (E := E) (Q₁ := fun ob s1 => ob = .ref s.heap.objs.size ∧ s1 = { s with heap := s.heap.push (nSet w) }) ⟨rfl, rfl⟩) fun r s1 hr => ?_
  cases r with
  | error e => exact hr
  | ok fl =>
    cases fl with
    | ret ob =>
      obtain ⟨rfl, rfl⟩ := hr
      have nS : (s.heap.push (nSet w)).get? s.heap.objs.size = some (nSet w) := Heap.get?_push_size _ rfl
      have ty : Shared.TypeIs { s with heap := s.heap.push (nSet w) } (.ref s.heap.objs.size) "set" := ⟨_, nS, rfl⟩
      have li := F.called_set.init.lookup
      have bi := F.called_set.init.bind (.ref s.heap.objs.size)
      repeat (any_goals (first | assumption | wp_step))
      refine codeAny_mono (codeAny_call_builtin (R := wants (fun r s2 => r = .none ∧ ∃ g tk c, s2 = { s with heap := g, toks := tk } ∧ SetR w g s.heap.objs.size (fun j => decide (j ∈ ms)) c ∧ c ≤ ms.length ∧ (∀ b o, s.heap.get? b = some o → g.get? b = some o)) E) F.called_set.init.plain F.entry_set_init (check_set_init_1 ty ?_)) fun r2 s2 hr2 => ?_
      · have l1 : (s.heap.push (nSet w)).IsList l items := hl.push _
        have lty : Shared.TypeIs { s with heap := s.heap.push (nSet w) } (.ref l) "list" := l1.typeIs
        obtain ⟨ol, hol, hcl, el, hdl⟩ := id hl
        obtain ⟨oc, od, odt, os⟩ := ol
        simp only at hcl hdl
        subst hcl; subst hdl
        have hol' : (s.heap.push (nSet w)).get? l = some { cls := .type "list", dict := od, data := .seq items el, slots := os } := Heap.get?_push_of_some _ hol
        have b1 := F.sub_list_set
        have b2 := F.sub_list_frozenset
        have nd : (Value.type "list" == Value.type "dict") = false := by decide
        unfold Builtin.«set.__init__» noKeywords Builtin.Frozenset.updateFrom
        generalize hPI : pyIter = PI
        wp_walk
        subst hPI
        refine wpAny_pyIter_list l1 (wpAny_bind (wpAny_runValue ?_))
        have lS : l < s.heap.objs.size := Heap.lt_size hol
        have hh3 : A.in1.in1.in1.handled = none := by simp [hh]
        have neI : l ≠ (s.heap.push (nSet w)).objs.size := by rw [Heap.size_push]; exact Nat.ne_of_lt (Nat.lt_succ_of_lt lS)
        have nf : s.heap.objs.size ∉ [(s.heap.push (nSet w)).objs.size, l] := by
          rw [Heap.size_push]
          simp only [List.mem_cons, List.mem_singleton, List.not_mem_nil, or_false, not_or]
          exact ⟨Nat.ne_of_lt (Nat.lt_succ_self _), Nat.ne_of_gt lS⟩
        have val : ∀ (i : Nat) (v : Value), items[i]? = some v → ∃ k t, ms[i]? = some k ∧ v = .int k t := fun i v hv => by
          have hi : i < ms.length := by rw [← isz]; exact (Array.getElem?_eq_some_iff.mp hv).1
          obtain ⟨t, e⟩ := PyProof.Rows.IntsAre.int_at im i v (by rw [Array.getElem?_toList]; exact hv)
          refine ⟨ms[i], t, List.getElem?_eq_getElem hi, ?_⟩
          rw [e, List.getD_eq_getElem?_getD, List.getElem?_eq_getElem hi] <;> rfl
        refine set_update_ints ((Walks.list hh3 _ l neI items).toS) s.heap.objs.size nf ms isz hb val (items.size - 0) 0 _ (by omega) (Nat.zero_le _) ⟨⟨_, Heap.get?_push_size _ rfl, rfl, rfl⟩, (l1.push _)⟩ ?hS0 ?hR
        case hS0 => exact ⟨0, Nat.le_refl 0, setR_new_at (Heap.get?_push_of_some _ nS)⟩
        case hR =>
          rintro ⟨g, g2, d2, tk2, os2⟩ c2 hm hc2 hS2
          have eg : g2 = s.gens := hm.gens
          have ed : d2 = s.drawn := hm.drawn
          have eo : os2 = s.os := hm.os
          subst eg; subst ed; subst eo
          show wpAny _ _ _ _ _ _
          refine wpAny_pure ?_
          show wpAny _ _ (ret Value.none) _ _ _
          rw [isz] at hc2
          refine wpAny_pure ⟨rfl, g, tk2, c2, rfl, hS2, hc2, fun b o e => ?_⟩
          have h0 : b < s.heap.objs.size := Heap.lt_size e
          refine hm.heap b o ?_ (Heap.get?_push_of_some _ (Heap.get?_push_of_some _ e))
          rw [Heap.size_push]
          simp only [List.mem_cons, List.mem_singleton, List.not_mem_nil, or_false, not_or]
          exact ⟨Nat.ne_of_lt h0, Nat.ne_of_lt (Nat.lt_succ_of_lt h0)⟩
      · cases r2 with
        | error e => exact hr2
        | ok f2 =>
          cases f2 with
          | ret r =>
            obtain ⟨rfl, g, tk, c2, rfl, hS2, hc2, hk2⟩ := hr2
            repeat (any_goals (first | assumption | wp_step))
            exact h _ _ _ hS2 hc2 hk2
          | _ => exact hr2.elim
    | _ => exact hr.elim
section
variable {X : Cx} {K : PySem.W.Frag}
def rSetL (w : World) (K : PySem.W.Frag) : List V → Hp → VK → Prop := fun vs H Q => ∃ (a : Addr) (ns : List Int), vs = [.ref a] ∧ SqL K H a (ns.map V.int) ∧ ns.length ≤ 4000 ∧
  ∀ (p : Addr) (c : Nat), H p = none → c ≤ ns.length → (∀ m : List Int, (∀ k ∈ ns, k ∈ m) → c ≤ m.length) → Q (.ref p) (upd H p (SetO w p (fun j => decide (j ∈ ns)) c))
theorem setLK {w : World} (hc : X.calm = true := by rfl) (hw : X.w = w := by rfl) (hK : X.K = K := by rfl) : CallR X (.type "set") (rSetL w K) := by
  subst hw hK
  intro pins s σ H vs us Q I r h
  obtain ⟨a, ns, rfl, hs, hz, q⟩ := h
  obtain ⟨its, rv, ht, _⟩ := I.list hs
  rw [Vals.ref1 r]
  have hi : IntsAre its.toArray.toList ns := by simpa using rv.ints
  refine set_of_list ns (I.ok.hd hc) ht.isList hi (Nat.lt_of_le_of_lt (Nat.succ_le_succ hz) (by decide)) fun h' tk c R hcl hk => ?_
  refine ⟨.ref _, _, I.laid hk (Nat.le_refl _) (setO_new R), rfl, q _ c (I.hok.fresh (Nat.le_refl _)) hcl fun m hm => ?_⟩
  obtain ⟨o, es, ep, t, _, _, _, _, nd, mem, _, _, sz, _⟩ := R
  have le : (es.toList.map keyOf).length ≤ m.length := nd.length_le_of_subset fun k hk => hm k (of_decide_eq_true ((mem k).2 hk))
  rw [List.length_map, Array.length_toList, sz] at le
  exact le
theorem pe_revLK {e : Expr} {te : TE} {k : Nat} {p1 p2 p3 pos : Pos} (he : PE X e te) (hK : X.K = K := by rfl) : PE X (.Subscript e (.Slice none none (some (.UnaryOp .USub (.Constant (.int 1) k p1) p2)) p3) pos) (tRevL K te) := hK ▸ pe_revL he
end
end RL
/-! t[::-1], t a tuple. -/
namespace RL
open PySem PySem.Spec PyProof.Rows L2
theorem turned_pick (xs : Array Value) : ((List.range xs.size).filterMap fun (m : Nat) => xs[(((xs.size : Nat) : Int) - 1 + (m : Int) * (-1)).toNat]?).toArray = xs.toList.reverse.toArray := by
  congr 1
  have e : ∀ m ∈ List.range xs.size, xs[(((xs.size : Nat) : Int) - 1 + (m : Int) * (-1)).toNat]? = ((fun k => xs[k]?) ∘ fun k => xs.size - 1 - k) m := fun m hm => by
    have hm := List.mem_range.mp hm
    rw [show (((xs.size : Nat) : Int) - 1 + (m : Int) * (-1)).toNat = xs.size - 1 - m by omega]
    rfl
  have fc : ∀ (l : List Nat) (f g : Nat → Option Value), (∀ m ∈ l, f m = g m) → l.filterMap f = l.filterMap g := fun l f g h => by
    induction l with
    | nil => rfl
    | cons x l ih => rw [List.filterMap_cons, List.filterMap_cons, h x (by simp), ih fun m hm => h m (List.mem_cons_of_mem _ hm)]
  rw [fc _ _ _ e, ← List.filterMap_map, PySem.W.krv_range, List.filterMap_reverse, PySem.W.krv_all]
theorem turned_adjust (n : Nat) : Builtin.Slice.sliceAdjust none none (-1) (n : Int) = ((n : Int) - 1, -1) := by
  unfold Builtin.Slice.sliceAdjust
  simp
theorem turned_places (n : Nat) : Builtin.Slice.slicePlaces ((n : Int) - 1) (-1) (-1) = n := by
  unfold Builtin.Slice.slicePlaces
  have h1 : ¬ ((-1 : Int) > 0) := by decide
  simp only [h1, if_false, Int.neg_neg, Int.ediv_one]
  split <;> omega
section
variable {prog : Program} {w : World} {A : Around} {E : Value → Shared → Prop} {s : Shared}
theorem turned_applied {sl : Addr} {vl vu vs : Value} {n : Nat} {Q : Int × Int × Nat → Shared → Prop} (hs : s.heap.IsSliceOf sl vl vu vs) (pl : IsPart vl none) (pu : IsPart vu none) (ps : IsPart vs (some (-1)))
    (h : Q ((n : Int) - 1, -1, n) s) : wpAny (model prog w) A (Builtin.Slice.sliceApplied (.ref sl) (pure (n : Int))) Q E s := by
  obtain ⟨os, ho, hc, hd⟩ := id hs
  unfold Builtin.Slice.sliceApplied Builtin.Slice.sliceFields
  refine wpAny_bind (wpAny_bind (wpAny_field ho hd (x := vl) rfl (wpAny_bind (wpAny_field ho hd (x := vu) rfl (wpAny_bind (wpAny_field ho hd (x := vs) rfl (wpAny_pure ?_)))))))
  refine wpAny_bind (HT.slicePart_ ps ?_)
  show wpAny _ _ (if ((-1 : Int) == 0) = true then _ else _) _ _ s
  rw [if_neg (by decide)]
  refine wpAny_bind (HT.slicePart_ pl (wpAny_bind (HT.slicePart_ pu (wpAny_bind (wpAny_pure ?_)))))
  show wpAny _ _ (match Builtin.Slice.sliceAdjust none none (-1) (n : Int) with | (lo, hi) => pure (lo, (-1 : Int), Builtin.Slice.slicePlaces lo hi (-1))) _ _ s
  rw [turned_adjust]
  show wpAny _ _ (pure ((n : Int) - 1, (-1 : Int), Builtin.Slice.slicePlaces ((n : Int) - 1) (-1) (-1))) _ _ s
  rw [turned_places]
  exact wpAny_pure h
theorem turned_item {t sl : Addr} {items : Array Value} {vl vu vs : Value} {Q : Value → Shared → Prop} (ht : IsTup s.heap t items) (hs : s.heap.IsSliceOf sl vl vu vs) (pl : IsPart vl none) (pu : IsPart vu none) (ps : IsPart vs (some (-1)))
    (h : Q (.ref s.heap.objs.size) { s with heap := s.heap.push { cls := .type "tuple", data := .seq items.toList.reverse.toArray } }) (hz : items.size ≤ sizeLine) : wpAny (model prog w) A (getItem (.ref t) (.ref sl)) Q E s := by
  have fits : sizeOk (.seq items.toList.reverse.toArray) := by
    show items.toList.reverse.toArray.size ≤ sizeLine
    rw [List.size_toArray, List.length_reverse, Array.length_toList]
    exact hz
  obtain ⟨os, ho, hc, hd⟩ := id hs
  have ty : s.TypeIs (.ref sl) "slice" := ⟨os, ho, hc⟩
  unfold getItem
  try with_reducible refine wpAny_holding ?_
  first | refine wpAny_bind (wpAny_pure ?_) | skip
  refine wpAny_bind (wpAny_sequenceKey ht.typeIs (by decide) (wpAny_bind (wpAny_callSpecial?_slot (name := Str.ofString "__getitem__") ht.typeIs PyProof.Rows.slot_tuple_getitem (wpAny_call_entry PyProof.Rows.slot_tuple_getitem ht.typeIs PyProof.Rows.entry_tuple_getitem ?_ (PyProof.Rows.args_tuple_getitem _ _)))))
  show wpAny _ _ (Builtin.Tuple.tupleItemsOf (.ref t) >>= _) _ _ s
  refine wpAny_bind (tupleItemsOf_ ht (wpAny_bind (wpAny_typeOf ty ?_)))
  rw [if_pos (by decide)]
  refine wpAny_bind (turned_applied hs pl pu ps ?_)
  have no : ¬ ((((items.size : Nat) : Int) - 1 == 0 && (-1 : Int) == 1 && items.size == items.size) = true) := by simp
  show wpAny _ _ (if (((items.size : Nat) : Int) - 1 == 0 && (-1 : Int) == 1 && items.size == items.size) = true then _ else _) _ _ s
  rw [if_neg no, turned_pick]
  first
    | exact wpAny_bind (m := Builtin.Tuple.tupleExact _) (wpAny_newObj_type (wpAny_pure ⟨_, rfl, wpAny_pure h⟩) fits)
    | exact wpAny_bind (m := Builtin.Tuple.tupleExact _) (wpAny_newObj_type (wpAny_bind (wpAny_pure (wpAny_pure ⟨_, rfl, wpAny_pure h⟩))) fits)
    | exact wpAny_bind (wpAny_bind (m := Builtin.Tuple.tupleExact _) (wpAny_newObj_type (wpAny_pure (wpAny_pure ⟨_, rfl, wpAny_pure h⟩)) fits))
    | exact wpAny_bind (wpAny_bind (m := Builtin.Tuple.tupleExact _) (wpAny_newObj_type (wpAny_pure ⟨_, rfl, wpAny_pure h⟩) fits))
end
section
variable {X : Cx} {K : PySem.W.Frag}
theorem pe_revT {e : Expr} {te : TE} {k : Nat} {p1 p2 p3 pos : Pos} (he : PE X e te) (hK : X.K = K := by rfl) : PE X (.Subscript e (.Slice none none (some (.UnaryOp .USub (.Constant (.int 1) k p1) p2)) p3) pos) (tRevT K te) := by
  subst hK
  refine ⟨fun pins s σ H Q I h => Subscript_ (thn (he.run pins s σ H _ I h) fun v s1 ⟨x, H1, I1, r1, q1⟩ => ?_)⟩
  obtain ⟨a, xs, rfl, hx, q⟩ := q1
  cases r1
  have stp : PO X (some (.UnaryOp .USub (.Constant (.int 1) k p1) p2)) (tPart (tUn (rU fun i => .int (-i)) (tC (.int 1)))) := po_some (pe_un un_neg pe_int)
  refine wpAny_Slice (thn (po_none.run pins s1 σ H1 (fun o H2 => o = none ∧ H2 = H1) I1 ⟨rfl, rfl⟩) fun vl s2 ⟨l, H2, I2, pl, el, e2⟩ => ?_)
  subst el e2
  refine thn (po_none.run pins s2 σ H2 (fun o H3 => o = none ∧ H3 = H2) I2 ⟨rfl, rfl⟩) fun vu s3 ⟨u, H3, I3, pu, eu, e3⟩ => ?_
  subst eu e3
  refine thn (stp.run pins s3 σ H3 (fun o H4 => o = some (-1) ∧ H4 = H3) I3 ⟨1, rfl, -1, rfl, rfl, rfl⟩) fun vs s4 ⟨o, H4, I4, ps, eo, e4⟩ => ?_
  subst eo e4
  have I5 : Inv X pins σ H4 { s4 with heap := s4.heap.push { cls := .type "slice", data := .fields #[vl, vu, vs] } } := I4.kept (t' := s4.toks) fun b ob q => Heap.get?_push_of_some _ q
  obtain ⟨its, r, ht, hz⟩ := I5.tuple hx
  have len := r.length
  show wpAny (model X.prog X.w) X.A (subscriptTail e (.Slice none none (some (.UnaryOp .USub (.Constant (.int 1) k p1) p2)) p3) (.ref a) (.ref s4.heap.objs.size)) (EP X pins σ Q) X.xe { s4 with heap := s4.heap.push { cls := .type "slice", data := .fields #[vl, vu, vs] } }
  refine tail_any (ops := [.ref a, .ref s4.heap.objs.size]) ht.typeIs (PyProof.Rows.slot_tuple_getitem.lookup) ?_ (by with_unfolding_all rfl)
  refine turned_item ht (Heap.IsSliceOf.new _ vl vu vs) pl pu ps ?_ (by rw [List.size_toArray]; omega)
  refine ⟨.ref _, _, I5.laid (t' := s4.toks) (o := .tup xs.reverse) (fun b ob q => Heap.get?_push_of_some _ q) (Nat.le_refl _) ?_, rfl, q _ (I5.hok.fresh (Nat.le_refl _))⟩
  exact ⟨by rw [List.length_reverse]; exact hz, _, r.reverse, IsTup.new _ _⟩
theorem sumK (hc : X.calm = true := by rfl) (h : X.K = K := by rfl) : CallR X (.builtin "sum") (rSum K) := h ▸ cr_sum hc
theorem catA (h : X.K = K := by rfl) : OpR X (binaryOp .Add) (rCatA K) := h ▸ op_catA
theorem slTA (h : X.K = K := by rfl) : SlR X (rSlA K) := h ▸ sl_tupA
theorem same_new {H : Hp} {p : Addr} {o : HO} (h : H p = none) : Same H (upd H p o) := fun b u e => by
  rw [upd_ne (ne_of_none e h)]
  exact e
/-- t[lo:hi] of a tuple, whichever it is -/
def rSlS : V → Option Int → Option Int → Hp → VK → Prop := fun x lo hi H Q => ∃ a xs, x = .ref a ∧ H a = some (.tup xs) ∧ ∀ q H', H' q = some (.tup (cutV xs lo hi)) → Same H H' → Q (.ref q) H'
theorem slTS : SlR X rSlS := by
  intro pins s σ H x v vl vu lo hi sl Q I rx hs pl pu h
  obtain ⟨a, xs, rfl, ha, q⟩ := h
  refine sl_tupA pins s σ H (.ref a) v vl vu lo hi sl Q I rx hs pl pu ⟨a, xs, rfl, .inl (.inl ha), fun hw => q a H ?_ fun _ _ e => e, fun _ p hp => q p _ upd_same (same_new hp)⟩
  unfold cutV
  rw [hw.1, hw.2, List.drop_zero, Nat.sub_zero, List.take_length]
  exact ha
/-- t + u of two tuples, whichever it is -/
def rCatS : R2 := fun x y H Q => ∃ a b xs ys, x = .ref a ∧ y = .ref b ∧ H a = some (.tup xs) ∧ H b = some (.tup ys) ∧ xs.length + ys.length ≤ sizeLine ∧ ∀ q H', H' q = some (.tup (xs ++ ys)) → Same H H' → Q (.ref q) H'
theorem catS : OpR X (binaryOp .Add) rCatS := by
  intro pins s σ H x y v u Q I rx ry h
  obtain ⟨a, b, xs, ys, rfl, rfl, ha, hb, hz, q⟩ := h
  refine op_catA pins s σ H (.ref a) (.ref b) v u Q I rx ry ⟨a, b, xs, ys, rfl, rfl, .inl (.inl ha), .inl (.inl hb), hz, fun e => q b H ?_ fun _ _ e => e, fun _ e => q a H ?_ fun _ _ e => e, fun _ _ p hp => q p _ upd_same (same_new hp)⟩
  · rw [e]
    exact hb
  · rw [e, List.append_nil]
    exact ha
end
end RL
/-! zip of three things, each a list or a tuple. -/
namespace RL
open PySem PySem.Spec PyProof.Rows L2
abbrev IsTrip (h : Heap) (T : Addr) (a b c : Value) : Prop := h.get? T = some { cls := .type "tuple", data := .seq #[a, b, c] }
/-- what must not be the same -/
structure ZA3 (q ti to m1 m2 m3 d1 d2 d3 : Addr) : Prop where
  tiq : ti ≠ q
  toq : to ≠ q
  m1q : m1 ≠ q
  m2q : m2 ≠ q
  m3q : m3 ≠ q
  tito : ti ≠ to
  tim1 : ti ≠ m1
  tim2 : ti ≠ m2
  tim3 : ti ≠ m3
  tom1 : to ≠ m1
  tom2 : to ≠ m2
  tom3 : to ≠ m3
  m12 : m1 ≠ m2
  m13 : m1 ≠ m3
  m23 : m2 ≠ m3
  d1q : d1 ≠ q
  d2q : d2 ≠ q
  d3q : d3 ≠ q
  d2m1 : d2 ≠ m1
  d2to : d2 ≠ to
  d3m1 : d3 ≠ m1
  d3m2 : d3 ≠ m2
  d3to : d3 ≠ to
theorem za3_new {n d1 d2 d3 : Nat} (h1 : d1 < n) (h2 : d2 < n) (h3 : d3 < n) : ZA3 (n + 5) (n + 3) (n + 4) n (n + 1) (n + 2) d1 d2 d3 := by
  constructor <;> exact (show @Ne Nat _ _ from by omega)
section
variable {prog : Program} {w : World} {A : Around} {E : Value → Shared → Prop} {s : Shared}
theorem upd_trip {T : Addr} {a b c x : Value} {k : Nat} {Q : Unit → Shared → Prop} (hT : IsTrip s.heap T a b c)
    (h : ∀ g, g.get? T = some { cls := .type "tuple", data := .seq ((#[a, b, c] : Array Value).setIfInBounds k x) } → Heap.SameBut T s.heap g → Q () { s with heap := g }) : wpAny (model prog w) A (updateSeq T (·.setIfInBounds k x)) Q E s := by
  refine wpAny_updateSeq hT rfl (h _ ?_ (Heap.SameBut.update ..))
  rw [Heap.get?_update_self _ hT rfl]
  simp [Obj.mapSeq]
theorem z3_item {q ti to m1 m2 m3 d1 d2 d3 : Addr} {u1 u2 u3 : Bool} {n1 n2 n3 : Nat} {vs1 vs2 vs3 : Array Value} {x y z a b c : Value} {Q : Value → Shared → Prop} (D : ZA3 q ti to m1 m2 m3 d1 d2 d3)
    (zz : IsZip s.heap q ti to .none) (pi : IsTrip s.heap ti (.ref m1) (.ref m2) (.ref m3)) (po : IsTrip s.heap to a b c)
    (w1 : hIt u1 s.heap m1 d1 n1) (w2 : hIt u2 s.heap m2 d2 n2) (w3 : hIt u3 s.heap m3 d3 n3) (s1 : hSq u1 s.heap d1 vs1) (s2 : hSq u2 s.heap d2 vs2) (s3 : hSq u3 s.heap d3 vs3) (hx : vs1[n1]? = some x) (hy : vs2[n2]? = some y) (hz : vs3[n3]? = some z)
    (hq : ∀ g, IsZip g q ti to (rawInt s.heap.objs.size) → IsTrip g to x y z → hIt u1 g m1 d1 (n1 + 1) → hIt u2 g m2 d2 (n2 + 1) → hIt u3 g m3 d3 (n3 + 1) → IsTrip g s.heap.objs.size x y z → g.objs.size = s.heap.objs.size + 1 →
      (∀ e o, e ≠ q → e ≠ to → e ≠ m1 → e ≠ m2 → e ≠ m3 → s.heap.get? e = some o → g.get? e = some o) → Q (.ref s.heap.objs.size) { s with heap := g }) :
    wpAny (model prog w) A (Builtin.«zip.__next__» ⟨[.ref q], []⟩) (fun f s' => ∃ v, f = .done (.ret v) ∧ Q v s') E s := by
  show wpAny _ _ (field (.ref q) 2 >>= _) _ _ _
  refine wpAny_bind (wpAny_field zz rfl (x := .bool false) rfl ?_)
  show wpAny _ _ (field (.ref q) 3 >>= _) _ _ _
  refine wpAny_bind (wpAny_field zz rfl (x := .ref ti) rfl (wpAny_bind (wpAny_seqItems pi rfl ?_)))
  show wpAny _ _ (Builtin.SmallTypes.ownedTupleIsFree (.ref q) >>= _) _ _ _
  refine wpAny_bind ?_; unfold Builtin.SmallTypes.ownedTupleIsFree
  refine wpAny_bind (wpAny_field zz rfl (x := .none) rfl (wpAny_pure ?_))
  simp only [if_true]
  refine wpAny_bind (wpAny_rule (wpAny_bind (wpAny_field zz rfl (x := .ref to) rfl (wpAny_bind (wpAny_setField_rec zz (by simp) fun g1 zz1 b1 => ?_)))))
  replace zz1 : IsZip g1 q ti to .ellipsis := zz1
  refine wpAny_bind ?_
  simp only [List.zipIdx_nil, List.zipIdx_cons, List.forIn_nil, List.forIn_cons]
  refine wpAny_bind (wpAny_bind (wpAny_onRaise ?_))
  show wpAny _ _ (Builtin.SmallTypes.nextOf (.ref m1) >>= _) _ _ _
  refine wpAny_bind (half_item (w1.but b1.extBut D.m1q) (s1.but b1.extBut D.d1q) hx fun g2 v1 b2 => wpAny_pure ?_)
  have po2 : IsTrip g2 to a b c := b2.extBut _ _ D.tom1 (b1.extBut _ _ D.toq po)
  refine wpAny_bind (wpAny_seqItems po2 rfl (wpAny_bind (upd_trip po2 fun g3 po3 b3 => ?_)))
  replace po3 : IsTrip g3 to x b c := po3
  refine wpAny_bind (wpAny_letGo (wpAny_pure (wpAny_bind (wpAny_bind (wpAny_onRaise ?_)))))
  show wpAny _ _ (Builtin.SmallTypes.nextOf (.ref m2) >>= _) _ _ _
  refine wpAny_bind (half_item (((w2.but b1.extBut D.m2q).but b2.extBut D.m12.symm).but b3.extBut D.tom2.symm) (((s2.but b1.extBut D.d2q).but b2.extBut D.d2m1).but b3.extBut D.d2to) hy fun g4 v2 b4 => wpAny_pure ?_)
  have po4 : IsTrip g4 to x b c := b4.extBut _ _ D.tom2 po3
  refine wpAny_bind (wpAny_seqItems po4 rfl (wpAny_bind (upd_trip po4 fun g5 po5 b5 => ?_)))
  replace po5 : IsTrip g5 to x y c := po5
  refine wpAny_bind (wpAny_letGo (wpAny_pure (wpAny_bind (wpAny_bind (wpAny_onRaise ?_)))))
  show wpAny _ _ (Builtin.SmallTypes.nextOf (.ref m3) >>= _) _ _ _
  refine wpAny_bind (half_item (((((w3.but b1.extBut D.m3q).but b2.extBut D.m13.symm).but b3.extBut D.tom3.symm).but b4.extBut D.m23.symm).but b5.extBut D.tom3.symm) (((((s3.but b1.extBut D.d3q).but b2.extBut D.d3m1).but b3.extBut D.d3to).but b4.extBut D.d3m2).but b5.extBut D.d3to) hz fun g6 v3 b6 => wpAny_pure ?_)
  have po6 : IsTrip g6 to x y c := b6.extBut _ _ D.tom3 po5
  refine wpAny_bind (wpAny_seqItems po6 rfl (wpAny_bind (upd_trip po6 fun g7 po7 b7 => ?_)))
  replace po7 : IsTrip g7 to x y z := po7
  refine wpAny_bind (wpAny_letGo (wpAny_pure (wpAny_pure (wpAny_bind (wpAny_seqItems po7 rfl (wpAny_bind (wpAny_newTuple ?_)))))))
  have sz : g7.objs.size = s.heap.objs.size := by rw [b7.1, b6.1, b5.1, b4.1, b3.1, b2.1, b1.1]
  have zz7 : IsZip g7 q ti to .ellipsis := b7.extBut _ _ D.toq.symm (b6.extBut _ _ D.m3q.symm (b5.extBut _ _ D.toq.symm (b4.extBut _ _ D.m2q.symm (b3.extBut _ _ D.toq.symm (b2.extBut _ _ D.m1q.symm zz1)))))
  have old7 : ∀ e o, e ≠ q → e ≠ to → e ≠ m1 → e ≠ m2 → e ≠ m3 → s.heap.get? e = some o → g7.get? e = some o := fun e o c1 c2 c3 c4 c5 f => b7.extBut _ _ c2 (b6.extBut _ _ c5 (b5.extBut _ _ c2 (b4.extBut _ _ c4 (b3.extBut _ _ c2 (b2.extBut _ _ c3 (b1.extBut _ _ c1 f))))))
  have v17 : hIt u1 g7 m1 d1 (n1 + 1) := ((((v1.but b3.extBut D.tom1.symm).but b4.extBut D.m12).but b5.extBut D.tom1.symm).but b6.extBut D.m13).but b7.extBut D.tom1.symm
  have v27 : hIt u2 g7 m2 d2 (n2 + 1) := ((v2.but b5.extBut D.tom2.symm).but b6.extBut D.m23).but b7.extBut D.tom2.symm
  have v37 : hIt u3 g7 m3 d3 (n3 + 1) := v3.but b7.extBut D.tom3.symm
  have ql : q < g7.objs.size := Heap.lt_size zz7
  show wpAny _ _ (Builtin.SmallTypes.ownedTupleHandOut (.ref q) (.ref g7.objs.size) >>= _) _ _ _
  refine wpAny_bind ?_; unfold Builtin.SmallTypes.ownedTupleHandOut
  have zz8 : IsZip (g7.push { cls := .type "tuple", data := .seq #[x, y, z] }) q ti to .ellipsis := Heap.get?_push_of_some _ zz7
  refine wpAny_bind (wpAny_setField_rec zz8 (by simp) fun g9 zz9 b9 => ?_)
  replace zz9 : IsZip g9 q ti to (rawInt g7.objs.size) := zz9
  refine wpAny_setField_rec zz9 (by simp) fun g10 zz10 b10 => ?_
  replace zz10 : IsZip g10 q ti to (rawInt g7.objs.size) := zz10
  have up : ∀ e o, e ≠ q → g7.get? e = some o → g10.get? e = some o := fun e o c1 f => b10.extBut _ _ c1 (b9.extBut _ _ c1 (Heap.get?_push_of_some _ f))
  have t10 : IsTrip g10 g7.objs.size x y z := b10.extBut _ _ (Nat.ne_of_gt ql) (b9.extBut _ _ (Nat.ne_of_gt ql) (Heap.get?_push_size _ rfl))
  have sz10 : g10.objs.size = g7.objs.size + 1 := by rw [b10.1, b9.1, Heap.size_push]
  rw [sz] at zz10 t10 sz10
  refine wpAny_pure ⟨_, rfl, ?_⟩
  show Q (.ref g7.objs.size) _
  rw [sz]
  exact hq g10 zz10 (up _ _ D.toq po7) (v17.to fun o e => up _ o D.m1q e) (v27.to fun o e => up _ o D.m2q e) (v37.to fun o e => up _ o D.m3q e) t10 sz10 fun e o c1 c2 c3 c4 c5 f => up e o c1 (old7 e o c1 c2 c3 c4 c5 f)
theorem z3_end {q ti to m1 m2 m3 d1 d2 d3 : Addr} {u1 u2 u3 : Bool} {n1 n2 n3 : Nat} {vs1 vs2 vs3 : Array Value} {a b c : Value} {Q : Fin → Shared → Prop} (hh : A.handled = none) (D : ZA3 q ti to m1 m2 m3 d1 d2 d3)
    (zz : IsZip s.heap q ti to .none) (pi : IsTrip s.heap ti (.ref m1) (.ref m2) (.ref m3)) (po : IsTrip s.heap to a b c)
    (w1 : hIt u1 s.heap m1 d1 n1) (w2 : hIt u2 s.heap m2 d2 n2) (w3 : hIt u3 s.heap m3 d3 n3) (s1 : hSq u1 s.heap d1 vs1) (s2 : hSq u2 s.heap d2 vs2) (s3 : hSq u3 s.heap d3 vs3) (he : vs1[n1]? = none ∨ vs2[n2]? = none ∨ vs3[n3]? = none)
    (hE : ∀ g e, (∀ f o, f ≠ q → f ≠ to → f ≠ m1 → f ≠ m2 → f ≠ m3 → s.heap.get? f = some o → g.get? f = some o) → (∃ o, g.get? e = some o ∧ o.cls = .type "StopIteration") → E (.ref e) { s with heap := g }) :
    wpAny (model prog w) A (Builtin.«zip.__next__» ⟨[.ref q], []⟩) Q E s := by
  show wpAny _ _ (field (.ref q) 2 >>= _) _ _ _
  refine wpAny_bind (wpAny_field zz rfl (x := .bool false) rfl ?_)
  show wpAny _ _ (field (.ref q) 3 >>= _) _ _ _
  refine wpAny_bind (wpAny_field zz rfl (x := .ref ti) rfl (wpAny_bind (wpAny_seqItems pi rfl ?_)))
  show wpAny _ _ (Builtin.SmallTypes.ownedTupleIsFree (.ref q) >>= _) _ _ _
  refine wpAny_bind ?_; unfold Builtin.SmallTypes.ownedTupleIsFree
  refine wpAny_bind (wpAny_field zz rfl (x := .none) rfl (wpAny_pure ?_))
  simp only [if_true]
  refine wpAny_bind (wpAny_rule (wpAny_bind (wpAny_field zz rfl (x := .ref to) rfl (wpAny_bind (wpAny_setField_rec zz (by simp) fun g1 zz1 b1 => ?_)))))
  replace zz1 : IsZip g1 q ti to .ellipsis := zz1
  refine wpAny_bind ?_
  simp only [List.zipIdx_nil, List.zipIdx_cons, List.forIn_nil, List.forIn_cons]
  refine wpAny_bind (wpAny_bind (wpAny_onRaise ?_))
  show wpAny _ _ (Builtin.SmallTypes.nextOf (.ref m1) >>= _) _ _ _
  cases hx : vs1[n1]? with
  | none =>
    refine wpAny_bind (half_end hh (w1.but b1.extBut D.m1q) (s1.but b1.extBut D.d1q) hx fun g2 e b2 ⟨oe, hoe, hce⟩ => ?_)
    have zz2 : IsZip g2 q ti to .ellipsis := b2 _ _ D.m1q.symm zz1
    have ne : e ≠ q := fun x => by
      subst x
      rw [zz2] at hoe
      cases hoe
      simp at hce
    exact wpAny_setField_rec zz2 (by simp) fun g3 _ b3 => hE g3 e (fun f o c1 _ c3 _ _ x => b3.extBut _ _ c1 (b2 _ _ c3 (b1.extBut _ _ c1 x))) ⟨oe, b3.extBut _ _ ne hoe, hce⟩
  | some x =>
    refine wpAny_bind (half_item (w1.but b1.extBut D.m1q) (s1.but b1.extBut D.d1q) hx fun g2 v1 b2 => wpAny_pure ?_)
    have po2 : IsTrip g2 to a b c := b2.extBut _ _ D.tom1 (b1.extBut _ _ D.toq po)
    refine wpAny_bind (wpAny_seqItems po2 rfl (wpAny_bind (upd_trip po2 fun g3 po3 b3 => ?_)))
    replace po3 : IsTrip g3 to x b c := po3
    refine wpAny_bind (wpAny_letGo (wpAny_pure (wpAny_bind (wpAny_bind (wpAny_onRaise ?_)))))
    show wpAny _ _ (Builtin.SmallTypes.nextOf (.ref m2) >>= _) _ _ _
    cases hy : vs2[n2]? with
    | none =>
      refine wpAny_bind (half_end hh (((w2.but b1.extBut D.m2q).but b2.extBut D.m12.symm).but b3.extBut D.tom2.symm) (((s2.but b1.extBut D.d2q).but b2.extBut D.d2m1).but b3.extBut D.d2to) hy fun g4 e b4 ⟨oe, hoe, hce⟩ => ?_)
      have zz4 : IsZip g4 q ti to .ellipsis := b4 _ _ D.m2q.symm (b3.extBut _ _ D.toq.symm (b2.extBut _ _ D.m1q.symm zz1))
      have ne : e ≠ q := fun x => by
        subst x
        rw [zz4] at hoe
        cases hoe
        simp at hce
      exact wpAny_setField_rec zz4 (by simp) fun g5 _ b5 => hE g5 e (fun f o c1 c2 c3 c4 _ x => b5.extBut _ _ c1 (b4 _ _ c4 (b3.extBut _ _ c2 (b2.extBut _ _ c3 (b1.extBut _ _ c1 x))))) ⟨oe, b5.extBut _ _ ne hoe, hce⟩
    | some y =>
      have hz : vs3[n3]? = none := by
        rcases he with h | h | h
        · rw [hx] at h; cases h
        · rw [hy] at h; cases h
        · exact h
      refine wpAny_bind (half_item (((w2.but b1.extBut D.m2q).but b2.extBut D.m12.symm).but b3.extBut D.tom2.symm) (((s2.but b1.extBut D.d2q).but b2.extBut D.d2m1).but b3.extBut D.d2to) hy fun g4 v2 b4 => wpAny_pure ?_)
      have po4 : IsTrip g4 to x b c := b4.extBut _ _ D.tom2 po3
      refine wpAny_bind (wpAny_seqItems po4 rfl (wpAny_bind (upd_trip po4 fun g5 po5 b5 => ?_)))
      refine wpAny_bind (wpAny_letGo (wpAny_pure (wpAny_bind (wpAny_bind (wpAny_onRaise ?_)))))
      show wpAny _ _ (Builtin.SmallTypes.nextOf (.ref m3) >>= _) _ _ _
      refine wpAny_bind (half_end hh (((((w3.but b1.extBut D.m3q).but b2.extBut D.m13.symm).but b3.extBut D.tom3.symm).but b4.extBut D.m23.symm).but b5.extBut D.tom3.symm) (((((s3.but b1.extBut D.d3q).but b2.extBut D.d3m1).but b3.extBut D.d3to).but b4.extBut D.d3m2).but b5.extBut D.d3to) hz fun g6 e b6 ⟨oe, hoe, hce⟩ => ?_)
      have zz6 : IsZip g6 q ti to .ellipsis := b6 _ _ D.m3q.symm (b5.extBut _ _ D.toq.symm (b4.extBut _ _ D.m2q.symm (b3.extBut _ _ D.toq.symm (b2.extBut _ _ D.m1q.symm zz1))))
      have ne : e ≠ q := fun x => by
        subst x
        rw [zz6] at hoe
        cases hoe
        simp at hce
      exact wpAny_setField_rec zz6 (by simp) fun g7 _ b7 => hE g7 e (fun f o c1 c2 c3 c4 c5 x => b7.extBut _ _ c1 (b6 _ _ c5 (b5.extBut _ _ c2 (b4.extBut _ _ c4 (b3.extBut _ _ c2 (b2.extBut _ _ c3 (b1.extBut _ _ c1 x))))))) ⟨oe, b7.extBut _ _ ne hoe, hce⟩
theorem z3_next_item {q ti to m1 m2 m3 d1 d2 d3 : Addr} {u1 u2 u3 : Bool} {n1 n2 n3 : Nat} {vs1 vs2 vs3 : Array Value} {x y z a b c : Value} {Q : Option Value → Shared → Prop} (D : ZA3 q ti to m1 m2 m3 d1 d2 d3)
    (zz : IsZip s.heap q ti to .none) (pi : IsTrip s.heap ti (.ref m1) (.ref m2) (.ref m3)) (po : IsTrip s.heap to a b c)
    (w1 : hIt u1 s.heap m1 d1 n1) (w2 : hIt u2 s.heap m2 d2 n2) (w3 : hIt u3 s.heap m3 d3 n3) (s1 : hSq u1 s.heap d1 vs1) (s2 : hSq u2 s.heap d2 vs2) (s3 : hSq u3 s.heap d3 vs3) (hx : vs1[n1]? = some x) (hy : vs2[n2]? = some y) (hz : vs3[n3]? = some z)
    (hq : ∀ g, IsZip g q ti to (rawInt s.heap.objs.size) → IsTrip g to x y z → hIt u1 g m1 d1 (n1 + 1) → hIt u2 g m2 d2 (n2 + 1) → hIt u3 g m3 d3 (n3 + 1) → IsTrip g s.heap.objs.size x y z → g.objs.size = s.heap.objs.size + 1 →
      (∀ e o, e ≠ q → e ≠ to → e ≠ m1 → e ≠ m2 → e ≠ m3 → s.heap.get? e = some o → g.get? e = some o) → Q (some (.ref s.heap.objs.size)) { s with heap := g }) :
    wpAny (model prog w) A (pyNext (.ref q)) Q E s := by
  have ty : s.TypeIs (.ref q) "zip" := ⟨_, zz, rfl⟩
  unfold pyNext
  exact wpAny_bind (wpAny_attempt (wpAny_callSpecial?_slot (name := Str.ofString "__next__") ty F.slot_zip_next (wpAny_call_entry F.slot_zip_next ty F.entry_zip_next
    (z3_item D zz pi po w1 w2 w3 s1 s2 s3 hx hy hz fun g a1 a2 a3 a4 a5 a6 a7 a8 => wpAny_pure (hq g a1 a2 a3 a4 a5 a6 a7 a8)) (F.args_zip_next_1 _))))
theorem z3_next_end {q ti to m1 m2 m3 d1 d2 d3 : Addr} {u1 u2 u3 : Bool} {n1 n2 n3 : Nat} {vs1 vs2 vs3 : Array Value} {a b c : Value} {Q : Option Value → Shared → Prop} (hh : A.handled = none) (D : ZA3 q ti to m1 m2 m3 d1 d2 d3)
    (zz : IsZip s.heap q ti to .none) (pi : IsTrip s.heap ti (.ref m1) (.ref m2) (.ref m3)) (po : IsTrip s.heap to a b c)
    (w1 : hIt u1 s.heap m1 d1 n1) (w2 : hIt u2 s.heap m2 d2 n2) (w3 : hIt u3 s.heap m3 d3 n3) (s1 : hSq u1 s.heap d1 vs1) (s2 : hSq u2 s.heap d2 vs2) (s3 : hSq u3 s.heap d3 vs3) (he : vs1[n1]? = none ∨ vs2[n2]? = none ∨ vs3[n3]? = none)
    (hq : ∀ g, (∀ f o, f ≠ q → f ≠ to → f ≠ m1 → f ≠ m2 → f ≠ m3 → s.heap.get? f = some o → g.get? f = some o) → Q none { s with heap := g }) : wpAny (model prog w) A (pyNext (.ref q)) Q E s := by
  have ty : s.TypeIs (.ref q) "zip" := ⟨_, zz, rfl⟩
  unfold pyNext
  refine wpAny_bind (wpAny_attempt (wpAny_callSpecial?_slot (name := Str.ofString "__next__") ty F.slot_zip_next (wpAny_call_entry F.slot_zip_next ty F.entry_zip_next
    (z3_end hh D zz pi po w1 w2 w3 s1 s2 s3 he fun g e hk ⟨o, ho, hc⟩ => ?_) (F.args_zip_next_1 _))))
  exact wpAny_bind (wpAny_isInstance (T := "StopIteration") (b := true) ⟨o, ho, hc⟩ isSubtype_stop (wpAny_pure (hq _ hk)))
end
theorem z3_type (a b c : Value) : checkTypeCall "zip" ⟨[a, b, c], []⟩ = pure () := by kernel_rfl
theorem z3_newc (a b c : Value) : checkBuiltinCall "zip.__new__" ⟨[.type "zip", a, b, c], []⟩ = pure () := by kernel_rfl
theorem z3_init (a b c d : Value) : argsOk "object.__init__" ⟨[a, b, c, d], []⟩ := by
  unfold argsOk; rw [signature?_of (id := "object.__init__") (n := ['_', '_', 't', 'i', 'n', 'i', '_', '_']) (o := ['t', 'c', 'e', 'j', 'b', 'o']) (by kernel_rfl) F.owner_object]; kernel_rfl
abbrev z31 (h : Heap) (u1 : Bool) (d1 : Addr) : Heap := h.push (itO u1 d1)
abbrev z32 (h : Heap) (u1 u2 : Bool) (d1 d2 : Addr) : Heap := (z31 h u1 d1).push (itO u2 d2)
abbrev z33 (h : Heap) (u1 u2 u3 : Bool) (d1 d2 d3 : Addr) : Heap := (z32 h u1 u2 d1 d2).push (itO u3 d3)
abbrev z34 (h : Heap) (u1 u2 u3 : Bool) (d1 d2 d3 : Addr) : Heap := (z33 h u1 u2 u3 d1 d2 d3).push { cls := .type "tuple", data := .seq #[.ref h.objs.size, .ref (z31 h u1 d1).objs.size, .ref (z32 h u1 u2 d1 d2).objs.size] }
abbrev z35 (h : Heap) (u1 u2 u3 : Bool) (d1 d2 d3 : Addr) : Heap := (z34 h u1 u2 u3 d1 d2 d3).push { cls := .type "tuple", data := .seq #[.none, .none, .none] }
abbrev z36 (h : Heap) (u1 u2 u3 : Bool) (d1 d2 d3 : Addr) : Heap := (z35 h u1 u2 u3 d1 d2 d3).push { cls := .type "zip", data := .fields #[.none, .bool false, .bool false, .ref (z33 h u1 u2 u3 d1 d2 d3).objs.size, .ref (z34 h u1 u2 u3 d1 d2 d3).objs.size] }
theorem z3_made (u1 u2 u3 : Bool) (d1 d2 d3 : Addr) (vs1 vs2 vs3 : Array Value) :
    Meets (Builtin.«zip.__new__» ⟨[.type "zip", .ref d1, .ref d2, .ref d3], []⟩) (fun _ R s => hSq u1 s.heap d1 vs1 ∧ hSq u2 s.heap d2 vs2 ∧ hSq u3 s.heap d3 vs3 ∧ R (.ok (.ret (.ref (z35 s.heap u1 u2 u3 d1 d2 d3).objs.size))) { s with heap := z36 s.heap u1 u2 u3 d1 d2 d3 }) :=
  .of_wp fun prog w A R s h => by
    obtain ⟨hp, g, d, tk, os⟩ := s
    obtain ⟨k1, k2, k3, h⟩ := h
    have sub := sub_zip
    have K1 : hSq u1 (Shared.heap ⟨hp, g, d, tk, os⟩) d1 vs1 := k1
    have K2 : hSq u2 (Shared.heap ⟨hp.push (itO u1 d1), g, d, tk, os⟩) d2 vs2 := k2.push _
    have K3 : hSq u3 (Shared.heap ⟨(hp.push (itO u1 d1)).push (itO u2 d2), g, d, tk, os⟩) d3 vs3 := (k3.push _).push _
    wp_walk using half_iter K1, half_iter K2, half_iter K3
    exact ⟨_, rfl, h⟩
theorem z3_call {prog : Program} {w : World} {A : Around} {E : Value → Shared → Prop} {s : Shared} {u1 u2 u3 : Bool} {d1 d2 d3 : Addr} {vs1 vs2 vs3 : Array Value} {Q : Value → Shared → Prop} (s1 : hSq u1 s.heap d1 vs1) (s2 : hSq u2 s.heap d2 vs2) (s3 : hSq u3 s.heap d3 vs3)
    (h : ∀ g, IsZip g (s.heap.objs.size + 5) (s.heap.objs.size + 3) (s.heap.objs.size + 4) .none → IsTrip g (s.heap.objs.size + 3) (.ref s.heap.objs.size) (.ref (s.heap.objs.size + 1)) (.ref (s.heap.objs.size + 2)) → IsTrip g (s.heap.objs.size + 4) .none .none .none → hIt u1 g s.heap.objs.size d1 0 → hIt u2 g (s.heap.objs.size + 1) d2 0 → hIt u3 g (s.heap.objs.size + 2) d3 0 →
      (∀ c o, s.heap.get? c = some o → g.get? c = some o) → Q (.ref (s.heap.objs.size + 5)) { s with heap := g }) :
    wpAny (model prog w) A (call (.type "zip") [.ref d1, .ref d2, .ref d3]) Q E s := by
  refine callType_new F.called_zip (by decide) (z3_type _ _ _) (z3_newc _ _ _) (fun ob => z3_init ob _ _ _) F.entry_zip_new (z3_made u1 u2 u3 d1 d2 d3 vs1 vs2 vs3) ⟨s1, s2, s3, ?_⟩
  have e1 : (z31 s.heap u1 d1).objs.size = s.heap.objs.size + 1 := Heap.size_push ..
  have e2 : (z32 s.heap u1 u2 d1 d2).objs.size = s.heap.objs.size + 2 := by rw [Heap.size_push, e1]
  have e3 : (z33 s.heap u1 u2 u3 d1 d2 d3).objs.size = s.heap.objs.size + 3 := by rw [Heap.size_push, e2]
  have e4 : (z34 s.heap u1 u2 u3 d1 d2 d3).objs.size = s.heap.objs.size + 4 := by rw [Heap.size_push, e3]
  have e5 : (z35 s.heap u1 u2 u3 d1 d2 d3).objs.size = s.heap.objs.size + 5 := by rw [Heap.size_push, e4]
  have f6 : (z36 s.heap u1 u2 u3 d1 d2 d3).get? (z35 s.heap u1 u2 u3 d1 d2 d3).objs.size = some _ := Heap.get?_push_size _ rfl
  have f5 : (z36 s.heap u1 u2 u3 d1 d2 d3).get? (z34 s.heap u1 u2 u3 d1 d2 d3).objs.size = some _ := Heap.get?_push_of_some _ (Heap.get?_push_size _ rfl)
  have f4 : (z36 s.heap u1 u2 u3 d1 d2 d3).get? (z33 s.heap u1 u2 u3 d1 d2 d3).objs.size = some _ := Heap.get?_push_of_some _ (Heap.get?_push_of_some _ (Heap.get?_push_size _ rfl))
  have f3 : (z36 s.heap u1 u2 u3 d1 d2 d3).get? (z32 s.heap u1 u2 d1 d2).objs.size = some _ := Heap.get?_push_of_some _ (Heap.get?_push_of_some _ (Heap.get?_push_of_some _ (Heap.get?_push_size _ (itO_free u3 d3))))
  have f2 : (z36 s.heap u1 u2 u3 d1 d2 d3).get? (z31 s.heap u1 d1).objs.size = some _ := Heap.get?_push_of_some _ (Heap.get?_push_of_some _ (Heap.get?_push_of_some _ (Heap.get?_push_of_some _ (Heap.get?_push_size _ (itO_free u2 d2)))))
  have f1 : (z36 s.heap u1 u2 u3 d1 d2 d3).get? s.heap.objs.size = some _ := Heap.get?_push_of_some _ (Heap.get?_push_of_some _ (Heap.get?_push_of_some _ (Heap.get?_push_of_some _ (Heap.get?_push_of_some _ (Heap.get?_push_size _ (itO_free u1 d1))))))
  show _ ∧ _
  rw [e3, e4, e5] at f6
  rw [e1, e2, e3] at f4
  rw [e4] at f5
  rw [e2] at f3
  rw [e1] at f2
  rw [e5]
  exact ⟨⟨_, f6, rfl⟩, h _ f6 f4 f5 (itO_is f1) (itO_is f2) (itO_is f3) fun c o x => Heap.get?_push_of_some _ (Heap.get?_push_of_some _ (Heap.get?_push_of_some _ (Heap.get?_push_of_some _ (Heap.get?_push_of_some _ (Heap.get?_push_of_some _ x)))))⟩
def Itz3 (u1 u2 u3 : Bool) (K : PySem.W.Frag) (a b c : Addr) : It :=
  ⟨fun i H => ∃ (xs ys zs : List V) (x y z : V), SqH u1 K H a xs ∧ SqH u2 K H b ys ∧ SqH u3 K H c zs ∧ xs[i]? = some x ∧ ys[i]? = some y ∧ zs[i]? = some z,
    fun i H v H' => ∃ T x y z, v = .ref T ∧ H T = none ∧ H' = upd H T (.tup [x, y, z]) ∧ (∀ xs, SqH u1 K H a xs → xs[i]? = some x) ∧ (∀ ys, SqH u2 K H b ys → ys[i]? = some y) ∧ ∀ zs, SqH u3 K H c zs → zs[i]? = some z,
    fun i H => ∃ xs ys zs : List V, SqH u1 K H a xs ∧ SqH u2 K H b ys ∧ SqH u3 K H c zs ∧ (xs.length ≤ i ∨ ys.length ≤ i ∨ zs.length ≤ i)⟩
theorem turn_z3 {P : Program} {w : World} {K : PySem.W.Frag} {elts : List Expr} {kk : Nat} {tpos : Pos} {u1 u2 u3 : Bool} {a b c q ti to m1 m2 m3 : Addr} (D : ZA3 q ti to m1 m2 m3 a b c) :
    Turn P w K (.Tuple elts kk tpos) (Itz3 u1 u2 u3 K a b c) [q, ti, to, m1, m2, m3] q (fun i h => IsZip h q ti to .none ∧ IsTrip h ti (.ref m1) (.ref m2) (.ref m3) ∧ (∃ x y z, IsTrip h to x y z) ∧ hIt u1 h m1 a i ∧ hIt u2 h m2 b i ∧ hIt u3 h m3 c i) where
  mem := by simp
  obj := fun i h st e he => by
    obtain ⟨zz, pi, ⟨x, y, z, po⟩, w1, w2, w3⟩ := st
    have e' : e = q ∨ e = ti ∨ e = to ∨ e = m1 ∨ e = m2 ∨ e = m3 := by simpa using he
    rcases e' with r | r | r | r | r | r
    · rw [r]; exact ⟨_, zz, fun v e => nomatch e⟩
    · rw [r]; exact ⟨_, pi, fun v e => nomatch e⟩
    · rw [r]; exact ⟨_, po, fun v e => nomatch e⟩
    · rw [r]; exact w1.obj
    · rw [r]; exact w2.obj
    · rw [r]; exact w3.obj
  keep := fun i h h' st k => by
    obtain ⟨zz, pi, ⟨x, y, z, po⟩, w1, w2, w3⟩ := st
    exact ⟨k q (by simp) _ zz, k ti (by simp) _ pi, ⟨x, y, z, k to (by simp) _ po⟩, w1.to fun o e => k m1 (by simp) o e, w2.to fun o e => k m2 (by simp) o e, w3.to fun o e => k m3 (by simp) o e⟩
  item := by
    intro X hP hw hK hc i pins s σ H E I hf st hg
    subst hP hw hK
    obtain ⟨zz, pi, ⟨x0, y0, z0, po⟩, w1, w2, w3⟩ := st
    obtain ⟨xs, ys, zs, x, y, z, hqx, hqy, hqz, hx, hy, hz⟩ := hg
    obtain ⟨its, rv, p, _⟩ := inv_half I hqx
    obtain ⟨its2, rv2, p2, _⟩ := inv_half I hqy
    obtain ⟨its3, rv3, p3, _⟩ := inv_half I hqz
    obtain ⟨v, hv, ru⟩ := rv.get hx
    obtain ⟨v2, hv2, ru2⟩ := rv2.get hy
    obtain ⟨v3, hv3, ru3⟩ := rv3.get hz
    have ql : q < s.heap.objs.size := Heap.lt_size zz
    refine z3_next_item D zz pi po w1 w2 w3 p p2 p3 (x := v) (y := v2) (z := v3) (by simpa using hv) (by simpa using hv2) (by simpa using hv3) fun g z1 po1 w11 w21 w31 hT hsz hk => ?_
    refine ⟨_, rfl, wpAny_letOwnedTupleGo_zip (s := { s with heap := g }) z1 fun g2 z2 sb => ?_⟩
    have hT2 : g2.get? s.heap.objs.size = some { cls := .type "tuple", data := .seq #[v, v2, v3] } := (sb.2 _ (Nat.ne_of_gt ql)).trans hT
    have new : ObjOk X.prog X.w (upd H s.heap.objs.size (.tup [x, y, z])) g2 s.heap.objs.size (.tup [x, y, z]) := ⟨by show 3 ≤ sizeLine; decide, [v, v2, v3], .cons ru (.cons ru2 (.cons ru3 .nil)), ⟨_, hT2, rfl, _, rfl⟩⟩
    have I1 : Inv X pins σ (upd H s.heap.objs.size (.tup [x, y, z])) { s with heap := g2 } := I.turnedNew (t' := s.toks) (ch := [q, ti, to, m1, m2, m3])
      (fun e o hb f => (sb.2 e (fun r => hb (by simp [r]))).trans (hk e o (fun r => hb (by simp [r])) (fun r => hb (by simp [r])) (fun r => hb (by simp [r])) (fun r => hb (by simp [r])) (fun r => hb (by simp [r])) f)) hf (Nat.le_refl _) new
    refine ⟨.ref s.heap.objs.size, _, I1, rfl, ⟨_, x, y, z, rfl, I.hok.fresh (Nat.le_refl _), rfl, fun l hl => by rw [inv_half_inj I hl hqx]; exact hx, fun l hl => by rw [inv_half_inj I hl hqy]; exact hy, fun l hl => by rw [inv_half_inj I hl hqz]; exact hz⟩, ⟨z2, ?_, ⟨v, v2, v3, ?_⟩, ?_, ?_, ?_⟩, fun e hem => ?_⟩
    · exact (sb.2 _ D.tiq).trans (hk _ _ D.tiq D.tito D.tim1 D.tim2 D.tim3 pi)
    · exact (sb.2 _ D.toq).trans po1
    · exact w11.to fun o e => (sb.2 _ D.m1q).trans e
    · exact w21.to fun o e => (sb.2 _ D.m2q).trans e
    · exact w31.to fun o e => (sb.2 _ D.m3q).trans e
    · have lt : e < s.heap.objs.size := by
        have e' : e = q ∨ e = ti ∨ e = to ∨ e = m1 ∨ e = m2 ∨ e = m3 := by simpa using hem
        rcases e' with r | r | r | r | r | r
        · rw [r]; exact ql
        · rw [r]; exact Heap.lt_size pi
        · rw [r]; exact Heap.lt_size po
        · rw [r]; exact w1.small
        · rw [r]; exact w2.small
        · rw [r]; exact w3.small
      rw [upd_ne (Nat.ne_of_lt lt)]
      exact (hf e hem).1
  done := by
    intro X hP hw hK hc i pins s σ H E I hf st hg
    subst hP hw hK
    obtain ⟨zz, pi, ⟨x0, y0, z0, po⟩, w1, w2, w3⟩ := st
    obtain ⟨xs, ys, zs, hqx, hqy, hqz, hend⟩ := hg
    obtain ⟨its, rv, p, _⟩ := inv_half I hqx
    obtain ⟨its2, rv2, p2, _⟩ := inv_half I hqy
    obtain ⟨its3, rv3, p3, _⟩ := inv_half I hqz
    have l1 := rv.length
    have l2 := rv2.length
    have l3 := rv3.length
    have he : its.toArray[i]? = none ∨ its2.toArray[i]? = none ∨ its3.toArray[i]? = none := hend.imp (fun z => by simp; omega) fun h => h.imp (fun z => by simp; omega) fun z => by simp; omega
    exact z3_next_end (I.ok.hd hc) D zz pi po w1 w2 w3 p p2 p3 he fun g hk => ⟨rfl, I.turnedL (t' := s.toks) (ch := [q, ti, to, m1, m2, m3]) (fun e o hb f =>
      hk e o (fun r => hb (by simp [r])) (fun r => hb (by simp [r])) (fun r => hb (by simp [r])) (fun r => hb (by simp [r])) (fun r => hb (by simp [r])) f) hf⟩
  self := fun A i s Q E st h => wpAny_pyIter_zip st.1 h
/-- a new triple of the i-th of each -/
def YTrip (xs ys zs : Nat → Option V) : Nat → Hp → V → Hp → Prop := fun i H v H' => ∃ T x y z, v = .ref T ∧ H T = none ∧ H' = upd H T (.tup [x, y, z]) ∧ xs i = some x ∧ ys i = some y ∧ zs i = some z
section
variable {X : Cx} {K : PySem.W.Frag}
def iZ3 (u1 u2 u3 : Bool) (K : PySem.W.Frag) (ta : TA) : TI := fun σ H R => ta σ H fun vs H1 => ∃ a b c xs ys zs, vs = [.ref a, .ref b, .ref c] ∧ SqH u1 K H1 a xs ∧ SqH u2 K H1 b ys ∧ SqH u3 K H1 c zs ∧ R (Itz3 u1 u2 u3 K a b c) H1
theorem pi_z3 (u1 u2 u3 : Bool) {e e2 e3 : Expr} {ta : TA} {p pos tpos : Pos} {elts : List Expr} {kk : Nat} (hg : Gl X "zip") (hm : X.mg "zip" = none) (ha : PA X [e, e2, e3] ta)
    (hs : starEach [e, e2, e3] X.env = (false, eval e X.env) :: starEach [e2, e3] X.env := by rfl) (hpl : (backTo pos (starEach [e2, e3] X.env)).any (·.1) = false := by rfl) (hK : X.K = K := by rfl) :
    PI X (.Tuple elts kk tpos) (.Call (.Name "zip" p) [e, e2, e3] [] pos) (iZ3 u1 u2 u3 K ta) := by
  subst hK
  refine ⟨fun pins s σ H R I h => ?_⟩
  refine Call_ (ld_blt I hg hm PyProof.Rows.boot_zip (PyProof.Rows.callWith_type1 (thn (ha.run pos pins s σ H _ I h) fun us s1 ⟨vs, H1, I1, r1, q1⟩ => ?_) hs hpl))
  obtain ⟨a, b, c, xs, ys, zs, rfl, hqx, hqy, hqz, q⟩ := q1
  cases r1 with
  | cons r rr =>
    cases rr with
    | cons r' rr =>
      cases rr with
      | cons r'' rr =>
        cases rr
        cases r
        cases r'
        cases r''
        have new6 : ∀ d, d ∈ [s1.heap.objs.size + 5, s1.heap.objs.size + 3, s1.heap.objs.size + 4, s1.heap.objs.size, s1.heap.objs.size + 1, s1.heap.objs.size + 2] → FpOk X pins H1 d := fun d hd => by
          have le : s1.heap.objs.size ≤ d := by
            simp only [List.mem_cons, List.not_mem_nil, or_false] at hd
            rcases hd with z | z | z | z | z | z <;> rw [z] <;> first | exact Nat.le_refl _ | exact Nat.le_add_right _ _
          exact I1.fpOk le (I1.hok.fresh le)
        obtain ⟨its, rv, p1, lt1⟩ := inv_half I1 hqx
        obtain ⟨its2, rv2, p2, lt2⟩ := inv_half I1 hqy
        obtain ⟨its3, rv3, p3, lt3⟩ := inv_half I1 hqz
        refine z3_call p1 p2 p3 fun g zz pi po w1 w2 w3 hk => wpAny_pyIter_zip zz ?_
        have I2 : Inv X pins σ H1 { s1 with heap := g } := I1.kept (t' := s1.toks) hk
        exact ⟨s1.heap.objs.size + 5, [s1.heap.objs.size + 5, s1.heap.objs.size + 3, s1.heap.objs.size + 4, s1.heap.objs.size, s1.heap.objs.size + 1, s1.heap.objs.size + 2], _, _, H1, rfl, I2, turn_z3 (za3_new lt1 lt2 lt3), ⟨zz, pi, ⟨_, _, _, po⟩, w1, w2, w3⟩, new6, q⟩
theorem walk_z3 {u1 u2 u3 : Bool} {a b c : Addr} {xs ys zs : List V} {n : Nat} (hn : n = min xs.length (min ys.length zs.length)) : Walk (Itz3 u1 u2 u3 K a b c) n (fun H => SqH u1 K H a xs ∧ SqH u2 K H b ys ∧ SqH u3 K H c zs) (YTrip (fun i => xs[i]?) (fun i => ys[i]?) (fun i => zs[i]?)) := by
  subst hn
  refine ⟨fun i H hi q => ⟨xs, ys, zs, xs[i]'(by omega), ys[i]'(by omega), zs[i]'(by omega), q.1, q.2.1, q.2.2, List.getElem?_eq_getElem _, List.getElem?_eq_getElem _, List.getElem?_eq_getElem _⟩, fun H q => ⟨xs, ys, zs, q.1, q.2.1, q.2.2, by omega⟩, fun i H v H' hi q y => ?_⟩
  obtain ⟨T, x, y, z, h1, h2, h3, h4, h5, h6⟩ := y
  exact ⟨T, x, y, z, h1, h2, h3, h4 xs q.1, h5 ys q.2.1, h6 zs q.2.2⟩
end
end RL
/-! enumerate(zip(a, b)), each of both a list or a tuple. -/
namespace RL
open PySem PySem.Spec PyProof.Rows L2
/-- a zip, whatever became of the tuple that it told last -/
abbrev zObj (own : Value) (fl : Bool) (ti to : Addr) : Obj := { cls := .type "zip", dict := none, data := .fields #[own, .bool fl, .bool false, .ref ti, .ref to], slots := #[] }
def ZAny (h : Heap) (q ti to : Addr) : Prop := h.get? q = some (zObj .none false ti to) ∨ ∃ (T : Addr) (fl : Bool), h.get? q = some (zObj (rawInt T) fl ti to)
theorem ZAny.ex {h : Heap} {q ti to : Addr} (z : ZAny h q ti to) : ∃ own fl, h.get? q = some (zObj own fl ti to) := by
  rcases z with z | ⟨T, fl, z⟩
  · exact ⟨_, _, z⟩
  · exact ⟨_, _, z⟩
theorem ZAny.to {h g : Heap} {q ti to : Addr} (z : ZAny h q ti to) (e : ∀ o, h.get? q = some o → g.get? q = some o) : ZAny g q ti to := by
  rcases z with z | ⟨T, fl, z⟩
  · exact .inl (e _ z)
  · exact .inr ⟨T, fl, e _ z⟩
section
variable {prog : Program} {w : World} {A : Around} {E : Value → Shared → Prop} {s : Shared}
theorem alive_any {a : Addr} {Q : Option Obj → Shared → Prop} (h : Q (s.heap.get? a) s) : wpAny (model prog w) A (loadIfAlive a) Q E s := fun _ _ _ => h
theorem own_ask {q ti to : Addr} {Q : Bool → Shared → Prop} (z : ZAny s.heap q ti to) (free : Q true s) (held : ∀ g (T : Addr), g.get? q = some (zObj (rawInt T) true ti to) → Heap.SameBut q s.heap g → Q false { s with heap := g }) :
    wpAny (model prog w) A (Builtin.SmallTypes.ownedTupleIsFree (.ref q)) Q E s := by
  unfold Builtin.SmallTypes.ownedTupleIsFree
  rcases z with z | ⟨T, fl, z⟩
  · exact wpAny_bind (wpAny_field z rfl (x := .none) rfl (wpAny_pure free))
  · refine wpAny_bind (wpAny_field z rfl (x := rawInt T) rfl ?_)
    show wpAny _ _ (loadIfAlive ((T : Int).toNat) >>= _) _ _ s
    rw [Int.toNat_natCast]
    refine wpAny_bind (alive_any ?_)
    cases e : s.heap.get? T with
    | none => exact wpAny_pure free
    | some oT =>
      show wpAny _ _ (field (.ref q) 1 >>= _) _ _ s
      refine wpAny_bind (wpAny_field z rfl (x := .bool fl) rfl ?_)
      cases fl with
      | true => exact wpAny_pure (held s.heap T z (Heap.SameBut.refl _ _))
      | false => exact wpAny_bind (wpAny_setField_rec z (by simp) fun g z1 b1 => wpAny_pure (held g T z1 b1))
theorem zx_item {q ti to m1 m2 d1 d2 : Addr} {u1 u2 : Bool} {n1 n2 : Nat} {vs1 vs2 : Array Value} {x y a b : Value} {Q : Value → Shared → Prop} (D : ZipApart q ti to m1 m2 d1 d2)
    (zz : ZAny s.heap q ti to) (pi : IsPair s.heap ti (.ref m1) (.ref m2)) (po : IsPair s.heap to a b)
    (w1 : hIt u1 s.heap m1 d1 n1) (w2 : hIt u2 s.heap m2 d2 n2) (s1 : hSq u1 s.heap d1 vs1) (s2 : hSq u2 s.heap d2 vs2) (hx : vs1[n1]? = some x) (hy : vs2[n2]? = some y)
    (hq : ∀ g, ZAny g q ti to → (∃ a b, IsPair g to a b) → hIt u1 g m1 d1 (n1 + 1) → hIt u2 g m2 d2 (n2 + 1) → IsPair g s.heap.objs.size x y → g.objs.size = s.heap.objs.size + 1 →
      (∀ c o, c ≠ q → c ≠ to → c ≠ m1 → c ≠ m2 → s.heap.get? c = some o → g.get? c = some o) → Q (.ref s.heap.objs.size) { s with heap := g }) :
    wpAny (model prog w) A (Builtin.«zip.__next__» ⟨[.ref q], []⟩) (fun f s' => ∃ v, f = .done (.ret v) ∧ Q v s') E s := by
  obtain ⟨own, fl, z0⟩ := zz.ex
  show wpAny _ _ (field (.ref q) 2 >>= _) _ _ _
  refine wpAny_bind (wpAny_field z0 rfl (x := .bool false) rfl ?_)
  show wpAny _ _ (field (.ref q) 3 >>= _) _ _ _
  refine wpAny_bind (wpAny_field z0 rfl (x := .ref ti) rfl (wpAny_bind (wpAny_seqItems pi rfl ?_)))
  show wpAny _ _ (Builtin.SmallTypes.ownedTupleIsFree (.ref q) >>= _) _ _ _
  refine wpAny_bind (own_ask zz ?free fun g1 T z1 b1 => ?held)
  case free =>
    simp only [if_true]
    refine wpAny_bind (wpAny_rule (wpAny_bind (wpAny_field z0 rfl (x := .ref to) rfl (wpAny_bind (wpAny_setField_rec z0 (by simp) fun g1 zz1 b1 => ?_)))))
    replace zz1 : g1.get? q = some (zObj .ellipsis fl ti to) := zz1
    refine wpAny_bind ?_
    simp only [List.zipIdx_nil, List.zipIdx_cons, List.forIn_nil, List.forIn_cons]
    refine wpAny_bind (wpAny_bind (wpAny_onRaise ?_))
    show wpAny _ _ (Builtin.SmallTypes.nextOf (.ref m1) >>= _) _ _ _
    refine wpAny_bind (half_item (w1.but b1.extBut D.i1z) (s1.but b1.extBut D.l1z) hx fun g2 v1 b2 => wpAny_pure ?_)
    have po2 : IsPair g2 to a b := b2.extBut _ _ D.TOi1 (b1.extBut _ _ D.TOz po)
    refine wpAny_bind (wpAny_seqItems po2 rfl (wpAny_bind (wpAny_updateSeq_pair po2 fun g3 po3 b3 => ?_)))
    replace po3 : IsPair g3 to x b := po3
    refine wpAny_bind (wpAny_letGo (wpAny_pure (wpAny_bind (wpAny_bind (wpAny_onRaise ?_)))))
    show wpAny _ _ (Builtin.SmallTypes.nextOf (.ref m2) >>= _) _ _ _
    refine wpAny_bind (half_item (((w2.but b1.extBut D.i2z).but b2.extBut D.i12.symm).but b3.extBut D.TOi2.symm) (((s2.but b1.extBut D.l2z).but b2.extBut D.l2i1).but b3.extBut D.l2TO) hy fun g4 v2 b4 => wpAny_pure ?_)
    have po4 : IsPair g4 to x b := b4.extBut _ _ D.TOi2 po3
    refine wpAny_bind (wpAny_seqItems po4 rfl (wpAny_bind (wpAny_updateSeq_pair po4 fun g5 po5 b5 => ?_)))
    replace po5 : IsPair g5 to x y := po5
    refine wpAny_bind (wpAny_letGo (wpAny_pure (wpAny_pure (wpAny_bind (wpAny_seqItems po5 rfl (wpAny_bind (wpAny_newTuple ?_)))))))
    have sz : g5.objs.size = s.heap.objs.size := by rw [b5.1, b4.1, b3.1, b2.1, b1.1]
    have zz5 : g5.get? q = some (zObj .ellipsis fl ti to) := b5.extBut _ _ D.TOz.symm (b4.extBut _ _ D.i2z.symm (b3.extBut _ _ D.TOz.symm (b2.extBut _ _ D.i1z.symm zz1)))
    have old5 : ∀ c o, c ≠ q → c ≠ to → c ≠ m1 → c ≠ m2 → s.heap.get? c = some o → g5.get? c = some o := fun c o c1 c2 c3 c4 e => b5.extBut _ _ c2 (b4.extBut _ _ c4 (b3.extBut _ _ c2 (b2.extBut _ _ c3 (b1.extBut _ _ c1 e))))
    have v15 : hIt u1 g5 m1 d1 (n1 + 1) := ((v1.but b3.extBut D.TOi1.symm).but b4.extBut D.i12).but b5.extBut D.TOi1.symm
    have v25 : hIt u2 g5 m2 d2 (n2 + 1) := v2.but b5.extBut D.TOi2.symm
    have ql : q < g5.objs.size := Heap.lt_size zz5
    show wpAny _ _ (Builtin.SmallTypes.ownedTupleHandOut (.ref q) (.ref g5.objs.size) >>= _) _ _ _
    refine wpAny_bind ?_; unfold Builtin.SmallTypes.ownedTupleHandOut
    have zz6 : (g5.push { cls := .type "tuple", data := .seq #[x, y] }).get? q = some (zObj .ellipsis fl ti to) := Heap.get?_push_of_some _ zz5
    refine wpAny_bind (wpAny_setField_rec zz6 (by simp) fun g7 zz7 b7 => ?_)
    replace zz7 : g7.get? q = some (zObj (rawInt g5.objs.size) fl ti to) := zz7
    refine wpAny_setField_rec zz7 (by simp) fun g8 zz8 b8 => ?_
    replace zz8 : g8.get? q = some (zObj (rawInt g5.objs.size) false ti to) := zz8
    have up : ∀ c o, c ≠ q → g5.get? c = some o → g8.get? c = some o := fun c o c1 e => b8.extBut _ _ c1 (b7.extBut _ _ c1 (Heap.get?_push_of_some _ e))
    have t8 : IsPair g8 g5.objs.size x y := b8.extBut _ _ (Nat.ne_of_gt ql) (b7.extBut _ _ (Nat.ne_of_gt ql) (Heap.get?_push_size _ rfl))
    have sz8 : g8.objs.size = g5.objs.size + 1 := by rw [b8.1, b7.1, Heap.size_push]
    rw [sz] at zz8 t8 sz8
    refine wpAny_pure ⟨_, rfl, ?_⟩
    show Q (.ref g5.objs.size) _
    rw [sz]
    exact hq g8 (.inr ⟨_, _, zz8⟩) ⟨_, _, up _ _ D.TOz po5⟩ (v15.to fun o e => up _ o D.i1z e) (v25.to fun o e => up _ o D.i2z e) t8 sz8 fun c o c1 c2 c3 c4 e => up c o c1 (old5 c o c1 c2 c3 c4 e)
  case held =>
    simp only [Bool.false_eq_true, if_false]
    refine wpAny_bind ?_
    rw [← Array.forIn_toList]
    simp only [List.forIn_cons, List.forIn_nil]
    refine wpAny_bind (wpAny_bind (wpAny_holding ?_))
    show wpAny _ _ (Builtin.SmallTypes.nextOf (.ref m1) >>= _) _ _ _
    refine wpAny_bind (half_item (s := { s with heap := g1 }) (w1.but b1.extBut D.i1z) (s1.but b1.extBut D.l1z) hx fun g2 v1 b2 => wpAny_pure (wpAny_pure ?_))
    refine wpAny_bind (wpAny_bind (wpAny_holding ?_))
    show wpAny _ _ (Builtin.SmallTypes.nextOf (.ref m2) >>= _) _ _ _
    refine wpAny_bind (half_item (s := { s with heap := g2 }) ((w2.but b1.extBut D.i2z).but b2.extBut D.i12.symm) ((s2.but b1.extBut D.l2z).but b2.extBut D.l2i1) hy fun g3 v2 b3 => wpAny_pure (wpAny_pure (wpAny_pure ?_)))
    show wpAny _ _ (newTuple [x, y] >>= _) _ _ _
    refine wpAny_bind (wpAny_newTuple (wpAny_pure ⟨_, rfl, ?_⟩))
    have sz : g3.objs.size = s.heap.objs.size := by rw [b3.1, b2.1, b1.1]
    have z3 : g3.get? q = some (zObj (rawInt T) true ti to) := b3.extBut _ _ D.i2z.symm (b2.extBut _ _ D.i1z.symm z1)
    have old3 : ∀ c o, c ≠ q → c ≠ m1 → c ≠ m2 → s.heap.get? c = some o → g3.get? c = some o := fun c o c1 c3 c4 e => b3.extBut _ _ c4 (b2.extBut _ _ c3 (b1.extBut _ _ c1 e))
    have tp : IsPair (g3.push { cls := .type "tuple", data := .seq #[x, y] }) g3.objs.size x y := Heap.get?_push_size _ rfl
    have sz4 : (g3.push { cls := .type "tuple", data := .seq #[x, y] }).objs.size = g3.objs.size + 1 := Heap.size_push ..
    show Q (.ref g3.objs.size) _
    rw [sz] at tp sz4 ⊢
    refine hq _ (.inr ⟨T, true, Heap.get?_push_of_some _ z3⟩) ⟨a, b, Heap.get?_push_of_some _ (old3 _ _ D.TOz D.TOi1 D.TOi2 po)⟩ ((v1.but b3.extBut D.i12).to fun o e => Heap.get?_push_of_some _ e) (v2.to fun o e => Heap.get?_push_of_some _ e) tp sz4 fun c o c1 c2 c3 c4 e => Heap.get?_push_of_some _ (old3 c o c1 c3 c4 e)
theorem zx_end {q ti to m1 m2 d1 d2 : Addr} {u1 u2 : Bool} {n1 n2 : Nat} {vs1 vs2 : Array Value} {a b : Value} {Q : Fin → Shared → Prop} (hh : A.handled = none) (D : ZipApart q ti to m1 m2 d1 d2)
    (zz : ZAny s.heap q ti to) (pi : IsPair s.heap ti (.ref m1) (.ref m2)) (po : IsPair s.heap to a b)
    (w1 : hIt u1 s.heap m1 d1 n1) (w2 : hIt u2 s.heap m2 d2 n2) (s1 : hSq u1 s.heap d1 vs1) (s2 : hSq u2 s.heap d2 vs2) (he : vs1[n1]? = none ∨ vs2[n2]? = none)
    (hE : ∀ g e, (∀ c o, c ≠ q → c ≠ to → c ≠ m1 → c ≠ m2 → s.heap.get? c = some o → g.get? c = some o) → (∃ o, g.get? e = some o ∧ o.cls = .type "StopIteration") → E (.ref e) { s with heap := g }) :
    wpAny (model prog w) A (Builtin.«zip.__next__» ⟨[.ref q], []⟩) Q E s := by
  obtain ⟨own, fl, z0⟩ := zz.ex
  show wpAny _ _ (field (.ref q) 2 >>= _) _ _ _
  refine wpAny_bind (wpAny_field z0 rfl (x := .bool false) rfl ?_)
  show wpAny _ _ (field (.ref q) 3 >>= _) _ _ _
  refine wpAny_bind (wpAny_field z0 rfl (x := .ref ti) rfl (wpAny_bind (wpAny_seqItems pi rfl ?_)))
  show wpAny _ _ (Builtin.SmallTypes.ownedTupleIsFree (.ref q) >>= _) _ _ _
  refine wpAny_bind (own_ask zz ?free fun g1 T z1 b1 => ?held)
  case free =>
    simp only [if_true]
    refine wpAny_bind (wpAny_rule (wpAny_bind (wpAny_field z0 rfl (x := .ref to) rfl (wpAny_bind (wpAny_setField_rec z0 (by simp) fun g1 zz1 b1 => ?_)))))
    replace zz1 : g1.get? q = some (zObj .ellipsis fl ti to) := zz1
    refine wpAny_bind ?_
    simp only [List.zipIdx_nil, List.zipIdx_cons, List.forIn_nil, List.forIn_cons]
    refine wpAny_bind (wpAny_bind (wpAny_onRaise ?_))
    show wpAny _ _ (Builtin.SmallTypes.nextOf (.ref m1) >>= _) _ _ _
    cases hx : vs1[n1]? with
    | none =>
      refine wpAny_bind (half_end hh (w1.but b1.extBut D.i1z) (s1.but b1.extBut D.l1z) hx fun g2 e b2 ⟨oe, hoe, hce⟩ => ?_)
      have zz2 : g2.get? q = some (zObj .ellipsis fl ti to) := b2 _ _ D.i1z.symm zz1
      have ne : e ≠ q := fun x => by
        subst x
        rw [zz2] at hoe
        cases hoe
        simp at hce
      exact wpAny_setField_rec zz2 (by simp) fun g3 _ b3 => hE g3 e (fun c o c1 _ c3 _ x => b3.extBut _ _ c1 (b2 _ _ c3 (b1.extBut _ _ c1 x))) ⟨oe, b3.extBut _ _ ne hoe, hce⟩
    | some x =>
      have hy : vs2[n2]? = none := he.elim (fun z => by rw [hx] at z; cases z) id
      refine wpAny_bind (half_item (w1.but b1.extBut D.i1z) (s1.but b1.extBut D.l1z) hx fun g2 v1 b2 => wpAny_pure ?_)
      have po2 : IsPair g2 to a b := b2.extBut _ _ D.TOi1 (b1.extBut _ _ D.TOz po)
      refine wpAny_bind (wpAny_seqItems po2 rfl (wpAny_bind (wpAny_updateSeq_pair po2 fun g3 po3 b3 => ?_)))
      refine wpAny_bind (wpAny_letGo (wpAny_pure (wpAny_bind (wpAny_bind (wpAny_onRaise ?_)))))
      show wpAny _ _ (Builtin.SmallTypes.nextOf (.ref m2) >>= _) _ _ _
      refine wpAny_bind (half_end hh (((w2.but b1.extBut D.i2z).but b2.extBut D.i12.symm).but b3.extBut D.TOi2.symm) (((s2.but b1.extBut D.l2z).but b2.extBut D.l2i1).but b3.extBut D.l2TO) hy fun g4 e b4 ⟨oe, hoe, hce⟩ => ?_)
      have zz4 : g4.get? q = some (zObj .ellipsis fl ti to) := b4 _ _ D.i2z.symm (b3.extBut _ _ D.TOz.symm (b2.extBut _ _ D.i1z.symm zz1))
      have ne : e ≠ q := fun x => by
        subst x
        rw [zz4] at hoe
        cases hoe
        simp at hce
      exact wpAny_setField_rec zz4 (by simp) fun g5 _ b5 => hE g5 e (fun c o c1 c2 c3 c4 x => b5.extBut _ _ c1 (b4 _ _ c4 (b3.extBut _ _ c2 (b2.extBut _ _ c3 (b1.extBut _ _ c1 x))))) ⟨oe, b5.extBut _ _ ne hoe, hce⟩
  case held =>
    simp only [Bool.false_eq_true, if_false]
    refine wpAny_bind ?_
    rw [← Array.forIn_toList]
    simp only [List.forIn_cons, List.forIn_nil]
    refine wpAny_bind (wpAny_bind (wpAny_holding ?_))
    show wpAny _ _ (Builtin.SmallTypes.nextOf (.ref m1) >>= _) _ _ _
    cases hx : vs1[n1]? with
    | none => exact wpAny_bind (half_end (s := { s with heap := g1 }) hh (w1.but b1.extBut D.i1z) (s1.but b1.extBut D.l1z) hx fun g2 e b2 z => hE g2 e (fun c o c1 _ c3 _ x => b2 _ _ c3 (b1.extBut _ _ c1 x)) z)
    | some x =>
      have hy : vs2[n2]? = none := he.elim (fun z => by rw [hx] at z; cases z) id
      refine wpAny_bind (half_item (s := { s with heap := g1 }) (w1.but b1.extBut D.i1z) (s1.but b1.extBut D.l1z) hx fun g2 v1 b2 => wpAny_pure (wpAny_pure ?_))
      refine wpAny_bind (wpAny_bind (wpAny_holding ?_))
      show wpAny _ _ (Builtin.SmallTypes.nextOf (.ref m2) >>= _) _ _ _
      exact wpAny_bind (half_end (s := { s with heap := g2 }) hh ((w2.but b1.extBut D.i2z).but b2.extBut D.i12.symm) ((s2.but b1.extBut D.l2z).but b2.extBut D.l2i1) hy fun g3 e b3 z => hE g3 e (fun c o c1 _ c3 c4 x => b3 _ _ c4 (b2.extBut _ _ c3 (b1.extBut _ _ c1 x))) z)
/-- the next of an enumerate over such a zip -/
theorem ez_item {e q ti to m1 m2 d1 d2 : Addr} {u1 u2 : Bool} {i n1 n2 : Nat} {vs1 vs2 : Array Value} {x y a b old : Value} {Q : Value → Shared → Prop} (D : ZipApart q ti to m1 m2 d1 d2) (eq : e ≠ q) (eto : e ≠ to) (e1 : e ≠ m1) (e2 : e ≠ m2)
    (he : IsEnum s.heap e q ((i : Nat) : Int) old) (zz : ZAny s.heap q ti to) (pi : IsPair s.heap ti (.ref m1) (.ref m2)) (po : IsPair s.heap to a b)
    (w1 : hIt u1 s.heap m1 d1 n1) (w2 : hIt u2 s.heap m2 d2 n2) (s1 : hSq u1 s.heap d1 vs1) (s2 : hSq u2 s.heap d2 vs2) (hx : vs1[n1]? = some x) (hy : vs2[n2]? = some y)
    (hq : ∀ g, IsEnumOut g e q (((i : Nat) : Int) + 1) (.ref s.heap.objs.size) (s.heap.objs.size + 1) → ZAny g q ti to → (∃ a b, IsPair g to a b) → hIt u1 g m1 d1 (n1 + 1) → hIt u2 g m2 d2 (n2 + 1) → IsPair g s.heap.objs.size x y →
      IsPair g (s.heap.objs.size + 1) (.int i s.toks) (.ref s.heap.objs.size) →
      (∀ c o, c ≠ e → c ≠ q → c ≠ to → c ≠ m1 → c ≠ m2 → s.heap.get? c = some o → g.get? c = some o) → Q (.ref (s.heap.objs.size + 1)) { s with heap := g, toks := s.toks + 1 }) :
    wpAny (model prog w) A (Builtin.«enumerate.__next__» ⟨[.ref e], []⟩) (fun f s' => ∃ v, f = .done (.ret v) ∧ Q v s') E s := by
  obtain ⟨hp, gg, d, tk, os⟩ := s
  have ty : (⟨hp, gg, d, tk, os⟩ : Shared).TypeIs (.ref q) "zip" := by
    obtain ⟨own, fl, z0⟩ := zz.ex
    exact ⟨_, z0, rfl⟩
  have el : e < hp.objs.size := Heap.lt_size he
  show wpAny _ _ (field (.ref e) 2 >>= _) _ _ _
  refine wpAny_bind (wpAny_field he rfl (x := .ref q) rfl ?_)
  refine wpAny_bind ?_
  unfold Builtin.SmallTypes.nextOf
  refine wpAny_bind (wpAny_callSpecial?_slot (name := Str.ofString "__next__") ty F.slot_zip_next (wpAny_call_entry F.slot_zip_next ty F.entry_zip_next (zx_item D zz pi po w1 w2 s1 s2 hx hy fun g1 z1 po1 v1 v2 t1 sz1 k1 => wpAny_pure ?_) (F.args_zip_next_1 _)))
  have E1 : IsEnum g1 e q ((i : Nat) : Int) old := k1 _ _ eq eto e1 e2 he
  show wpAny _ _ (field (.ref e) 3 >>= _) _ _ ⟨g1, gg, d, tk, os⟩
  refine wpAny_bind (wpAny_field E1 rfl (x := rawInt ((i : Nat) : Int)) rfl ?_)
  show wpAny _ _ (field (.ref e) 4 >>= _) _ _ ⟨g1, gg, d, tk, os⟩
  refine wpAny_bind (wpAny_field E1 rfl (x := .none) rfl ?_)
  show wpAny _ _ (mkInt ((i : Nat) : Int) >>= _) _ _ ⟨g1, gg, d, tk, os⟩
  refine wpAny_bind (wpAny_mkInt ?_)
  show wpAny _ _ (setField (.ref e) 3 (rawInt (((i : Nat) : Int) + 1)) >>= _) _ _ ⟨g1, gg, d, tk + 1, os⟩
  refine wpAny_bind (wpAny_setField_rec E1 (by simp) fun g2 E2 b2 => ?_)
  replace E2 : IsEnum g2 e q (((i : Nat) : Int) + 1) old := E2
  replace b2 : Heap.SameBut e g1 g2 := b2
  show wpAny _ _ (setField (.ref e) 4 .none >>= _) _ _ ⟨g2, gg, d, tk + 1, os⟩
  refine wpAny_bind (wpAny_setField_rec E2 (by simp) fun g3 E3 b3 => ?_)
  replace E3 : IsEnum g3 e q (((i : Nat) : Int) + 1) old := E3
  replace b3 : Heap.SameBut e g2 g3 := b3
  show wpAny _ _ (newTuple [.int i tk, .ref hp.objs.size] >>= _) _ _ ⟨g3, gg, d, tk + 1, os⟩
  refine wpAny_bind (wpAny_newTuple ?_)
  have sz3 : g3.objs.size = hp.objs.size + 1 := by rw [b3.1, b2.1, sz1]
  have E4 : IsEnum (g3.push { cls := .type "tuple", data := .seq #[.int i tk, .ref hp.objs.size] }) e q (((i : Nat) : Int) + 1) old := Heap.get?_push_of_some _ E3
  have t4 : IsPair (g3.push { cls := .type "tuple", data := .seq #[.int i tk, .ref hp.objs.size] }) (hp.objs.size + 1) (.int i tk) (.ref hp.objs.size) := by
    rw [← sz3]
    exact Heap.get?_push_size _ rfl
  have up4 : ∀ c o, c ≠ e → g1.get? c = some o → (g3.push { cls := .type "tuple", data := .seq #[.int i tk, .ref hp.objs.size] }).get? c = some o := fun c o c1 x => Heap.get?_push_of_some _ (b3.extBut _ _ c1 (b2.extBut _ _ c1 x))
  generalize g3.push { cls := .type "tuple", data := .seq #[.int i tk, .ref hp.objs.size] } = g4 at E4 t4 up4
  show wpAny _ _ (Builtin.SmallTypes.ownedTupleIsFree (.ref e) >>= _) _ _ ⟨g4, gg, d, tk + 1, os⟩
  rw [sz3]
  refine wpAny_bind ?_
  unfold Builtin.SmallTypes.ownedTupleIsFree
  refine wpAny_bind (wpAny_field E4 rfl (x := .none) rfl (wpAny_pure ?_))
  simp only [if_true]
  refine wpAny_bind (wpAny_rule (wpAny_bind (wpAny_field E4 rfl (x := old) rfl (wpAny_bind (wpAny_setField_rec E4 (by simp) fun g5 E5 b5 => ?_)))))
  replace E5 : IsEnum g5 e q (((i : Nat) : Int) + 1) (.ref hp.objs.size) := E5
  replace b5 : Heap.SameBut e g4 g5 := b5
  show wpAny _ _ (Builtin.SmallTypes.ownedTupleHandOut (.ref e) (.ref (hp.objs.size + 1)) >>= _) _ _ ⟨g5, gg, d, tk + 1, os⟩
  refine wpAny_bind ?_
  unfold Builtin.SmallTypes.ownedTupleHandOut
  refine wpAny_bind (wpAny_setField_rec E5 (by simp) fun g6 E6 b6 => ?_)
  replace E6 : IsEnumOut g6 e q (((i : Nat) : Int) + 1) (.ref hp.objs.size) (hp.objs.size + 1) := E6
  replace b6 : Heap.SameBut e g5 g6 := b6
  refine wpAny_setField_rec E6 (by simp) fun g7 E7 b7 => ?_
  replace E7 : IsEnumOut g7 e q (((i : Nat) : Int) + 1) (.ref hp.objs.size) (hp.objs.size + 1) := E7
  replace b7 : Heap.SameBut e g6 g7 := b7
  have up7 : ∀ c o, c ≠ e → g4.get? c = some o → g7.get? c = some o := fun c o c1 x => b7.extBut _ _ c1 (b6.extBut _ _ c1 (b5.extBut _ _ c1 x))
  have up : ∀ c o, c ≠ e → g1.get? c = some o → g7.get? c = some o := fun c o c1 x => up7 c o c1 (up4 c o c1 x)
  refine wpAny_bind (wpAny_letGo (wpAny_pure ⟨_, rfl, hq g7 E7 (z1.to fun o x => up _ o eq.symm x) ?_ (v1.to fun o x => up _ o e1.symm x) (v2.to fun o x => up _ o e2.symm x) (up _ _ (Nat.ne_of_gt el) t1) (up7 _ _ (Nat.ne_of_gt (Nat.lt_succ_of_lt el)) t4) fun c o c0 c1 c2 c3 c4 x => up c o c0 (k1 c o c1 c2 c3 c4 x)⟩))
  obtain ⟨a', b', po1⟩ := po1
  exact ⟨a', b', up _ _ eto.symm po1⟩
theorem ez_end {e q ti to m1 m2 d1 d2 : Addr} {u1 u2 : Bool} {n1 n2 : Nat} {i : Int} {vs1 vs2 : Array Value} {a b old : Value} {Q : Option Value → Shared → Prop} (hh : A.handled = none) (D : ZipApart q ti to m1 m2 d1 d2)
    (he : IsEnum s.heap e q i old) (zz : ZAny s.heap q ti to) (pi : IsPair s.heap ti (.ref m1) (.ref m2)) (po : IsPair s.heap to a b)
    (w1 : hIt u1 s.heap m1 d1 n1) (w2 : hIt u2 s.heap m2 d2 n2) (s1 : hSq u1 s.heap d1 vs1) (s2 : hSq u2 s.heap d2 vs2) (hz : vs1[n1]? = none ∨ vs2[n2]? = none)
    (hq : ∀ g, (∀ c o, c ≠ q → c ≠ to → c ≠ m1 → c ≠ m2 → s.heap.get? c = some o → g.get? c = some o) → Q none { s with heap := g }) : wpAny (model prog w) A (pyNext (.ref e)) Q E s := by
  have te : s.TypeIs (.ref e) "enumerate" := ⟨_, he, rfl⟩
  have ty : s.TypeIs (.ref q) "zip" := by
    obtain ⟨own, fl, z0⟩ := zz.ex
    exact ⟨_, z0, rfl⟩
  unfold pyNext
  refine wpAny_bind (wpAny_attempt (wpAny_callSpecial?_slot (name := Str.ofString "__next__") te F.slot_enumerate_next (wpAny_call_entry F.slot_enumerate_next te F.entry_enumerate_next ?_ (F.args_enumerate_next_1 _))))
  show wpAny _ _ (field (.ref e) 2 >>= _) _ _ _
  refine wpAny_bind (wpAny_field he rfl (x := .ref q) rfl ?_)
  refine wpAny_bind ?_
  unfold Builtin.SmallTypes.nextOf
  refine wpAny_bind (wpAny_callSpecial?_slot (name := Str.ofString "__next__") ty F.slot_zip_next (wpAny_call_entry F.slot_zip_next ty F.entry_zip_next (zx_end hh D zz pi po w1 w2 s1 s2 hz fun g x hk ⟨o, ho, hc⟩ => ?_) (F.args_zip_next_1 _)))
  exact wpAny_bind (wpAny_isInstance (T := "StopIteration") (b := true) ⟨o, ho, hc⟩ isSubtype_stop (wpAny_pure (hq _ hk)))
set_option maxHeartbeats 1000000 in
theorem meets_enum_zip (q ti to : Addr) :
    Meets (Builtin.«enumerate.__new__» ⟨[.type "enumerate", .ref q], []⟩) (fun _ R s => IsZip s.heap q ti to .none ∧
      R (.ok (.ret (.ref s.heap.objs.size))) { s with heap := s.heap.push { cls := .type "enumerate", data := .fields #[.none, .bool false, .ref q, rawInt 0, .none, .none] } }) :=
  .of_wp fun P0 w0 A R s hh => by
    obtain ⟨hp, g, d, tk, os⟩ := s
    have hsub := sub_enumerate
    have draw : ∀ {A1 : Around} {E1 : Value → Shared → Prop} {Q1 : Value → Shared → Prop}, Q1 (.ref q) ⟨hp, g, d, tk, os⟩ → wpAny (model P0 w0) A1 (pyIter (.ref q)) Q1 E1 ⟨hp, g, d, tk, os⟩ :=
      fun z => wpAny_pyIter_zip hh.1 z
    have fin := hh.2
    wp_walk using draw
    refine wpAny_stack_any fun st => wpAny_pure ?_
    split
    · rename_i c _ _ _ _ _
      cases (c == Value.type "enumerate")
      all_goals
        wp_walk using draw
        exact ⟨_, rfl, fin⟩
    · wp_walk using draw
      exact ⟨_, rfl, fin⟩
theorem call_enum_zip {q ti to : Addr} {Q : Value → Shared → Prop} (hz : IsZip s.heap q ti to .none)
    (h : ∀ g, IsEnum g s.heap.objs.size q 0 .none → (∀ b o, s.heap.get? b = some o → g.get? b = some o) → Q (.ref s.heap.objs.size) { s with heap := g }) :
    wpAny (model prog w) A (call (.type "enumerate") [.ref q]) Q E s := by
  refine callType_new F.called_enumerate (by decide) (F.typeCall_enumerate_1 _) (F.newCall_enumerate_1 _) (fun ob => F.args_object_init_2 ob _) F.entry_enumerate_new (meets_enum_zip q ti to) ⟨hz, ?_⟩
  have g2 : (s.heap.push { cls := .type "enumerate", data := .fields #[.none, .bool false, .ref q, rawInt 0, .none, .none] }).get? s.heap.objs.size = some { cls := .type "enumerate", data := .fields #[.none, .bool false, .ref q, rawInt 0, .none, .none] } := Heap.get?_push_size _ rfl
  show _ ∧ _
  exact ⟨⟨_, g2, rfl⟩, h _ g2 fun b o e => Heap.get?_push_of_some _ e⟩
end
/-- pairs of both, in new pairs with their numbers -/
def Itez (u1 u2 : Bool) (K : PySem.W.Frag) (a b : Addr) : It :=
  ⟨fun i H => ∃ (xs ys : List V) (x y : V), SqH u1 K H a xs ∧ SqH u2 K H b ys ∧ xs[i]? = some x ∧ ys[i]? = some y,
    fun i H v H' => ∃ T U x y, v = .ref U ∧ H T = none ∧ H U = none ∧ T ≠ U ∧ H' = upd (upd H T (.tup [x, y])) U (.tup [.int (i : Nat), .ref T]) ∧ (∀ xs, SqH u1 K H a xs → xs[i]? = some x) ∧ ∀ ys, SqH u2 K H b ys → ys[i]? = some y,
    fun i H => ∃ xs ys : List V, SqH u1 K H a xs ∧ SqH u2 K H b ys ∧ (xs.length ≤ i ∨ ys.length ≤ i)⟩
theorem turn_ez {P : Program} {w : World} {K : PySem.W.Frag} {elts : List Expr} {kk : Nat} {tpos : Pos} {u1 u2 : Bool} {a b e q ti to m1 m2 : Addr} (D : ZipApart q ti to m1 m2 a b) (eq : e ≠ q) (eti : e ≠ ti) (eto : e ≠ to) (e1 : e ≠ m1) (e2 : e ≠ m2) :
    Turn P w K (.Tuple elts kk tpos) (Itez u1 u2 K a b) [e, q, ti, to, m1, m2] e (fun i h => (∃ old, IsEnum h e q ((i : Nat) : Int) old) ∧ ZAny h q ti to ∧ IsPair h ti (.ref m1) (.ref m2) ∧ (∃ x y, IsPair h to x y) ∧ hIt u1 h m1 a i ∧ hIt u2 h m2 b i) where
  mem := by simp
  obj := fun i h st c hc => by
    obtain ⟨⟨old, he⟩, zz, pi, ⟨x, y, po⟩, w1, w2⟩ := st
    obtain ⟨own, fl, z0⟩ := zz.ex
    have z : c = e ∨ c = q ∨ c = ti ∨ c = to ∨ c = m1 ∨ c = m2 := by simpa using hc
    rcases z with z | z | z | z | z | z
    · rw [z]; exact ⟨_, he, fun v e => nomatch e⟩
    · rw [z]; exact ⟨_, z0, fun v e => nomatch e⟩
    · rw [z]; exact ⟨_, pi, fun v e => nomatch e⟩
    · rw [z]; exact ⟨_, po, fun v e => nomatch e⟩
    · rw [z]; exact w1.obj
    · rw [z]; exact w2.obj
  keep := fun i h h' st k => by
    obtain ⟨⟨old, he⟩, zz, pi, ⟨x, y, po⟩, w1, w2⟩ := st
    exact ⟨⟨old, k e (by simp) _ he⟩, zz.to fun o z => k q (by simp) o z, k ti (by simp) _ pi, ⟨x, y, k to (by simp) _ po⟩, w1.to fun o e => k m1 (by simp) o e, w2.to fun o e => k m2 (by simp) o e⟩
  item := by
    intro X hP hw hK hc i pins s σ H E I hf st hg
    subst hP hw hK
    obtain ⟨⟨old, he⟩, zz, pi, ⟨x0, y0, po⟩, w1, w2⟩ := st
    obtain ⟨xs, ys, x, y, hqx, hqy, hx, hy⟩ := hg
    obtain ⟨its, rv, p, _⟩ := inv_half I hqx
    obtain ⟨its2, rv2, p2, _⟩ := inv_half I hqy
    obtain ⟨v, hv, ru⟩ := rv.get hx
    obtain ⟨v2, hv2, ru2⟩ := rv2.get hy
    have el : e < s.heap.objs.size := Heap.lt_size he
    have ql : q < s.heap.objs.size := by
      obtain ⟨own, fl, z0⟩ := zz.ex
      exact Heap.lt_size z0
    have te : s.TypeIs (.ref e) "enumerate" := ⟨_, he, rfl⟩
    have lt : ∀ c, c ∈ [e, q, ti, to, m1, m2] → c < s.heap.objs.size := fun c hcm => by
      have z : c = e ∨ c = q ∨ c = ti ∨ c = to ∨ c = m1 ∨ c = m2 := by simpa using hcm
      rcases z with z | z | z | z | z | z
      · rw [z]; exact el
      · rw [z]; exact ql
      · rw [z]; exact Heap.lt_size pi
      · rw [z]; exact Heap.lt_size po
      · rw [z]; exact w1.small
      · rw [z]; exact w2.small
    unfold pyNext
    refine wpAny_bind (wpAny_attempt (wpAny_callSpecial?_slot (name := Str.ofString "__next__") te F.slot_enumerate_next (wpAny_call_entry F.slot_enumerate_next te F.entry_enumerate_next
      (ez_item D eq eto e1 e2 he zz pi po w1 w2 p p2 (x := v) (y := v2) (by simpa using hv) (by simpa using hv2) fun g E1 z1 po1 v11 v21 t1 t2 hk => wpAny_pure ?_) (F.args_enumerate_next_1 _))))
    refine ⟨_, rfl, wpAny_letOwnedTupleGo_enum (s := { s with heap := g, toks := s.toks + 1 }) E1 fun g2 he2 sb => ?_⟩
    have nn : ∀ c, s.heap.objs.size ≤ c → c ∉ [e, q, ti, to, m1, m2] := fun c hc2 hm => absurd (lt c hm) (Nat.not_lt.mpr hc2)
    have ne1 : s.heap.objs.size ≠ e := Nat.ne_of_gt el
    have ne2 : s.heap.objs.size + 1 ≠ e := Nat.ne_of_gt (Nat.lt_succ_of_lt el)
    have T1 : g2.get? s.heap.objs.size = some { cls := .type "tuple", data := .seq #[v, v2] } := (sb.2 _ ne1).trans t1
    have T2 : g2.get? (s.heap.objs.size + 1) = some { cls := .type "tuple", data := .seq #[.int i s.toks, .ref s.heap.objs.size] } := (sb.2 _ ne2).trans t2
    have h1at : (s.heap.push { cls := .type "tuple", data := .seq #[v, v2] }).get? s.heap.objs.size = some { cls := .type "tuple", data := .seq #[v, v2] } := Heap.get?_push_size _ rfl
    have I1 : Inv X pins σ (upd H s.heap.objs.size (.tup [x, y])) { s with heap := s.heap.push { cls := .type "tuple", data := .seq #[v, v2] }, toks := s.toks } :=
      I.laid (t' := s.toks) (fun c o z => Heap.get?_push_of_some _ z) (Nat.le_refl _) ⟨by show 2 ≤ sizeLine; decide, [v, v2], .cons ru (.cons ru2 .nil), ⟨_, h1at, rfl, _, rfl⟩⟩
    have sz1 : (s.heap.push { cls := .type "tuple", data := .seq #[v, v2] }).objs.size = s.heap.objs.size + 1 := Heap.size_push ..
    have hf1 : ∀ c ∈ [e, q, ti, to, m1, m2], FpOk X pins (upd H s.heap.objs.size (.tup [x, y])) c := fun c hcm => by
      refine ⟨?_, (hf c hcm).2⟩
      rw [upd_ne (Nat.ne_of_lt (lt c hcm))]
      exact (hf c hcm).1
    have I2 : Inv X pins σ (upd (upd H s.heap.objs.size (.tup [x, y])) (s.heap.objs.size + 1) (.tup [.int (i : Nat), .ref s.heap.objs.size])) { s with heap := g2, toks := s.toks + 1 } := by
      refine I1.turnedNew (t' := s.toks + 1) (ch := [e, q, ti, to, m1, m2]) (fun c o hb z => ?_) hf1 (by show (s.heap.push _).objs.size ≤ _; rw [sz1]; exact Nat.le_refl _) ⟨by show 2 ≤ sizeLine; decide, [.int i s.toks, .ref s.heap.objs.size], .cons ⟨_, rfl⟩ (.cons rfl .nil), ⟨_, T2, rfl, _, rfl⟩⟩
      rcases Heap.get?_push_cases z with ⟨z1, z2⟩ | z
      · rw [z1, z2]
        exact T1
      · exact (sb.2 c (fun y => hb (by simp [y]))).trans (hk c o (fun y => hb (by simp [y])) (fun y => hb (by simp [y])) (fun y => hb (by simp [y])) (fun y => hb (by simp [y])) (fun y => hb (by simp [y])) z)
    refine ⟨.ref (s.heap.objs.size + 1), _, I2, rfl, ⟨_, _, x, y, rfl, I.hok.fresh (Nat.le_refl _), I.hok.fresh (Nat.le_succ _), Nat.ne_of_lt (Nat.lt_succ_self _), rfl, fun l hl => by rw [inv_half_inj I hl hqx]; exact hx, fun l hl => by rw [inv_half_inj I hl hqy]; exact hy⟩, ⟨⟨_, by simpa using he2⟩, z1.to fun o z => (sb.2 _ eq.symm).trans z, ?_, ?_, v11.to fun o z => (sb.2 _ e1.symm).trans z, v21.to fun o z => (sb.2 _ e2.symm).trans z⟩, fun c hcm => ?_⟩
    · exact (sb.2 _ eti.symm).trans (hk _ _ eti.symm D.TIz D.TITO D.TIi1 D.TIi2 pi)
    · obtain ⟨a', b', z⟩ := po1
      exact ⟨a', b', (sb.2 _ eto.symm).trans z⟩
    · rw [upd_ne (Nat.ne_of_lt (Nat.lt_succ_of_lt (lt c hcm))), upd_ne (Nat.ne_of_lt (lt c hcm))]
      exact (hf c hcm).1
  done := by
    intro X hP hw hK hc i pins s σ H E I hf st hg
    subst hP hw hK
    obtain ⟨⟨old, he⟩, zz, pi, ⟨x0, y0, po⟩, w1, w2⟩ := st
    obtain ⟨xs, ys, hqx, hqy, hend⟩ := hg
    obtain ⟨its, rv, p, _⟩ := inv_half I hqx
    obtain ⟨its2, rv2, p2, _⟩ := inv_half I hqy
    have l1 := rv.length
    have l2 := rv2.length
    have hz : its.toArray[i]? = none ∨ its2.toArray[i]? = none := hend.imp (fun z => by simp; omega) fun z => by simp; omega
    exact ez_end (I.ok.hd hc) D he zz pi po w1 w2 p p2 hz fun g hk => ⟨rfl, I.turnedL (t' := s.toks) (ch := [e, q, ti, to, m1, m2]) (fun c o hb z =>
      hk c o (fun y => hb (by simp [y])) (fun y => hb (by simp [y])) (fun y => hb (by simp [y])) (fun y => hb (by simp [y])) z) hf⟩
  self := fun A i s Q E st h => wpAny_pyIter_enum st.1.choose_spec h
section
variable {X : Cx} {K : PySem.W.Frag}
def iEz (u1 u2 : Bool) (K : PySem.W.Frag) (ta : TA) : TI := fun σ H R => ta σ H fun vs H1 => ∃ a b xs ys, vs = [.ref a, .ref b] ∧ SqH u1 K H1 a xs ∧ SqH u2 K H1 b ys ∧ R (Itez u1 u2 K a b) H1
theorem pi_ez (u1 u2 : Bool) {e e2 : Expr} {ta : TA} {p pos p2 pos2 tpos : Pos} {elts : List Expr} {kk : Nat} (hg : Gl X "enumerate") (hm : X.mg "enumerate" = none) (hgz : Gl X "zip") (hmz : X.mg "zip" = none) (ha : PA X [e, e2] ta)
    (hs : starEach [e, e2] X.env = (false, eval e X.env) :: starEach [e2] X.env := by rfl) (hpl : (backTo pos2 (starEach [e2] X.env)).any (·.1) = false := by rfl)
    (hso : starEach [.Call (.Name "zip" p2) [e, e2] [] pos2] X.env = [(false, eval (.Call (.Name "zip" p2) [e, e2] [] pos2) X.env)] := by rfl) (hK : X.K = K := by rfl) :
    PI X (.Tuple elts kk tpos) (.Call (.Name "enumerate" p) [.Call (.Name "zip" p2) [e, e2] [] pos2] [] pos) (iEz u1 u2 K ta) := by
  subst hK
  refine ⟨fun pins s σ H R I h => ?_⟩
  refine Call_ (ld_blt I hg hm boot_enumerate (PyProof.Rows.callWith_type1 ?_ hso rfl))
  rw [hso]
  show wpAny _ _ (spliced [(false, eval (.Call (.Name "zip" p2) [e, e2] [] pos2) X.env)]) _ _ s
  refine Calls.spliced_cons (Call_ (ld_blt I hgz hmz PyProof.Rows.boot_zip (PyProof.Rows.callWith_type1 (thn (ha.run pos2 pins s σ H _ I h) fun us s1 ⟨vs, H1, I1, r1, q1⟩ => ?_) hs hpl)))
  obtain ⟨a, b, xs, ys, rfl, hqx, hqy, q⟩ := q1
  cases r1 with
  | cons r rr =>
    cases rr with
    | cons r' rr =>
      cases rr
      cases r
      cases r'
      obtain ⟨its, rv, p1, lt1⟩ := inv_half I1 hqx
      obtain ⟨its2, rv2, p2', lt2⟩ := inv_half I1 hqy
      refine zh_call p1 p2' fun g zz pi po w1 w2 hk => Calls.spliced_nil ?_
      have I2 : Inv X pins σ H1 { s1 with heap := g } := I1.kept (t' := s1.toks) hk
      refine call_enum_zip (s := { s1 with heap := g }) zz fun g3 he hk3 => wpAny_pyIter_enum he ?_
      have I3 : Inv X pins σ H1 { s1 with heap := g3 } := I2.kept (t' := s1.toks) hk3
      have ge : s1.heap.objs.size + 4 < g.objs.size := Heap.lt_size zz
      have new6 : ∀ c, c ∈ [g.objs.size, s1.heap.objs.size + 4, s1.heap.objs.size + 2, s1.heap.objs.size + 3, s1.heap.objs.size, s1.heap.objs.size + 1] → FpOk X pins H1 c := fun c hcm => by
        have le : s1.heap.objs.size ≤ c := by
          simp only [List.mem_cons, List.not_mem_nil, or_false] at hcm
          rcases hcm with z | z | z | z | z | z <;> rw [z] <;> first | exact Nat.le_refl _ | exact Nat.le_add_right _ _ | exact Nat.le_of_lt (Nat.lt_of_le_of_lt (Nat.le_add_right _ _) ge)
        exact I1.fpOk le (I1.hok.fresh le)
      refine ⟨g.objs.size, [g.objs.size, s1.heap.objs.size + 4, s1.heap.objs.size + 2, s1.heap.objs.size + 3, s1.heap.objs.size, s1.heap.objs.size + 1], _, _, H1, rfl, I3, turn_ez (PySem.W.ktu_apart s1.heap.objs.size a b lt1 lt2) ?_ ?_ ?_ ?_ ?_, ⟨⟨_, he⟩, .inl (hk3 _ _ zz), hk3 _ _ pi, ⟨_, _, hk3 _ _ po⟩, w1.to fun o z => hk3 _ _ z, w2.to fun o z => hk3 _ _ z⟩, new6, q⟩
      all_goals refine Nat.ne_of_gt (Nat.lt_of_le_of_lt ?_ ge)
      · exact Nat.le_refl _
      · exact Nat.add_le_add_left (by decide) _
      · exact Nat.add_le_add_left (by decide) _
      · exact Nat.le_add_right _ _
      · exact Nat.add_le_add_left (by decide) _
def YEz (xs ys : Nat → Option V) : Nat → Hp → V → Hp → Prop := fun i H v H' => ∃ T U x y, v = .ref U ∧ H T = none ∧ H U = none ∧ T ≠ U ∧ H' = upd (upd H T (.tup [x, y])) U (.tup [.int (i : Nat), .ref T]) ∧ xs i = some x ∧ ys i = some y
theorem walk_ez {u1 u2 : Bool} {a b : Addr} {xs ys : List V} {n : Nat} (hn : n = min xs.length ys.length) : Walk (Itez u1 u2 K a b) n (fun H => SqH u1 K H a xs ∧ SqH u2 K H b ys) (YEz (fun i => xs[i]?) (fun i => ys[i]?)) := by
  subst hn
  refine ⟨fun i H hi q => ⟨xs, ys, xs[i]'(by omega), ys[i]'(by omega), q.1, q.2, List.getElem?_eq_getElem _, List.getElem?_eq_getElem _⟩, fun H q => ⟨xs, ys, q.1, q.2, by omega⟩, fun i H v H' hi q y => ?_⟩
  obtain ⟨T, U, x, z, h1, h2, h3, h4, h5, h6, h7⟩ := y
  exact ⟨T, U, x, z, h1, h2, h3, h4, h5, h6 xs q.1, h7 ys q.2⟩
end
end RL
/-! What stands in the heap: numbers, lots, boards, the law's box. -/
namespace RL
open PySem PySem.Spec PyProof.Rows L2 RLM
def vI (k : Nat) : V := .int (k : Nat)
def vO : Option Nat → V
  | none => .non
  | some k => .int (k : Nat)
/-- all but the list at c and dicts stay -/
def Kc (c : Addr) (H H' : Hp) : Prop := ∀ a o, a ≠ c → (∀ kvs, o ≠ .dK kvs) → H a = some o → H' a = some o
theorem Kc.refl (c : Addr) (H : Hp) : Kc c H H := fun _ _ _ _ h => h
theorem Kc.trans {c : Addr} {H H1 H2 : Hp} (a : Kc c H H1) (b : Kc c H1 H2) : Kc c H H2 := fun x o h1 h2 h => b x o h1 h2 (a x o h1 h2 h)
theorem kc_same {c : Addr} {H H' : Hp} (s : Same H H') : Kc c H H' := fun x o _ _ h => s x o h
theorem same_upd {H : Hp} {p : Addr} {o : HO} (h : H p = none) : Same H (upd H p o) := fun b u e => by
  rw [upd_ne (ne_of_none e h)]
  exact e
/-- an object that H does not know may change -/
theorem same_mut {H H' : Hp} {p : Addr} {o : HO} (s : Same H H') (h : H p = none) : Same H (upd H' p o) := fun b u e => by
  rw [upd_ne (ne_of_none e h)]
  exact s b u e
theorem Kc.upd {c : Addr} {H H' : Hp} {p : Addr} {o : HO} (s : Kc c H H') (h : H p = none) : Kc c H (L2.upd H' p o) := fun b u h1 h2 e => by
  rw [upd_ne (ne_of_none e h)]
  exact s b u h1 h2 e
theorem Kc.tup {c : Addr} {H H' : Hp} {a : Addr} {xs : List V} (k : Kc c H H') (hc : ∃ ys, H c = some (.lst ys)) (h : H a = some (.tup xs)) : H' a = some (.tup xs) := by
  refine k a _ (fun e => ?_) (fun kvs z => by cases z) h
  obtain ⟨ys, hc⟩ := hc
  rw [e, hc] at h
  cases h
/-- a list of pairs: where each stands, and what it is -/
structure PairsAt (c : Addr) (H : Hp) (l : Addr) (L : List (Addr × Nat × Nat)) : Prop where
  at_ : H l = some (.lst (L.map fun q => V.ref q.1))
  ne : l ≠ c
  tup : ∀ q ∈ L, H q.1 = some (.tup [vI q.2.1, vI q.2.2])
theorem PairsAt.keep {c : Addr} {H H' : Hp} {l : Addr} {L : List (Addr × Nat × Nat)} (k : Kc c H H') (hc : ∃ ys, H c = some (.lst ys)) (h : PairsAt c H l L) : PairsAt c H' l L :=
  ⟨k _ _ h.ne (fun _ z => by cases z) h.at_, h.ne, fun q hq => k.tup hc (h.tup q hq)⟩
theorem PairsAt.same {c : Addr} {H H' : Hp} {l : Addr} {L : List (Addr × Nat × Nat)} (k : Same H H') (h : PairsAt c H l L) : PairsAt c H' l L :=
  ⟨k _ _ h.at_, h.ne, fun q hq => k _ _ (h.tup q hq)⟩
/-- a board's attributes -/
def bf (n : Nat) (lp ll lf : Addr) : List (Str × V) := putF "fars" (.ref lf) (putF "leads" (.ref ll) (putF "pairs" (.ref lp) (putF "many" (.int (n : Nat)) [])))
structure BoardAt (K : PySem.W.Frag) (c : Addr) (H : Hp) (x : Addr) (n : Nat) (E : List (Nat × Nat)) : Prop where
  ex : ∃ (dx lp ll lf : Addr) (L : List (Addr × Nat × Nat)) (ls : List V) (F : List (Addr × List (Option Nat))), H x = some (.ins (cB K) dx (bf n lp ll lf)) ∧ PairsAt c H lp L ∧ L.map (·.2) = E ∧
    H ll = some (.lst ls) ∧ ll ≠ c ∧ ls.length = n ∧ H lf = some (.lst (F.map fun q => V.ref q.1)) ∧ lf ≠ c ∧ F.length = n ∧ ∀ (a : Nat) (q : Addr × List (Option Nat)), F[a]? = some q → H q.1 = some (.lst (q.2.map vO)) ∧ q.1 ≠ c ∧ Fars n E a q.2
  lo : 1 ≤ n
  hi : n ≤ 8
  on : On n E
  nd : E.Nodup
theorem BoardAt.keep {K : PySem.W.Frag} {c : Addr} {H H' : Hp} {x : Addr} {n : Nat} {E : List (Nat × Nat)} (k : Kc c H H') (hc : ∃ ys, H c = some (.lst ys)) (h : BoardAt K c H x n E) : BoardAt K c H' x n E := by
  obtain ⟨dx, lp, ll, lf, L, ls, F, h1, h2, h3, h4, h5, h6, h7, h8, h9, h10⟩ := h.ex
  refine ⟨⟨dx, lp, ll, lf, L, ls, F, ?_, h2.keep k hc, h3, k _ _ h5 (fun _ z => by cases z) h4, h5, h6, k _ _ h8 (fun _ z => by cases z) h7, h8, h9, fun a q e => ?_⟩, h.lo, h.hi, h.on, h.nd⟩
  · refine k _ _ (fun e => ?_) (fun _ z => by cases z) h1
    obtain ⟨ys, hc⟩ := hc
    rw [e, hc] at h1
    cases h1
  · obtain ⟨q1, q2, q3⟩ := h10 a q e
    exact ⟨k _ _ q2 (fun _ z => by cases z) q1, q2, q3⟩
theorem BoardAt.same {K : PySem.W.Frag} {c : Addr} {H H' : Hp} {x : Addr} {n : Nat} {E : List (Nat × Nat)} (k : Same H H') (h : BoardAt K c H x n E) : BoardAt K c H' x n E := by
  obtain ⟨dx, lp, ll, lf, L, ls, F, h1, h2, h3, h4, h5, h6, h7, h8, h9, h10⟩ := h.ex
  exact ⟨⟨dx, lp, ll, lf, L, ls, F, k _ _ h1, h2.same k, h3, k _ _ h4, h5, h6, k _ _ h7, h8, h9, fun a q e => ⟨k _ _ (h10 a q e).1, (h10 a q e).2⟩⟩, h.lo, h.hi, h.on, h.nd⟩
theorem BoardAt.obj {K : PySem.W.Frag} {c : Addr} {H : Hp} {x : Addr} {n : Nat} {E : List (Nat × Nat)} (h : BoardAt K c H x n E) : ∃ dx lp ll lf, H x = some (.ins (cB K) dx (bf n lp ll lf)) := by
  obtain ⟨dx, lp, ll, lf, L, ls, F, h1, _⟩ := h.ex
  exact ⟨dx, lp, ll, lf, h1⟩
theorem bf_eq (n : Nat) (lp ll lf : Addr) : bf n lp ll lf = ([("many", .int (n : Nat)), ("pairs", .ref lp), ("leads", .ref ll), ("fars", .ref lf)] : List (Str × V)) := by rfl
theorem bf_many (n : Nat) (lp ll lf : Addr) : (bf n lp ll lf).lookup ("many" : Str) = some (.int (n : Nat)) := by rfl
theorem bf_pairs (n : Nat) (lp ll lf : Addr) : (bf n lp ll lf).lookup ("pairs" : Str) = some (.ref lp) := by rfl
theorem bf_leads (n : Nat) (lp ll lf : Addr) : (bf n lp ll lf).lookup ("leads" : Str) = some (.ref ll) := by rfl
theorem bf_fars (n : Nat) (lp ll lf : Addr) : (bf n lp ll lf).lookup ("fars" : Str) = some (.ref lf) := by rfl
theorem bf_check (n : Nat) (lp ll lf : Addr) : (bf n lp ll lf).lookup ("check_place" : Str) = none := by rfl
theorem bf_within (n : Nat) (lp ll lf : Addr) : (bf n lp ll lf).lookup ("within" : Str) = none := by rfl
theorem bf_turned (n : Nat) (lp ll lf : Addr) : (bf n lp ll lf).lookup ("turned" : Str) = none := by rfl
theorem bf_renamed (n : Nat) (lp ll lf : Addr) : (bf n lp ll lf).lookup ("renamed" : Str) = none := by rfl
/-! ### the law's box -/
def boxK (c : Addr) (r s t : Int) : List (Key × V) := [(Sum.inr "cells", .ref c), (Sum.inr "rest", .int r), (Sum.inr "seed", .int s), (Sum.inr "turn", .int t)]
structure Box (b c : Addr) (H : Hp) : Prop where
  ex : ∃ (ns : List Int) (r s t : Int), H b = some (.dK (boxK c r s t)) ∧ H c = some (.lst (ns.map V.int)) ∧ 0 ≤ r ∧ 0 ≤ s ∧ s < 2147483629 ∧ ns.length ≤ 63
theorem Box.same {b c : Addr} {H H' : Hp} (k : Same H H') (h : Box b c H) : Box b c H' := by
  obtain ⟨ns, r, s, t, h1, h2, h3⟩ := h.ex
  exact ⟨ns, r, s, t, k _ _ h1, k _ _ h2, h3⟩
theorem Box.lst {b c : Addr} {H : Hp} (h : Box b c H) : ∃ ys, H c = some (.lst ys) := by
  obtain ⟨ns, r, s, t, h1, h2, h3⟩ := h.ex
  exact ⟨_, h2⟩
theorem bx_cells (c : Addr) (r s t : Int) : valV (boxK c r s t) (Sum.inr "cells" : Key) = some (.ref c) := by rfl
theorem bx_rest (c : Addr) (r s t : Int) : valV (boxK c r s t) (Sum.inr "rest" : Key) = some (.int r) := by rfl
theorem bx_seed (c : Addr) (r s t : Int) : valV (boxK c r s t) (Sum.inr "seed" : Key) = some (.int s) := by rfl
theorem bx_turn (c : Addr) (r s t : Int) : valV (boxK c r s t) (Sum.inr "turn" : Key) = some (.int t) := by rfl
theorem bx_rest_put (c : Addr) (r s t x : Int) : putK (boxK c r s t) (Sum.inr "rest" : Key) (.int x) = boxK c x s t := by rfl
theorem bx_seed_put (c : Addr) (r s t x : Int) : putK (boxK c r s t) (Sum.inr "seed" : Key) (.int x) = boxK c r x t := by rfl
theorem bx_turn_put (c : Addr) (r s t x : Int) : putK (boxK c r s t) (Sum.inr "turn" : Key) (.int x) = boxK c r s x := by rfl
theorem bg_cells {H : Hp} {b c : Addr} {r s t : Int} (hb : H b = some (.dK (boxK c r s t))) : DGet H b (.str "cells") (some (.ref c)) := DGet.k (k := Sum.inr "cells") hb
theorem bg_rest {H : Hp} {b c : Addr} {r s t : Int} (hb : H b = some (.dK (boxK c r s t))) : DGet H b (.str "rest") (some (.int r)) := DGet.k (k := Sum.inr "rest") hb
theorem bg_seed {H : Hp} {b c : Addr} {r s t : Int} (hb : H b = some (.dK (boxK c r s t))) : DGet H b (.str "seed") (some (.int s)) := DGet.k (k := Sum.inr "seed") hb
theorem bg_turn {H : Hp} {b c : Addr} {r s t : Int} (hb : H b = some (.dK (boxK c r s t))) : DGet H b (.str "turn") (some (.int t)) := DGet.k (k := Sum.inr "turn") hb
theorem bp_rest {H : Hp} {b c : Addr} {r s t x : Int} (hb : H b = some (.dK (boxK c r s t))) : DPut H b (.str "rest") (.int x) (upd H b (.dK (boxK c x s t))) := DPut.k (k := Sum.inr "rest") hb (by show 4 < sizeLine; decide)
theorem bp_seed {H : Hp} {b c : Addr} {r s t x : Int} (hb : H b = some (.dK (boxK c r s t))) : DPut H b (.str "seed") (.int x) (upd H b (.dK (boxK c r x t))) := DPut.k (k := Sum.inr "seed") hb (by show 4 < sizeLine; decide)
theorem bp_turn {H : Hp} {b c : Addr} {r s t x : Int} (hb : H b = some (.dK (boxK c r s t))) : DPut H b (.str "turn") (.int x) (upd H b (.dK (boxK c r s x))) := DPut.k (k := Sum.inr "turn") hb (by show 4 < sizeLine; decide)
/-- the dict changes -/
theorem Kc.dict {c b : Addr} {H H' : Hp} {o : HO} (k : Kc c H H') (hb : ∃ kvs, H b = some (.dK kvs)) : Kc c H (L2.upd H' b o) := fun a u h1 h2 e => by
  have ne : a ≠ b := fun z => by
    obtain ⟨kvs, hb⟩ := hb
    rw [z, hb] at e
    exact h2 kvs (Option.some.inj e).symm
  rw [upd_ne ne]
  exact k a u h1 h2 e
theorem Kc.cell {c : Addr} {H H' : Hp} {o : HO} (k : Kc c H H') : Kc c H (L2.upd H' c o) := fun a u h1 h2 e => by
  rw [upd_ne h1]
  exact k a u h1 h2 e
theorem Box.dict {b c : Addr} {H : Hp} (h : Box b c H) : ∃ kvs, H b = some (.dK kvs) := by
  obtain ⟨ns, r, s, t, h1, h2, h3⟩ := h.ex
  exact ⟨_, h1⟩
theorem Box.ne {b c : Addr} {H : Hp} (h : Box b c H) : b ≠ c := by
  obtain ⟨ns, r, s, t, h1, h2, h3⟩ := h.ex
  exact ne_of h1 h2 (by intro z; cases z)
end RL
namespace RL
open PySem PySem.Spec PyProof.Rows L2 RLM
section
variable {P : Program} {w : World} {K : PySem.W.Frag} {mg : Str → Option Value} {base : Heap}
/-! ### data -/
theorem dp_ints {H : Hp} : ∀ ns : List Int, DpAll K H (ns.map V.int) (ns.map PyData.int)
  | [] => .nil
  | n :: ns => .cons (.int n) (dp_ints ns)
theorem shaped_ints (ns : List Int) : SeqAt.shaped (.list (ns.map PyData.int)) = true := PySem.W.ke_shaped_ints ns
theorem shaped_tup (ns : List Int) : SeqAt.shaped (.tuple (ns.map PyData.int)) = true := by
  have h := PySem.W.ke_shaped_ints ns
  exact h
theorem eqv_tup (ns : List Int) : PyData.eqv (.tuple (ns.map PyData.int)) (.tuple (ns.map PyData.int)) = true := SeqAt.eqv_refl _ (SeqAt.canLay_of_shaped (shaped_tup ns))
theorem six0 (n : Nat) : seqIndex? 0 (n + 1) = some 0 := by
  unfold seqIndex?
  simp
theorem cut_ints (ns : List Int) (lo hi : Option Int) : ∃ ms : List Int, cutV (ns.map V.int) lo hi = ms.map V.int ∧ ms.length ≤ ns.length := by
  unfold cutV
  rw [← List.map_drop, ← List.map_take]
  exact ⟨_, rfl, by rw [List.length_take, List.length_drop]; omega⟩
/-! ### is_number, is_between -/
def spNumber : Sp := fun vs H Q _ => ∃ i : Int, vs = [.int i] ∧ Q (.bl true) H
theorem sc_is_number : FnScope ["thing"] ["thing"] (defScope s_is_number) := ⟨rfl, rfl, rfl, by decide +kernel, rfl, by decide +kernel, by decide +kernel⟩
theorem ok_is_number (T : Tx K mg) : Has P w K mg base (He.ga K "is_number") 1 ["thing"] spNumber := by
  obtain ⟨fd, F⟩ := T.d_is_number
  refine ⟨⟨fd, F.ok sc_is_number (fun vs H Q E h => ?_) (fun cdv A outer s H vs Q E hr h => ?_), F.bindsN fun _ _ _ _ _ _ us hl => match us, hl with | [_], _ => rfl⟩, F.kp⟩
  · obtain ⟨i, rfl, _⟩ := h
    rfl
  · obtain ⟨i, rfl, h⟩ := h
    refine ⟨_, PSs.nox (pss_one (ps_ret (pe_and (pe_callB (isiK (K := K)) (by rfl) T.free_isinstance (by decide +kernel) (pa_cons (pv 0) (pa_cons (pe_bltn (v := .ty "int") (u := .type "int") (by rfl) T.free_int (by decide +kernel) rfl) pa_nil))) (pe_one (pe_not (pe_callB (isiK (K := K)) (by rfl) T.free_isinstance (by decide +kernel) (pa_cons (pv 0) (pa_cons (pe_bltn (v := .ty "bool") (u := .type "bool") (by rfl) T.free_bool (by decide +kernel) rfl) pa_nil)))))))), ?_⟩
    refine ⟨_, rfl, _, _, _, _, true, rfl, .ty _, .base (.int i), kit_ty (by decide +kernel), true, rfl, iteT ?_⟩
    exact ⟨_, rfl, _, _, _, _, false, rfl, .ty _, .base (.int i), kit_ty (by decide +kernel), false, rfl, h⟩
def spBetween : Sp := fun vs H Q _ => ∃ i a b : Int, vs = [.int i, .int a, .int b] ∧ Q (.bl (decide (a ≤ i ∧ i ≤ b))) H
theorem sc_is_between : FnScope ["thing", "least", "most"] ["thing", "least", "most"] (defScope s_is_between) := ⟨rfl, rfl, rfl, by decide +kernel, rfl, by decide +kernel, by decide +kernel⟩
theorem ok_is_between (T : Tx K mg) : Has P w K mg base (He.ga K "is_between") 2 ["thing", "least", "most"] spBetween := by
  obtain ⟨⟨fd_is_number, F_is_number, b_is_number⟩, kp_is_number⟩ := ok_is_number (P := P) (w := w) (base := base) T
  obtain ⟨fd, F⟩ := T.d_is_between
  refine ⟨⟨fd, F.ok sc_is_between (fun vs H Q E h => ?_) (fun cdv A outer s H vs Q E hr h => ?_), F.bindsN fun _ _ _ _ _ _ us hl => match us, hl with | [_, _, _], _ => rfl⟩, F.kp⟩
  · obtain ⟨i, a, b, rfl, _⟩ := h
    rfl
  · obtain ⟨i, a, b, rfl, h⟩ := h
    have hr_is_number : Room 1 _ := hr.mono (by decide)
    refine ⟨_, PSs.nox (pss_one (ps_ret (pe_and (pe_call F_is_number hr_is_number rfl T.glo_is_number kp_is_number b_is_number .nil pass0 (pa_cons (pv 0) pa_nil)) (pe_one (pe_chain op_le op_le (pv 1) (pv 0) (pv 2)))))), ?_⟩
    refine ⟨_, rfl, i, rfl, _, rfl, iteT ?_⟩
    refine ⟨_, rfl, _, rfl, _, _, rfl, rfl, _, rfl, ?_⟩
    by_cases h1 : a ≤ i
    · rw [decide_eq_true h1]
      refine iteT ⟨_, rfl, _, _, rfl, rfl, ?_⟩
      have e : decide (a ≤ i ∧ i ≤ b) = decide (i ≤ b) := by simp [h1]
      rw [e] at h
      exact h
    · rw [decide_eq_false h1]
      refine iteF ?_
      have e : decide (a ≤ i ∧ i ≤ b) = false := by simp [h1]
      rw [e] at h
      exact h
/-! ### the box -/
def spBox (K : PySem.W.Frag) : Sp := fun vs H Q _ => ∃ (a : Addr) (ns : List Int), vs = [.ref a] ∧ SqL K H a (ns.map V.int) ∧ ns.length ≤ 63 ∧ ∀ H' b c, Same H H' → Box b c H' → Q (.ref b) H'
theorem sc__law_box : FnScope ["_law_script"] ["_law_script"] (defScope s__law_box) := ⟨rfl, rfl, rfl, by decide +kernel, rfl, by decide +kernel, by decide +kernel⟩
theorem ok_box (T : Tx K mg) : Has P w K mg base (He.ga K "_law_box") 1 ["_law_script"] (spBox K) := by
  obtain ⟨fd, F⟩ := T.d__law_box
  refine ⟨⟨fd, F.ok sc__law_box (fun vs H Q E h => ?_) (fun cdv A outer s H vs Q E hr h => ?_), F.bindsN fun _ _ _ _ _ _ us hl => match us, hl with | [_], _ => rfl⟩, F.kp⟩
  · obtain ⟨a, ns, rfl, _⟩ := h
    rfl
  · obtain ⟨a, ns, rfl, hS, hl, h⟩ := h
    refine ⟨_, PSs.nox (pss_one (ps_ret (pe_disp (pps_cons pe_str (pe_callTy (listK (K := K)) (by rfl) T.free_list (by decide +kernel) (pa_cons (pe_slice (slL (K := K)) (pv 0) po_none (po_some pe_int)) pa_nil)) (pps_cons pe_str pe_int (pps_cons pe_str pe_int (pps_cons pe_str pe_int pps_nil)))) (by rfl) (by rfl) (fun z => by cases z) (by decide)))), ?_⟩
    intro b hb
    have sb : Same H (upd H b (.dK [])) := same_upd hb
    refine ⟨_, rfl, ?_⟩
    refine ⟨63, rfl, a, _, rfl, sb.seq hS, fun q hq => ?_⟩
    have sq := same_upd (o := .lst (cutV (List.map V.int ns) none (some 63))) hq
    obtain ⟨ms, em, lm⟩ := cut_ints ns none (some 63)
    refine ⟨q, _, rfl, .inl (SqL.of upd_same), fun l hl => ?_⟩
    have s2 := same_upd (o := .lst (cutV (List.map V.int ns) none (some 63))) hl
    have s3 := (sb.trans sq).trans s2
    refine ⟨?_, [(Sum.inr "cells", .ref l), (Sum.inr "rest", .int 0), (Sum.inr "seed", .int 9121001), (Sum.inr "turn", .int 0)], rfl, (by show 4 ≤ 15; decide), ?_⟩
    · exact s2 _ _ (sq _ _ upd_same)
    · have nlb : l ≠ b := fun z => by
        rw [z, sq _ _ upd_same] at hl
        cases hl
      refine h _ b l (same_mut s3 hb) ⟨ms, 0, 9121001, 0, upd_same, ?_, by decide, by decide, by decide, by omega⟩
      rw [upd_ne nlb, upd_same, em]
/-! ### pick -/
def spPick : Sp := fun vs H Q _ => ∃ (b c : Addr) (m : Int), vs = [.ref b, .int m] ∧ Box b c H ∧ 1 ≤ m ∧ m < 1073741824 ∧ ∀ H' i, Kc c H H' → Box b c H' → 0 ≤ i → i < m → Q (.int i) H'
theorem sc__law_pick : FnScope ["_law_box_here", "_law_many", "_law_cell", "_law_digit", "_law_seed"] ["_law_box_here", "_law_many"] (defScope s__law_pick) := ⟨rfl, rfl, rfl, by decide +kernel, rfl, by decide +kernel, by decide +kernel⟩
theorem ok_pick (T : Tx K mg) : Has P w K mg base (He.ga K "_law_pick") 1 ["_law_box_here", "_law_many"] spPick := by
  obtain ⟨fd, F⟩ := T.d__law_pick
  refine ⟨⟨fd, F.ok sc__law_pick (fun vs H Q E h => ?_) (fun cdv A outer s H vs Q E hr h => ?_), F.bindsN fun _ _ _ _ _ _ us hl => match us, hl with | [_, _], _ => rfl⟩, F.kp⟩
  · obtain ⟨b, c, m, rfl, _⟩ := h
    rfl
  · obtain ⟨b, c, m, rfl, B, m1, m2, h⟩ := h
    have hu := hu_of hr
    refine ⟨_, PSs.nox (C8.pss_cut (ps_if (PW.pt (pw_and (pt_cmpR op_eq (pe_dget hu (pv 0) pe_str (fun _ _ => rfl)) pe_int (nomark _)) (pw_and1 (pt_cmpR (neD (K := K) hr.units) (pe_dget hu (pv 0) pe_str (fun _ _ => rfl)) (pe_lst pa_nil) (nomark _))))) (pss_cons (ps_set (i := 2) sc__law_pick.nd rfl (Or.inl rfl) (bmK (K := K) PySem.F.plainAttrs_list PySem.F.slot_list_pop PySem.F.type_list_pop mt_popAt (pe_dget hu (pv 0) pe_str (fun _ _ => rfl)) (pa_cons pe_int pa_nil)))
      (pss_cons (ps_dput hu (pv 0) pe_str (pe_callB (call_max2 rfl) (by rfl) T.free_max (by decide +kernel) (pa_cons pe_int (pa_cons (pe_op op_sub (pv 2) (pe_op op_pow pe_int pe_int)) pa_nil))) rfl)
      (pss_one (ps_dput hu (pv 0) pe_str (pe_op op_mod (pe_op op_add (pe_op op_add (pe_op op_mul (pe_dget hu (pv 0) pe_str (fun _ _ => rfl)) pe_int) (pe_op op_mul (pe_op op_mod (pv 2) pe_int) pe_int)) pe_int) pe_int) rfl)))) pss_nil)
      (pss_cons (ps_if (pt_cmpR op_gt (pe_dget hu (pv 0) pe_str (fun _ _ => rfl)) pe_int (nomark _)) (pss_cons (ps_set (i := 3) sc__law_pick.nd rfl (Or.inl rfl) (pe_op op_modN (pe_dget hu (pv 0) pe_str (fun _ _ => rfl)) (pv 1)))
      (pss_cons (ps_dput hu (pv 0) pe_str (pe_op op_fdivN (pe_dget hu (pv 0) pe_str (fun _ _ => rfl)) (pv 1)) rfl)
      (pss_one (ps_ret (pv 3))))) pss_nil)
      (pss_cons (ps_dput hu (pv 0) pe_str (pe_op op_add (pe_dget hu (pv 0) pe_str (fun _ _ => rfl)) pe_int) rfl)
      (pss_cons (ps_set (i := 4) sc__law_pick.nd rfl (Or.inl rfl) (pe_op op_mod (pe_op op_add (pe_op op_add (pe_op op_mul (pe_dget hu (pv 0) pe_str (fun _ _ => rfl)) pe_int) (pe_op op_mul (pe_dget hu (pv 0) pe_str (fun _ _ => rfl)) pe_int)) pe_int) pe_int))
      (pss_cons (ps_dput hu (pv 0) pe_str (pe_op op_mod (pe_op op_add (pe_op op_add (pe_op op_mul (pv 4) (pv 4)) (pe_op op_mul pe_int (pv 4))) pe_int) pe_int) rfl)
      (pss_one (ps_ret (pe_op op_modN (pe_op op_add (pe_op op_fdiv (pe_dget hu (pv 0) pe_str (fun _ _ => rfl)) pe_int) (pe_op op_mul (pe_op op_mod (pe_dget hu (pv 0) pe_str (fun _ _ => rfl)) pe_int) pe_int)) (pv 1))))))))), ?_⟩
    refine ⟨fun σ H1 => (∃ v2, σ = [some (.ref b), some (.int m), v2, none, none]) ∧ Kc c H H1 ∧ Box b c H1, ?_, ?_⟩
    · obtain ⟨ns, r, z, t, hb, hc, r0, z0, z1, nl⟩ := B.ex
      have nbc := B.ne
      refine ⟨_, rfl, b, _, rfl, bg_rest hb, rfl, _, rfl, ?_⟩
      refine ite2 (fun hr0 => ?_) (fun hr0 => iteF ⟨⟨none, rfl⟩, Kc.refl c H, B⟩)
      refine ⟨_, rfl, b, _, rfl, bg_cells hb, Nat.zero_le _, fun l hl => ?_⟩
      have sl : Same H (upd H l (.lst [])) := same_upd hl
      refine ⟨.list (ns.map .int), .list [], .lst (SqL.of (sl _ _ hc)) (dp_ints ns), .lst (SqL.of upd_same) .nil, shaped_ints ns, shaped_ints [], _, rfl, ?_⟩
      cases ns with
      | nil => exact iteF ⟨⟨none, rfl⟩, kc_same sl, B.same sl⟩
      | cons n0 ns =>
        refine iteT ?_
        have hb1 := sl _ _ hb
        have hc1 := sl _ _ hc
        generalize hH1 : upd H l (.lst []) = H1 at sl hb1 hc1
        refine ⟨_, rfl, b, _, rfl, bg_cells hb1, .inl ⟨rfl, _, SqL.of hc1⟩, c, _, 0, 0, _, rfl, rfl, hc1, by decide, by decide, six0 _, rfl, ?_⟩
        have hb2 : (upd H1 c (.lst (ns.map V.int))) b = some (.dK (boxK c r z t)) := by
          rw [upd_ne nbc]
          exact hb1
        have hc2 : (upd H1 c (.lst (ns.map V.int))) c = some (.lst (ns.map V.int)) := upd_same
        have k2 : Kc c H (upd H1 c (.lst (ns.map V.int))) := (kc_same sl).cell
        have e2 : ((n0 :: ns).map V.int).eraseIdx 0 = ns.map V.int := rfl
        rw [e2]
        generalize upd H1 c (.lst (ns.map V.int)) = H2 at hb2 hc2 k2
        refine ⟨_, rfl, _, _, rfl, rfl, ⟨by decide, by decide, by decide⟩, _, _, rfl, rfl, _, _, rfl, _, rfl, b, _, rfl, bp_rest hb2, ?_⟩
        have hb3 : (upd H2 b (.dK (boxK c (if n0 - 10 ^ (18 : Int).toNat > 0 then n0 - 10 ^ (18 : Int).toNat else 0) z t))) b = _ := upd_same
        have hc3 : (upd H2 b (.dK (boxK c (if n0 - 10 ^ (18 : Int).toNat > 0 then n0 - 10 ^ (18 : Int).toNat else 0) z t))) c = some (.lst (ns.map V.int)) := by
          rw [upd_ne nbc.symm]
          exact hc2
        have k3 : Kc c H (upd H2 b (.dK (boxK c (if n0 - 10 ^ (18 : Int).toNat > 0 then n0 - 10 ^ (18 : Int).toNat else 0) z t))) := k2.dict ⟨_, hb⟩
        have r3 : 0 ≤ (if n0 - 10 ^ (18 : Int).toNat > 0 then n0 - 10 ^ (18 : Int).toNat else 0) := by split <;> omega
        generalize (if n0 - 10 ^ (18 : Int).toNat > 0 then n0 - 10 ^ (18 : Int).toNat else 0) = r1 at hb3 hc3 k3 r3
        generalize upd H2 b (.dK (boxK c r1 z t)) = H3 at hb3 hc3 k3
        refine ⟨_, rfl, b, _, rfl, bg_seed hb3, _, _, rfl, rfl, .inl ⟨by omega, by omega⟩, _, rfl, _, _, rfl, rfl, (by show (0 : Int) < 1000003; decide), _, _, rfl, rfl, .inr ⟨by decide, by decide⟩, _, _, rfl, rfl, _, _, rfl, rfl, _, _, rfl, rfl, (by show (0 : Int) < 2147483629; decide), _, rfl, b, _, rfl, bp_seed hb3, ?_⟩
        refine ⟨⟨_, rfl⟩, k3.dict ⟨_, hb⟩, ⟨ns, r1, _, t, upd_same, ?_, r3, Int.emod_nonneg _ (by decide), Int.emod_lt_of_pos _ (by decide), ?_⟩⟩
        · rw [upd_ne nbc.symm]
          exact hc3
        · rw [List.length_cons] at nl
          omega
    · rintro σ H1 ⟨⟨v2, rfl⟩, k1, B1⟩
      obtain ⟨ns, r, z, t, hb, hc, r0, z0, z1, nl⟩ := B1.ex
      have nbc := B1.ne
      refine ⟨_, rfl, b, _, rfl, bg_rest hb, _, _, rfl, rfl, _, rfl, ?_⟩
      refine ite2 (fun hr0 => ?_) (fun hr0 => ?_)
      · refine ⟨_, rfl, b, _, rfl, bg_rest hb, _, rfl, _, _, rfl, rfl, by omega, ?_⟩
        refine ⟨_, rfl, b, _, rfl, bg_rest hb, _, rfl, _, _, rfl, rfl, ⟨by omega, by omega⟩, _, rfl, b, _, rfl, bp_rest hb, ?_⟩
        refine ⟨_, rfl, ?_⟩
        have e1 : r.fmod m = r % m := Int.fmod_eq_emod_of_nonneg _ (by omega)
        have e2 : r.fdiv m = r / m := Int.fdiv_eq_ediv_of_nonneg _ (by omega)
        refine h _ _ (k1.dict B.dict) ⟨ns, _, z, t, upd_same, ?_, ?_, z0, z1, nl⟩ ?_ ?_
        · rw [upd_ne nbc.symm]
          exact hc
        · rw [e2]
          exact Int.ediv_nonneg r0 (by omega)
        · rw [e1]
          exact Int.emod_nonneg _ (by omega)
        · rw [e1]
          exact Int.emod_lt_of_pos _ (by omega)
      · refine ⟨_, rfl, b, _, rfl, bg_turn hb, _, _, rfl, rfl, _, rfl, b, _, rfl, bp_turn hb, ?_⟩
        have hb2 : (upd H1 b (.dK (boxK c r z (t + 1)))) b = _ := upd_same
        have hc2 : (upd H1 b (.dK (boxK c r z (t + 1)))) c = some (.lst (ns.map V.int)) := by
          rw [upd_ne nbc.symm]
          exact hc
        have k2 : Kc c H (upd H1 b (.dK (boxK c r z (t + 1)))) := k1.dict B.dict
        generalize upd H1 b (.dK (boxK c r z (t + 1))) = H2 at hb2 hc2 k2
        refine ⟨_, rfl, b, _, rfl, bg_seed hb2, _, _, rfl, rfl, .inl ⟨by omega, by omega⟩, _, rfl, b, _, rfl, bg_turn hb2, _, _, rfl, rfl, .inr ⟨by decide, by decide⟩, _, _, rfl, rfl, _, _, rfl, rfl, _, _, rfl, rfl, (by show (0 : Int) < 2147483629; decide), ?_⟩
        have y0 : 0 ≤ (z * 16807 + (t + 1) * 7919 + 3) % 2147483629 := Int.emod_nonneg _ (by decide)
        have y1 : (z * 16807 + (t + 1) * 7919 + 3) % 2147483629 < 2147483629 := Int.emod_lt_of_pos _ (by decide)
        refine ⟨_, rfl, _, rfl, _, _, rfl, rfl, .inl ⟨by omega, by omega⟩, _, rfl, _, _, rfl, rfl, .inl ⟨by decide, by decide⟩, _, _, rfl, rfl, _, _, rfl, rfl, _, _, rfl, rfl, (by show (0 : Int) < 2147483629; decide), _, rfl, b, _, rfl, bp_seed hb2, ?_⟩
        refine ⟨_, rfl, b, _, rfl, bg_seed upd_same, _, _, rfl, rfl, ⟨by decide, by decide⟩, _, rfl, b, _, rfl, bg_seed upd_same, _, _, rfl, rfl, (by show (0 : Int) < 127; decide), _, _, rfl, rfl, .inr ⟨by decide, by decide⟩, _, _, rfl, rfl, _, rfl, _, _, rfl, rfl, by omega, ?_⟩
        show Q (.int (Int.fmod _ m)) _
        rw [Int.fmod_eq_emod_of_nonneg _ (by omega)]
        refine h _ _ (k2.dict B.dict) ⟨ns, r, _, t + 1, upd_same, ?_, r0, Int.emod_nonneg _ (by decide), Int.emod_lt_of_pos _ (by decide), nl⟩ (Int.emod_nonneg _ (by omega)) (Int.emod_lt_of_pos _ (by omega))
        rw [upd_ne nbc.symm]
        exact hc2
end
end RL
/-! Comprehensions whose turns leave all that was there as it was. -/
namespace RL
open PySem PySem.Spec PyProof.Rows L2 RLM
/-- all tuples stay -/
def TK (H H' : Hp) : Prop := ∀ (a : Addr) (xs : List V), H a = some (.tup xs) → H' a = some (.tup xs)
theorem TK.refl (H : Hp) : TK H H := fun _ _ h => h
theorem TK.trans {H H1 H2 : Hp} (a : TK H H1) (b : TK H1 H2) : TK H H2 := fun x xs h => b x xs (a x xs h)
theorem tk_same {H H' : Hp} (s : Same H H') : TK H H' := fun a xs h => s _ _ h
theorem tk_lst {H : Hp} {D : Addr} {acc bcc : List V} (h : H D = some (.lst acc)) : TK H (upd H D (.lst bcc)) := fun a xs e => by
  rw [upd_ne (ne_of e h (by intro z; cases z))]
  exact e
theorem Kc.tk {c : Addr} {H H' : Hp} (k : Kc c H H') (hc : ∃ ys, H c = some (.lst ys)) : TK H H' := fun a xs h => k.tup hc h
section
variable {J : It} {n : Nat} {G : Hp → Prop} {Y : Nat → Hp → V → Hp → Prop} {g : TG} {tt : TT} {te : TE} {vs : List Nat} {σ : L2.St} {H : Hp} {D : Addr} {Qd : Hp → Prop}
/-- [e for x in ..]: what R says of each -/
theorem lc_rel (w : Walk J n G Y) (R : Nat → V → Hp → Prop) (hn : n ≤ 100000) (hD : H D = none) (tk : ∀ k v H1 H2, R k v H1 → TK H1 H2 → R k v H2) (hG : ∀ H1, Same H H1 → G H1)
    (hs : ∀ i x H1 H2 (Nx : V → Hp → Prop), i < n → Same H H1 → Y i H1 x H2 → (∀ y H4, R i y H4 → Same H1 H4 → Nx y H4) → g x (wipe σ vs) H2 fun σ2 H3 => wipe σ2 vs = wipe σ vs ∧ te σ2 H3 Nx)
    (hd : ∀ H1 ys, H1 D = some (.lst ys) → ys.length = n → (∀ k y, ys[k]? = some y → R k y H1) → Same H H1 → Qd H1) :
    ∃ W : Nat → Nat → Hp → Prop, (∃ m, W 0 m (upd H D (.lst []))) ∧ ∀ i m H, W i m H →
      (J.stop i H ∧ Qd H) ∨ (J.go i H ∧ ∃ Nx : Hp → Prop, (∀ H', Nx H' → ∃ m', m' < m ∧ W (i + 1) m' H') ∧ ∀ x H', J.yld i H x H' → g x (wipe σ vs) H' fun σ2 H2 => wipe σ2 vs = wipe σ vs ∧ tYes σ2 H2 fun b H3 =>
        if b = true then te σ2 H3 fun y H4 => ∃ acc, H4 D = some (.lst acc) ∧ acc.length < sizeLine ∧ Nx (upd H4 D (.lst (acc ++ [y]))) else Nx H3) := by
  refine lc_it w (fun i H1 => ∃ ys, H1 D = some (.lst ys) ∧ ys.length = i ∧ (∀ k y, ys[k]? = some y → R k y H1) ∧ Same H H1) ⟨[], upd_same, rfl, fun k y e => (by simp at e), same_upd hD⟩ (fun i H1 _ ⟨_, _, _, _, s1⟩ => hG H1 s1) ?_ (fun H1 ⟨ys, h1, h2, h3, h4⟩ => hd H1 ys h1 h2 h3 h4)
  rintro i x H1 H2 hi ⟨ys, h1, h2, h3, s1⟩ hY
  refine hs i x H1 H2 (fun y H4 => ∃ acc, H4 D = some (.lst acc) ∧ acc.length < sizeLine ∧ ∃ zs, (upd H4 D (.lst (acc ++ [y]))) D = some (.lst zs) ∧ zs.length = i + 1 ∧ (∀ k y', zs[k]? = some y' → R k y' (upd H4 D (.lst (acc ++ [y])))) ∧ Same H (upd H4 D (.lst (acc ++ [y])))) hi s1 hY fun y H4 r s4 => ?_
  have h4 := s4 _ _ h1
  refine ⟨ys, h4, ?_, ys ++ [y], upd_same, by simp [h2], fun k y' e => ?_, same_mut (s1.trans s4) hD⟩
  · rw [h2]
    exact Nat.lt_of_lt_of_le hi (Nat.le_trans hn (by decide))
  · by_cases hk : k < ys.length
    · rw [List.getElem?_append_left hk] at e
      exact tk _ _ _ _ (h3 k y' e) ((tk_same s4).trans (tk_lst h4))
    · rw [List.getElem?_append_right (by omega)] at e
      have ek : k = ys.length := by
        obtain ⟨z1, _⟩ := List.getElem?_eq_some_iff.mp e
        simp at z1
        omega
      rw [ek, Nat.sub_self] at e
      cases e
      rw [ek, h2]
      exact tk _ _ _ _ r (tk_lst h4)
/-- [f(x) for x in ..]: plain values -/
theorem lc_val (w : Walk J n G Y) (f : Nat → V) (hn : n ≤ 100000) (hD : H D = none) (hG : ∀ H1, Same H H1 → G H1)
    (hs : ∀ i x H1 H2 (Nx : V → Hp → Prop), i < n → Same H H1 → Y i H1 x H2 → (∀ H4, Same H1 H4 → Nx (f i) H4) → g x (wipe σ vs) H2 fun σ2 H3 => wipe σ2 vs = wipe σ vs ∧ te σ2 H3 Nx)
    (hd : ∀ H1, H1 D = some (.lst ((List.range n).map f)) → Same H H1 → Qd H1) :
    ∃ W : Nat → Nat → Hp → Prop, (∃ m, W 0 m (upd H D (.lst []))) ∧ ∀ i m H, W i m H →
      (J.stop i H ∧ Qd H) ∨ (J.go i H ∧ ∃ Nx : Hp → Prop, (∀ H', Nx H' → ∃ m', m' < m ∧ W (i + 1) m' H') ∧ ∀ x H', J.yld i H x H' → g x (wipe σ vs) H' fun σ2 H2 => wipe σ2 vs = wipe σ vs ∧ tYes σ2 H2 fun b H3 =>
        if b = true then te σ2 H3 fun y H4 => ∃ acc, H4 D = some (.lst acc) ∧ acc.length < sizeLine ∧ Nx (upd H4 D (.lst (acc ++ [y]))) else Nx H3) := by
  refine lc_rel w (fun k v _ => v = f k) hn hD (fun _ _ _ _ h _ => h) hG (fun i x H1 H2 Nx hi s1 hY h => hs i x H1 H2 Nx hi s1 hY fun H4 s4 => h _ _ rfl s4) fun H1 ys h1 h2 h3 s1 => hd H1 ?_ s1
  rw [h1]
  congr 2
  refine List.ext_getElem? fun k => ?_
  by_cases hk : k < n
  · have e : ys[k]? = some ys[k] := List.getElem?_eq_getElem (by omega)
    rw [e, h3 k _ e, List.getElem?_map, List.getElem?_range hk]
    rfl
  · rw [List.getElem?_eq_none (by omega), List.getElem?_eq_none (by simp; omega)]
/-- [b for b in .. if t(b)], the b numbers -/
theorem lc_filt (w : Walk J n G Y) (xs : List Nat) (t : Nat → Bool) (hx : n = xs.length) (hn : n ≤ 100000) (hD : H D = none) (hG : ∀ H1, Same H H1 → G H1)
    (hs : ∀ i b x H1 H2 (N1 : V → Hp → Prop) (N0 : Hp → Prop), xs[i]? = some b → Same H H1 → Y i H1 x H2 → (∀ H4, t b = true → Same H1 H4 → N1 (vI b) H4) → (∀ H4, t b = false → Same H1 H4 → N0 H4) →
      g x (wipe σ vs) H2 fun σ2 H3 => wipe σ2 vs = wipe σ vs ∧ tt σ2 H3 fun c H4 => if c = true then te σ2 H4 N1 else N0 H4)
    (hd : ∀ H1, H1 D = some (.lst ((xs.filter t).map vI)) → Same H H1 → Qd H1) :
    ∃ W : Nat → Nat → Hp → Prop, (∃ m, W 0 m (upd H D (.lst []))) ∧ ∀ i m H, W i m H →
      (J.stop i H ∧ Qd H) ∨ (J.go i H ∧ ∃ Nx : Hp → Prop, (∀ H', Nx H' → ∃ m', m' < m ∧ W (i + 1) m' H') ∧ ∀ x H', J.yld i H x H' → g x (wipe σ vs) H' fun σ2 H2 => wipe σ2 vs = wipe σ vs ∧ tt σ2 H2 fun b H3 =>
        if b = true then te σ2 H3 fun y H4 => ∃ acc, H4 D = some (.lst acc) ∧ acc.length < sizeLine ∧ Nx (upd H4 D (.lst (acc ++ [y]))) else Nx H3) := by
  refine lc_it w (fun i H1 => H1 D = some (.lst (((xs.take i).filter t).map vI)) ∧ Same H H1) ⟨upd_same, same_upd hD⟩ (fun i H1 _ ⟨_, s1⟩ => hG H1 s1) ?_ (fun H1 ⟨h1, h2⟩ => hd H1 (by rw [hx, List.take_length] at h1; exact h1) h2)
  rintro i x H1 H2 hi ⟨h1, s1⟩ hY
  have hb : xs[i]? = some (xs[i]'(by omega)) := List.getElem?_eq_getElem _
  generalize xs[i]'(by omega) = b at hb
  have et : xs.take (i + 1) = xs.take i ++ [b] := by
    rw [List.take_add_one, hb]
    rfl
  refine hs i b x H1 H2 _ _ hb s1 hY (fun H4 tb s4 => ⟨_, s4 _ _ h1, ?_, ?_, same_mut (s1.trans s4) hD⟩) (fun H4 tb s4 => ⟨?_, s1.trans s4⟩)
  · rw [List.length_map]
    refine Nat.lt_of_le_of_lt (List.length_filter_le _ _) (Nat.lt_of_le_of_lt (?_ : _ ≤ 100000) (by decide))
    rw [List.length_take]
    omega
  · rw [upd_same, et, List.filter_append, List.filter_cons, if_pos tb, List.map_append]
    rfl
  · rw [s4 _ _ h1, et, List.filter_append, List.filter_cons, if_neg (by rw [tb]; exact Bool.false_ne_true), List.filter_nil, List.append_nil]
end
/-- what stands in a list or a tuple of numbers -/
theorem get_vI {xs : List Nat} {i : Nat} {x : V} (h : (xs.map vI)[i]? = some x) : ∃ b, xs[i]? = some b ∧ x = vI b := by
  rw [List.getElem?_map] at h
  cases e : xs[i]? with
  | none => rw [e] at h; cases h
  | some b => rw [e] at h; exact ⟨b, rfl, (Option.some.inj h).symm⟩
theorem get_mapV {α : Type} {f : α → V} {xs : List α} {i : Nat} {x : V} (h : (xs.map f)[i]? = some x) : ∃ b, xs[i]? = some b ∧ x = f b := by
  rw [List.getElem?_map] at h
  cases e : xs[i]? with
  | none => rw [e] at h; cases h
  | some b => rw [e] at h; exact ⟨b, rfl, (Option.some.inj h).symm⟩
theorem range_vI (n : Nat) (f : Nat → Nat) : (List.range n).map (fun i => vI (f i)) = ((List.range n).map f).map vI := by rw [List.map_map]; rfl
theorem filter_lot {n : Nat} {p : Nat → Prop} {t : Nat → Bool} {xs : List Nat} (hs : xs.Pairwise (· < ·)) (hm : ∀ b, b ∈ xs ∧ t b = true ↔ b < n ∧ p b) : xs.filter t = lotP n p :=
  lotP_of (hs.filter _) fun b => by rw [List.mem_filter]; exact hm b
end RL
namespace RL
open PySem PySem.Spec PyProof.Rows L2 RLM
section
variable {P : Program} {w : World} {K : PySem.W.Frag} {mg : Str → Option Value} {base : Heap}
/-! ### from a menu -/
def spFrom : Sp := fun vs H Q _ => ∃ (b c l : Addr) (xs : List V), vs = [.ref b, .ref l] ∧ Box b c H ∧ H l = some (.lst xs) ∧ l ≠ c ∧ 1 ≤ xs.length ∧ xs.length ≤ 1000 ∧ ∀ H' x, Kc c H H' → Box b c H' → x ∈ xs → Q x H'
theorem sc__law_from : FnScope ["_law_box_here", "_law_menu"] ["_law_box_here", "_law_menu"] (defScope s__law_from) := ⟨rfl, rfl, rfl, by decide +kernel, rfl, by decide +kernel, by decide +kernel⟩
theorem ok_from (T : Tx K mg) : Has P w K mg base (He.ga K "_law_from") 2 ["_law_box_here", "_law_menu"] spFrom := by
  obtain ⟨⟨fd_law_pick, F_law_pick, b_law_pick⟩, kp_law_pick⟩ := ok_pick (P := P) (w := w) (base := base) T
  obtain ⟨fd, F⟩ := T.d__law_from
  refine ⟨⟨fd, F.ok sc__law_from (fun vs H Q E h => ?_) (fun cdv A outer s H vs Q E hr h => ?_), F.bindsN fun _ _ _ _ _ _ us hl => match us, hl with | [_, _], _ => rfl⟩, F.kp⟩
  · obtain ⟨b, c, l, xs, rfl, _⟩ := h
    rfl
  · obtain ⟨b, c, l, xs, rfl, B, hl, nc, l1, l2, h⟩ := h
    have hr_law_pick : Room 1 _ := hr.mono (by decide)
    refine ⟨_, PSs.nox (pss_one (ps_ret (pe_ix (ixS (K := K)) (pv 1) (pe_call F_law_pick hr_law_pick rfl T.glo_law_pick kp_law_pick b_law_pick .nil pass0 (pa_cons (pv 0) (pa_cons (pe_callB (lenK (K := K)) (by rfl) T.free_len (by decide +kernel) (pa_cons (pv 1) pa_nil)) pa_nil))) (fun _ _ => rfl)))), ?_⟩
    refine ⟨_, rfl, _, rfl, _, rfl, l, _, rfl, .inl (SqL.of hl), b, c, _, rfl, B, by omega, by omega, fun H1 i k1 B1 i0 i1 => ?_⟩
    have hl1 : H1 l = some (.lst xs) := k1 _ _ nc (fun _ z => by cases z) hl
    obtain ⟨j, rfl⟩ : ∃ j : Nat, i = (j : Nat) := ⟨i.toNat, by omega⟩
    have hj : j < xs.length := by omega
    refine .inl ⟨l, xs, _, xs[j], rfl, rfl, SqL.of hl1, atI_nat (by simp [hj]), h H1 _ k1 B1 (List.getElem_mem hj)⟩
/-! ### from a tuple -/
def spFromT : Sp := fun vs H Q _ => ∃ (b c l : Addr) (xs : List V), vs = [.ref b, .ref l] ∧ Box b c H ∧ H l = some (.tup xs) ∧ 1 ≤ xs.length ∧ xs.length ≤ 1000 ∧ ∀ H' x, Kc c H H' → Box b c H' → x ∈ xs → Q x H'
theorem ok_fromT (T : Tx K mg) : Has P w K mg base (He.ga K "_law_from") 2 ["_law_box_here", "_law_menu"] spFromT := by
  obtain ⟨⟨fd_law_pick, F_law_pick, b_law_pick⟩, kp_law_pick⟩ := ok_pick (P := P) (w := w) (base := base) T
  obtain ⟨fd, F⟩ := T.d__law_from
  refine ⟨⟨fd, F.ok sc__law_from (fun vs H Q E h => ?_) (fun cdv A outer s H vs Q E hr h => ?_), F.bindsN fun _ _ _ _ _ _ us hl => match us, hl with | [_, _], _ => rfl⟩, F.kp⟩
  · obtain ⟨b, c, l, xs, rfl, _⟩ := h
    rfl
  · obtain ⟨b, c, l, xs, rfl, B, hl, l1, l2, h⟩ := h
    have hr_law_pick : Room 1 _ := hr.mono (by decide)
    refine ⟨_, PSs.nox (pss_one (ps_ret (pe_ix (ixS (K := K)) (pv 1) (pe_call F_law_pick hr_law_pick rfl T.glo_law_pick kp_law_pick b_law_pick .nil pass0 (pa_cons (pv 0) (pa_cons (pe_callB (lenK (K := K)) (by rfl) T.free_len (by decide +kernel) (pa_cons (pv 1) pa_nil)) pa_nil))) (fun _ _ => rfl)))), ?_⟩
    refine ⟨_, rfl, _, rfl, _, rfl, l, _, rfl, (.inr (SqT.of hl)), b, c, _, rfl, B, by omega, by omega, fun H1 i k1 B1 i0 i1 => ?_⟩
    have hl1 : H1 l = some (.tup xs) := k1.tup B.lst hl
    obtain ⟨j, rfl⟩ : ∃ j : Nat, i = (j : Nat) := ⟨i.toNat, by omega⟩
    have hj : j < xs.length := by omega
    refine .inr (.inl ⟨l, xs, _, xs[j], rfl, rfl, SqT.of hl1, atI_nat (by simp [hj]), h H1 _ k1 B1 (List.getElem_mem hj)⟩)
/-! ### mixed -/
def spMixed : Sp := fun vs H Q _ => ∃ (b c l : Addr) (xs : List V), vs = [.ref b, .ref l] ∧ Box b c H ∧ H l = some (.lst xs) ∧ l ≠ c ∧ xs.length ≤ 1000 ∧ ∀ H' p ys, ys.Perm xs → H' p = some (.lst ys) → p ≠ c → Kc c H H' → Box b c H' → Q (.ref p) H'
theorem perm_ins {α : Type} (ys : List α) (j : Nat) (y : α) : (ys.take j ++ [y] ++ ys.drop j).Perm (ys ++ [y]) := by
  have e : ys ++ [y] = ys.take j ++ (ys.drop j ++ [y]) := by rw [← List.append_assoc, List.take_append_drop]
  rw [e, List.append_assoc]
  exact (List.perm_append_comm).append_left _
theorem sc__law_mixed : FnScope ["_law_box_here", "_law_things", "_law_found", "_law_thing"] ["_law_box_here", "_law_things"] (defScope s__law_mixed) := ⟨rfl, rfl, rfl, by decide +kernel, rfl, by decide +kernel, by decide +kernel⟩
theorem ok_mixed (T : Tx K mg) : Has P w K mg base (He.ga K "_law_mixed") 2 ["_law_box_here", "_law_things"] spMixed := by
  obtain ⟨⟨fd_law_pick, F_law_pick, b_law_pick⟩, kp_law_pick⟩ := ok_pick (P := P) (w := w) (base := base) T
  obtain ⟨fd, F⟩ := T.d__law_mixed
  refine ⟨⟨fd, F.ok sc__law_mixed (fun vs H Q E h => ?_) (fun cdv A outer s H vs Q E hr h => ?_), F.bindsN fun _ _ _ _ _ _ us hl => match us, hl with | [_, _], _ => rfl⟩, F.kp⟩
  · obtain ⟨b, c, l, xs, rfl, _⟩ := h
    rfl
  · obtain ⟨b, c, l, xs, rfl, B, hl, nc, l2, h⟩ := h
    have hr_law_pick : Room 1 _ := hr.mono (by decide)
    refine ⟨_, PSs.nox (pss_cons (ps_set (i := 2) sc__law_mixed.nd rfl (Or.inl rfl) (pe_lst pa_nil))
      (pss_cons (ps_for PassesOwn.never rfl (piL (K := K) (pv 1)) (pg_name (i := 3) sc__law_mixed.nd rfl (Or.inl rfl)) (pss_one (ps_expr (bmK (K := K) PySem.F.plainAttrs_list PySem.F.slot_list_insert PySem.F.type_list_insert mt_insert (pv 2) (pa_cons (pe_call F_law_pick hr_law_pick rfl T.glo_law_pick kp_law_pick b_law_pick .nil pass0 (pa_cons (pv 0) (pa_cons (pe_op op_add (pe_callB (lenK (K := K)) (by rfl) T.free_len (by decide +kernel) (pa_cons (pv 2) pa_nil)) pe_int) pa_nil))) (pa_cons (pv 3) pa_nil))))))
      (pss_one (ps_ret (pv 2))))), ?_⟩
    refine ⟨Nat.zero_le _, fun p hp => ?_⟩
    have s0 : Same H (upd H p (.lst [])) := same_upd hp
    have hpc : p ≠ c := fun z => by
      obtain ⟨ys, hc⟩ := B.lst
      rw [z, hc] at hp
      cases hp
    refine ⟨_, rfl, l, rfl, ⟨_, SqL.of (s0 _ _ hl)⟩, for_list (K := K) (a := l) (xs := xs) (fun i σ H1 => ∃ (ys : List V) (v : Option V), σ = [some (.ref b), some (.ref l), some (.ref p), v] ∧ ys.Perm (xs.take i) ∧ H1 p = some (.lst ys) ∧ Kc c H H1 ∧ Box b c H1)
      ⟨[], none, rfl, by simp, upd_same, kc_same s0, B.same s0⟩ (fun i σ H1 _ ⟨_, _, _, _, _, k1, _⟩ => SqL.of (k1 _ _ nc (fun _ z => by cases z) hl)) ?_ ?_⟩
    · rintro i y σ H1 hi ⟨ys, v, rfl, pm, h1, k1, B1⟩
      have li : i < xs.length := (List.getElem?_eq_some_iff.mp hi).1
      have ly : ys.length = i := by
        rw [pm.length_eq, List.length_take]
        omega
      refine ⟨_, rfl, .inl ⟨rfl, _, SqL.of h1⟩, _, rfl, _, rfl, p, _, rfl, .inl (SqL.of h1), _, _, rfl, rfl, b, c, _, rfl, B1, by omega, by omega, fun H2 j k2 B2 j0 j1 => ?_⟩
      have h2 : H2 p = some (.lst ys) := k2 _ _ hpc (fun _ z => by cases z) h1
      refine ⟨_, rfl, p, ys, j, y, rfl, rfl, h2, Nat.lt_of_le_of_lt (show ys.length ≤ 1000 by omega) (by decide), j0, by omega, ?_⟩
      refine ⟨_, _, rfl, ?_, upd_same, (k1.trans k2).upd hp, ?_⟩
      · have e : xs.take (i + 1) = xs.take i ++ [y] := by
          rw [List.take_add_one, hi]
          rfl
        rw [e]
        exact (perm_ins ys j.toNat y).trans (pm.append_right _)
      · obtain ⟨ns, r, z, t, g1, g2, g3⟩ := B2.ex
        refine ⟨ns, r, z, t, ?_, ?_, g3⟩
        · rw [upd_ne (ne_of g1 h2 (by intro z; cases z))]
          exact g1
        · rw [upd_ne hpc.symm]
          exact g2
    · rintro σ H1 ⟨ys, v, rfl, pm, h1, k1, B1⟩
      rw [List.take_length] at pm
      exact ⟨_, rfl, h H1 p ys pm h1 hpc k1 B1⟩
end
end RL
namespace RL
open PySem PySem.Spec PyProof.Rows L2 RLM
theorem Box.upd {b c p : Addr} {H : Hp} {o : HO} (h : Box b c H) (hp : p ≠ c) (hb : p ≠ b) : Box b c (L2.upd H p o) := by
  obtain ⟨ns, r, s, t, h1, h2, h3⟩ := h.ex
  exact ⟨ns, r, s, t, by rw [upd_ne hb.symm]; exact h1, by rw [upd_ne hp.symm]; exact h2, h3⟩
theorem Box.new {b c p : Addr} {H : Hp} (h : Box b c H) (hp : H p = none) : p ≠ c ∧ p ≠ b := by
  obtain ⟨ns, r, s, t, h1, h2, h3⟩ := h.ex
  exact ⟨(ne_of_none h2 hp).symm, (ne_of_none h1 hp).symm⟩
/-- the ways of a list -/
def WaysOk (n : Nat) (L : List (Addr × Nat × Nat)) : Prop := (L.map (·.2)).Nodup ∧ (∀ q ∈ L, q.2.1 < n ∧ q.2.2 < n ∧ q.2.1 ≠ q.2.2) ∧ L.length ≤ 64
theorem WaysOk.sub {n : Nat} {L M : List (Addr × Nat × Nat)} (h : WaysOk n L) (s : M.Sublist L) : WaysOk n M :=
  ⟨(s.map _).nodup h.1, fun q hq => h.2.1 q (s.subset hq), Nat.le_trans s.length_le h.2.2⟩
theorem perm_map {α β : Type} {f : α → β} : ∀ {xs : List α} {ys : List β}, ys.Perm (xs.map f) → ∃ zs : List α, ys = zs.map f ∧ zs.Perm xs
  | [], ys, h => ⟨[], by rw [List.Perm.eq_nil h]; rfl, List.Perm.refl _⟩
  | x :: xs, ys, h => by
    have hm : f x ∈ ys := h.mem_iff.mpr (by simp)
    obtain ⟨y1, y2, rfl⟩ := List.append_of_mem hm
    have h2 : (y1 ++ y2).Perm (xs.map f) := by
      have := List.perm_middle.symm.trans h
      exact this.cons_inv
    obtain ⟨zs, e, p⟩ := perm_map h2
    obtain ⟨z1, z2, rfl, e1, e2⟩ := List.map_eq_append_iff.mp e.symm
    refine ⟨z1 ++ x :: z2, ?_, List.perm_middle.trans (p.cons x)⟩
    rw [List.map_append, List.map_cons, e1, e2]
/-- [way for way in ways if ..], whatever the test says -/
theorem filt {K : PySem.W.Frag} {b c l D : Addr} {k : Nat} {H : Hp} {σ : L2.St} {vs : List Nat} {tt : TT} {L : List (Addr × Nat × Nat)} {Qd : Hp → Prop} (PL : PairsAt c H l L) (B : Box b c H) (len : L.length ≤ 64) (hD : H D = none)
    (hw : ∀ x : V, wipe ((wipe σ vs).set k (some x)) vs = wipe σ vs) (hk : ∀ x : V, ((wipe σ vs).set k (some x))[k]? = some (some x))
    (htt : ∀ q ∈ L, ∀ H1, Kc c H H1 → Box b c H1 → ∀ R : Bool → Hp → Prop, (∀ t H2, Kc c H1 H2 → Box b c H2 → R t H2) → tt ((wipe σ vs).set k (some (.ref q.1))) H1 R)
    (hd : ∀ H1 M, M.Sublist L → PairsAt c H1 D M → Kc c H H1 → Box b c H1 → Qd H1) :
    ∃ W : Nat → Nat → Hp → Prop, (∃ m, W 0 m (upd H D (.lst []))) ∧ ∀ i m H, W i m H →
      ((Itl K l).stop i H ∧ Qd H) ∨ ((Itl K l).go i H ∧ ∃ Nx : Hp → Prop, (∀ H', Nx H' → ∃ m', m' < m ∧ W (i + 1) m' H') ∧ ∀ x H', (Itl K l).yld i H x H' → gName k x (wipe σ vs) H' fun σ2 H2 => wipe σ2 vs = wipe σ vs ∧ tt σ2 H2 fun b H3 =>
        if b = true then tVar k σ2 H3 fun y H4 => ∃ acc, H4 D = some (.lst acc) ∧ acc.length < sizeLine ∧ Nx (upd H4 D (.lst (acc ++ [y]))) else Nx H3) := by
  have Dc := (B.new hD).1
  have Db := (B.new hD).2
  have s0 : Same H (upd H D (.lst [])) := same_upd hD
  refine lc_list (K := K) (a := l) (xs := L.map fun q => V.ref q.1) (fun i H1 => ∃ M : List (Addr × Nat × Nat), M.Sublist (L.take i) ∧ H1 D = some (.lst (M.map fun q => V.ref q.1)) ∧ Kc c H H1 ∧ Box b c H1)
    ⟨[], by simp, upd_same, kc_same s0, B.same s0⟩ (fun i H1 _ ⟨_, _, _, k1, _⟩ => SqL.of (k1 _ _ PL.ne (fun _ z => by cases z) PL.at_)) ?_ ?_
  · rintro i x H1 hx ⟨M, sM, hM, k1, B1⟩
    rw [List.getElem?_map] at hx
    obtain ⟨q, hq, rfl⟩ : ∃ q, L[i]? = some q ∧ V.ref q.1 = x := by
      cases e : L[i]? with
      | none => rw [e] at hx; cases hx
      | some q => rw [e] at hx; exact ⟨q, rfl, Option.some.inj hx⟩
    have et : L.take (i + 1) = L.take i ++ [q] := by
      rw [List.take_add_one, hq]
      rfl
    refine ⟨hw _, htt q (List.mem_of_getElem? hq) H1 k1 B1 _ fun t H2 k2 B2 => ?_⟩
    have hM2 : H2 D = some (.lst (M.map fun q => V.ref q.1)) := k2 _ _ Dc (fun _ z => by cases z) hM
    have lM : M.length ≤ 64 := Nat.le_trans sM.length_le (by rw [List.length_take]; omega)
    cases t with
    | false =>
      refine iteF ⟨M, ?_, hM2, k1.trans k2, B2⟩
      rw [et]
      exact sM.trans (List.sublist_append_left _ _)
    | true =>
      refine iteT ⟨_, hk _, _, hM2, ?_, M ++ [q], ?_, ?_, (k1.trans k2).upd hD, B2.upd Dc Db⟩
      · rw [List.length_map]
        exact Nat.lt_of_le_of_lt lM (by decide)
      · rw [et]
        exact sM.append (List.Sublist.refl _)
      · rw [upd_same, List.map_append]
        rfl
  · rintro H1 ⟨M, sM, hM, k1, B1⟩
    rw [List.length_map, List.take_length] at sM
    exact hd H1 M sM ⟨hM, Dc, fun q hq => k1.tup B.lst (PL.tup q (sM.subset hq))⟩ k1 B1
section
variable {P : Program} {w : World} {K : PySem.W.Frag} {mg : Str → Option Value} {base : Heap}
def spWays : Sp := fun vs H Q _ => ∃ (b c : Addr) (n : Nat), vs = [.ref b, vI n] ∧ Box b c H ∧ 1 ≤ n ∧ n ≤ 8 ∧ ∀ H' l L, PairsAt c H' l L → WaysOk n L → Kc c H H' → Box b c H' → Q (.ref l) H'
theorem sc__law_ways : FnScope ["_law_box_here", "_law_many", "_law_every", "_law_one", "_law_sort", "_law_thick", "_law_other", "_law_way"] ["_law_box_here", "_law_many"] (defScope s__law_ways) := ⟨rfl, rfl, rfl, by decide +kernel, rfl, by decide +kernel, by decide +kernel⟩
theorem ok_ways (T : Tx K mg) : Has P w K mg base (He.ga K "_law_ways") 3 ["_law_box_here", "_law_many"] spWays := by
  obtain ⟨⟨fd_law_pick, F_law_pick, b_law_pick⟩, kp_law_pick⟩ := ok_pick (P := P) (w := w) (base := base) T
  obtain ⟨⟨fd_law_mixed, F_law_mixed, b_law_mixed⟩, kp_law_mixed⟩ := ok_mixed (P := P) (w := w) (base := base) T
  obtain ⟨fd, F⟩ := T.d__law_ways
  refine ⟨⟨fd, F.ok sc__law_ways (fun vs H Q E h => ?_) (fun cdv A outer s H vs Q E hr h => ?_), F.bindsN fun _ _ _ _ _ _ us hl => match us, hl with | [_, _], _ => rfl⟩, F.kp⟩
  · obtain ⟨b, c, n, rfl, _⟩ := h
    rfl
  · obtain ⟨b, c, n, rfl, B, n1, n8, h⟩ := h
    have hr_law_pick : Room 1 _ := hr.mono (by decide)
    have hr_law_mixed : Room 2 _ := hr.mono (by decide)
    refine ⟨_, PSs.nox (pss_cons (ps_set (i := 2) sc__law_ways.nd rfl (Or.inl rfl) (pe_lst pa_nil))
      (pss_cons (ps_for PassesOwn.never rfl (pi_range1 (by rfl) T.free_range (pa_cons (pv 1) pa_nil)) (pg_name (i := 3) sc__law_ways.nd rfl (Or.inr rfl)) (pss_one (ps_set (i := 2) sc__law_ways.nd rfl (Or.inl rfl) (pe_op op_cat (pv 2) (pe_lc (own := [("_law_other", 6)]) (g := (gName 6)) rfl sc__law_ways.nd (pi_range1 (by rfl) T.free_range (pa_cons (pv 1) pa_nil)) (blkOk_by (by kernel_rfl)) (fun _ _ _ _ _ => (pg_name (i := 6) sc__law_ways.nd rfl (Or.inl rfl))) (fun _ _ _ _ _ => (pts_one (pt_cmpR op_ne (pv 6) (pv 3) (nomark _)))) (fun _ _ _ _ _ => (pe_tup (pa_cons (pv 3) (pa_cons (pv 6) pa_nil)))))))))
      (pss_cons (ps_asg (pe_tup (pa_cons (pe_call F_law_pick hr_law_pick rfl T.glo_law_pick kp_law_pick b_law_pick .nil pass0 (pa_cons (pv 0) (pa_cons pe_int pa_nil))) (pa_cons (pe_op op_add pe_int (pe_call F_law_pick hr_law_pick rfl T.glo_law_pick kp_law_pick b_law_pick .nil pass0 (pa_cons (pv 0) (pa_cons pe_int pa_nil)))) pa_nil))) (pgT (K := K) (n := 2) rfl (pgs_cons (pg_name (i := 4) sc__law_ways.nd rfl (Or.inl rfl)) (pgs_cons (pg_name (i := 5) sc__law_ways.nd rfl (Or.inr rfl)) pgs_nil))))
      (pss_cons (ps_if (pt_cmpR op_eq (pv 4) pe_int (nomark _)) (pss_one (ps_ret (pe_lc (own := [("_law_way", 7)]) (g := (gName 7)) rfl sc__law_ways.nd (piL (K := K) (pv 2)) (blkOk_by (by kernel_rfl)) (fun _ _ _ _ _ => (pg_name (i := 7) sc__law_ways.nd rfl (Or.inl rfl))) (fun _ _ _ _ _ => (pts_one (pt_cmpR op_eq (pe_ix (ixT (K := K)) (pv 7) pe_int (fun _ _ => rfl)) (pe_op op_add (pe_ix (ixT (K := K)) (pv 7) pe_int (fun _ _ => rfl)) pe_int) (nomark _)))) (fun _ _ _ _ _ => (pv 7))))) pss_nil)
      (pss_cons (ps_if (pt_cmpR op_eq (pv 4) pe_int (nomark _)) (pss_one (ps_ret (pe_lc (own := [("_law_way", 7)]) (g := (gName 7)) rfl sc__law_ways.nd (piL (K := K) (pv 2)) (blkOk_by (by kernel_rfl)) (fun _ _ _ _ _ => (pg_name (i := 7) sc__law_ways.nd rfl (Or.inl rfl))) (fun _ _ _ _ _ => (pts_one (pt_cmpR op_eq (pe_callB call_abs (by rfl) T.free_abs (by decide +kernel) (pa_cons (pe_op op_sub (pe_ix (ixT (K := K)) (pv 7) pe_int (fun _ _ => rfl)) (pe_ix (ixT (K := K)) (pv 7) pe_int (fun _ _ => rfl))) pa_nil)) pe_int (nomark _)))) (fun _ _ _ _ _ => (pv 7))))) pss_nil)
      (pss_cons (ps_if (pt_cmpR op_eq (pv 4) pe_int (nomark _)) (pss_one (ps_ret (pe_lc (own := [("_law_way", 7)]) (g := (gName 7)) rfl sc__law_ways.nd (piL (K := K) (pv 2)) (blkOk_by (by kernel_rfl)) (fun _ _ _ _ _ => (pg_name (i := 7) sc__law_ways.nd rfl (Or.inl rfl))) (fun _ _ _ _ _ => (pts_one (pt_cmpR op_eq (pe_ix (ixT (K := K)) (pv 7) pe_int (fun _ _ => rfl)) (pe_op op_modN (pe_op op_add (pe_ix (ixT (K := K)) (pv 7) pe_int (fun _ _ => rfl)) pe_int) (pv 1)) (nomark _)))) (fun _ _ _ _ _ => (pv 7))))) pss_nil)
      (pss_cons (ps_if (pt_cmpR op_eq (pv 4) pe_int (nomark _)) (pss_one (ps_ret (pe_lc (own := [("_law_way", 7)]) (g := (gName 7)) rfl sc__law_ways.nd (piL (K := K) (pv 2)) (blkOk_by (by kernel_rfl)) (fun _ _ _ _ _ => (pg_name (i := 7) sc__law_ways.nd rfl (Or.inl rfl))) (fun _ _ _ _ _ => (pts_one (pt_cmpR (inSq (K := K)) pe_int (pv 7) (by rfl)))) (fun _ _ _ _ _ => (pv 7))))) pss_nil)
      (pss_cons (ps_if (pt_cmpR op_eq (pv 4) pe_int (nomark _)) (pss_one (ps_ret (pv 2))) pss_nil)
      (pss_one (ps_ret (pe_call F_law_mixed hr_law_mixed rfl T.glo_law_mixed kp_law_mixed b_law_mixed .nil pass0 (pa_cons (pv 0) (pa_cons (pe_lc (own := [("_law_way", 7)]) (g := (gName 7)) rfl sc__law_ways.nd (piL (K := K) (pv 2)) (blkOk_by (by kernel_rfl)) (fun _ _ _ _ _ => (pg_name (i := 7) sc__law_ways.nd rfl (Or.inl rfl))) (fun _ _ _ _ _ => (pts_one (pt_cmpR op_lt (pe_call F_law_pick hr_law_pick rfl T.glo_law_pick kp_law_pick b_law_pick .nil pass0 (pa_cons (pv 0) (pa_cons pe_int pa_nil))) (pv 5) (nomark _)))) (fun _ _ _ _ _ => (pv 7))) pa_nil))))))))))))), ?_⟩
    refine ⟨Nat.zero_le _, fun l0 hl0 => ?_⟩
    have s0 : Same H (upd H l0 (.lst [])) := same_upd hl0
    refine ⟨_, rfl, (n : Int), rfl, by omega, by omega, for_range (lo := 0) (n := ((n : Nat) : Int).toNat) (fun i σ H1 => ∃ (l : Addr) (L : List (Addr × Nat × Nat)) (v : Option V), σ = [some (.ref b), some (vI n), some (.ref l), v, none, none, none, none] ∧ PairsAt c H1 l L ∧ (L.map (·.2)).Nodup ∧ (∀ q ∈ L, q.2.1 < i ∧ q.2.2 < n ∧ q.2.1 ≠ q.2.2) ∧ L.length ≤ i * n ∧ Same H H1)
      ⟨l0, [], none, rfl, ⟨upd_same, (B.new hl0).1, fun q hq => (by cases hq)⟩, by simp, fun q hq => (by cases hq), Nat.zero_le _, s0⟩ ?_ ?_⟩
    · rintro i σ H1 hi ⟨l, L, v, rfl, PL, nd, on, len, s1⟩
      have hin : i < n := by omega
      have lenL : L.length ≤ 56 := by
        have : i * n ≤ 7 * 8 := Nat.mul_le_mul (by omega) n8
        omega
      refine ⟨_, rfl, _, rfl, (n : Int), rfl, by omega, by omega, fun D hD => ?_⟩
      refine lc_range (lo := 0) (n := ((n : Nat) : Int).toNat) (fun j H2 => ∃ M : List (Addr × Nat × Nat), H2 D = some (.lst (M.map fun q => V.ref q.1)) ∧ (∀ q ∈ M, H2 q.1 = some (.tup [vI q.2.1, vI q.2.2])) ∧ (M.map (·.2)).Nodup ∧ (∀ q ∈ M, q.2.1 = i ∧ q.2.2 < j ∧ q.2.2 ≠ i) ∧ M.length ≤ j ∧ Same H1 H2)
        ⟨[], upd_same, fun q hq => (by cases hq), by simp, fun q hq => (by cases hq), Nat.zero_le _, same_upd hD⟩ ?_ ?_
      · rintro j H2 hj ⟨M, hM, tM, ndM, onM, lM, s2⟩
        refine ⟨rfl, _, rfl, _, rfl, rfl, _, rfl, ?_⟩
        have zi : (0 : Int) + (i : Int) = (i : Nat) := Int.zero_add _
        have zj : (0 : Int) + (j : Int) = (j : Nat) := Int.zero_add _
        by_cases e : j = i
        · have ed : (!decide (V.int (0 + (j : Int)) = V.int (0 + (i : Int)))) = false := by simp [e]
          rw [ed]
          exact iteF ⟨M, hM, tM, ndM, fun q hq => ⟨(onM q hq).1, by have := (onM q hq).2.1; omega, (onM q hq).2.2⟩, by omega, s2⟩
        · have ed : (!decide (V.int (0 + (j : Int)) = V.int (0 + (i : Int)))) = true := by
            have : ¬ ((j : Int) = (i : Int)) := by omega
            simp [zi, zj, this]
          rw [ed]
          refine iteT ⟨_, rfl, _, rfl, (by show 2 ≤ sizeLine; decide), fun t ht => ?_⟩
          have s3 := same_upd (o := HO.tup [V.int (0 + (i : Int)), V.int (0 + (j : Int))]) ht
          have tD : t ≠ D := fun z => by
            rw [z, hM] at ht
            cases ht
          refine ⟨_, s3 _ _ hM, ?_, M ++ [(t, i, j)], ?_, fun q hq => ?_, ?_, fun q hq => ?_, ?_, same_mut (s2.trans s3) hD⟩
          · rw [List.length_map]
            exact Nat.lt_of_le_of_lt (show M.length ≤ 8 by omega) (by decide)
          · rw [upd_same, List.map_append]
            rfl
          · rcases List.mem_append.mp hq with hq | hq
            · have g := s3 _ _ (tM q hq)
              rw [upd_ne (ne_of g (s3 _ _ hM) (by intro z; cases z))]
              exact g
            · rw [List.mem_singleton.mp hq, upd_ne tD, upd_same, zi, zj]
              rfl
          · rw [List.map_append, List.nodup_append]
            refine ⟨ndM, by simp, ?_⟩
            intro x hx y hy z
            obtain ⟨q, hq, rfl⟩ := List.mem_map.mp hx
            have ey : y = (i, j) := by simpa using hy
            have := (onM q hq).2.1
            rw [z, ey] at this
            exact absurd this (Nat.lt_irrefl _)
          · rcases List.mem_append.mp hq with hq | hq
            · exact ⟨(onM q hq).1, by have := (onM q hq).2.1; omega, (onM q hq).2.2⟩
            · rw [List.mem_singleton.mp hq]
              exact ⟨rfl, Nat.lt_succ_self _, e⟩
          · rw [List.length_append]
            simp
            omega
      · rintro H2 ⟨M, hM, tM, ndM, onM, lM, s2⟩
        have PL2 := PL.same s2
        have lM8 : M.length ≤ n := by omega
        refine ⟨l, D, _, _, rfl, rfl, PL2.at_, hM, ?_, fun p hp => ?_⟩
        · rw [List.length_map, List.length_map]
          exact Nat.le_trans (show L.length + M.length ≤ 64 by omega) (by decide)
        · have s3 := same_upd (o := HO.lst (L.map (fun q => V.ref q.1) ++ M.map fun q => V.ref q.1)) hp
          have s4 := (s1.trans s2).trans s3
          refine ⟨p, L ++ M, _, rfl, ⟨?_, ((B.same (s1.trans s2)).new hp).1, fun q hq => ?_⟩, ?_, fun q hq => ?_, ?_, s4⟩
          · rw [upd_same, List.map_append]
          · rcases List.mem_append.mp hq with hq | hq
            · exact s3 _ _ (PL2.tup q hq)
            · exact s3 _ _ (tM q hq)
          · rw [List.map_append, List.nodup_append]
            refine ⟨nd, ndM, ?_⟩
            intro x hx y hy z
            obtain ⟨q, hq, rfl⟩ := List.mem_map.mp hx
            obtain ⟨r, hr', rfl⟩ := List.mem_map.mp hy
            have a1 := (on q hq).1
            have a2 := (onM r hr').1
            rw [z, a2] at a1
            exact absurd a1 (Nat.lt_irrefl _)
          · rcases List.mem_append.mp hq with hq | hq
            · exact ⟨by have := (on q hq).1; omega, (on q hq).2⟩
            · have := onM q hq
              exact ⟨by omega, by omega, by omega⟩
          · rw [List.length_append, Nat.succ_mul]
            omega
    · rintro σ H1 ⟨l, L, v, rfl, PL, nd, on, len, s1⟩
      have W : WaysOk n L := by
        refine ⟨nd, fun q hq => ?_, ?_⟩
        · have := on q hq
          exact ⟨by omega, this.2⟩
        · have : ((n : Nat) : Int).toNat * n ≤ 8 * 8 := Nat.mul_le_mul (by omega) n8
          omega
      have B1 := B.same s1
      refine ⟨_, rfl, b, c, _, rfl, B1, by decide, by decide, fun H2 i k2 B2 i0 i1 => ?_⟩
      refine ⟨_, rfl, b, c, _, rfl, B2, by decide, by decide, fun H3 j k3 B3 j0 j1 => ?_⟩
      refine ⟨_, _, rfl, rfl, (by show 2 ≤ sizeLine; decide), fun t ht => ?_⟩
      have s4 := same_upd (o := HO.tup [V.int i, V.int (1 + j)]) ht
      have k4 : Kc c H (upd H3 t (.tup [.int i, .int (1 + j)])) := ((kc_same s1).trans (k2.trans k3)).trans (kc_same s4)
      have PL4 := (PL.keep (k2.trans k3) B1.lst).same s4
      have B4 := B3.same s4
      refine ⟨t, _, rfl, SqT.of upd_same, rfl, _, _, rfl, _, _, rfl, rfl, ?_⟩
      generalize upd H3 t (.tup [.int i, .int (1 + j)]) = H4 at k4 PL4 B4
      have fin : ∀ D H5 M, M.Sublist L → PairsAt c H5 D M → Kc c H4 H5 → Box b c H5 → Q (.ref D) H5 := fun D H5 M sM pM k5 B5 => h H5 D M pM (W.sub sM) (k4.trans k5) B5
      have it : ∀ q ∈ L, ∀ H5, Kc c H4 H5 → H5 q.1 = some (.tup [vI q.2.1, vI q.2.2]) := fun q hq H5 k5 => k5.tup B4.lst (PL4.tup q hq)
      refine ⟨_, rfl, rfl, _, rfl, ?_⟩
      refine ite2 (fun _ => ?_) (fun _ => ?_)
      · refine ⟨_, rfl, l, rfl, ⟨_, SqL.of PL4.at_⟩, fun D hD => filt PL4 B4 W.2.2 hD (fun x => rfl) (fun x => rfl) (fun q hq H5 k5 B5 R hR => ?_) (fin D)⟩
        exact ⟨_, rfl, q.1, _, 1, _, rfl, rfl, SqT.of (it q hq H5 k5), rfl, _, rfl, q.1, _, 0, _, rfl, rfl, SqT.of (it q hq H5 k5), rfl, _, _, rfl, rfl, rfl, _, rfl, hR _ _ (Kc.refl c H5) B5⟩
      refine ⟨_, rfl, rfl, _, rfl, ?_⟩
      refine ite2 (fun _ => ?_) (fun _ => ?_)
      · refine ⟨_, rfl, l, rfl, ⟨_, SqL.of PL4.at_⟩, fun D hD => filt PL4 B4 W.2.2 hD (fun x => rfl) (fun x => rfl) (fun q hq H5 k5 B5 R hR => ?_) (fin D)⟩
        exact ⟨_, rfl, q.1, _, 1, _, rfl, rfl, SqT.of (it q hq H5 k5), rfl, _, rfl, q.1, _, 0, _, rfl, rfl, SqT.of (it q hq H5 k5), rfl, _, _, rfl, rfl, _, rfl, rfl, _, rfl, hR _ _ (Kc.refl c H5) B5⟩
      refine ⟨_, rfl, rfl, _, rfl, ?_⟩
      refine ite2 (fun _ => ?_) (fun _ => ?_)
      · refine ⟨_, rfl, l, rfl, ⟨_, SqL.of PL4.at_⟩, fun D hD => filt PL4 B4 W.2.2 hD (fun x => rfl) (fun x => rfl) (fun q hq H5 k5 B5 R hR => ?_) (fin D)⟩
        exact ⟨_, rfl, q.1, _, 1, _, rfl, rfl, SqT.of (it q hq H5 k5), rfl, _, rfl, q.1, _, 0, _, rfl, rfl, SqT.of (it q hq H5 k5), rfl, _, _, rfl, rfl, _, rfl, _, _, rfl, rfl, by omega, rfl, _, rfl, hR _ _ (Kc.refl c H5) B5⟩
      refine ⟨_, rfl, rfl, _, rfl, ?_⟩
      refine ite2 (fun _ => ?_) (fun _ => ?_)
      · refine ⟨_, rfl, l, rfl, ⟨_, SqL.of PL4.at_⟩, fun D hD => filt PL4 B4 W.2.2 hD (fun x => rfl) (fun x => rfl) (fun q hq H5 k5 B5 R hR => ?_) (fin D)⟩
        exact ⟨_, rfl, q.1, _, rfl, .inr (SqT.of (it q hq H5 k5)), rfl, rfl, _, rfl, hR _ _ (Kc.refl c H5) B5⟩
      refine ⟨_, rfl, rfl, _, rfl, ?_⟩
      refine ite2 (fun _ => ?_) (fun _ => ?_)
      · exact ⟨_, rfl, fin l H4 L (List.Sublist.refl L) PL4 (Kc.refl c H4) B4⟩
      refine ⟨_, rfl, _, rfl, l, rfl, ⟨_, SqL.of PL4.at_⟩, fun D hD => filt PL4 B4 W.2.2 hD (fun x => rfl) (fun x => rfl) (fun q hq H5 k5 B5 R hR => ?_) (fun H5 M sM pM k5 B5 => ?_)⟩
      · refine ⟨_, rfl, b, c, _, rfl, B5, by decide, by decide, fun H6 x k6 B6 x0 x1 => ?_⟩
        exact ⟨_, rfl, _, _, rfl, rfl, _, rfl, hR _ _ k6 B6⟩
      · have lM : M.length ≤ 64 := (W.sub sM).2.2
        refine ⟨b, c, D, _, rfl, B5, pM.at_, pM.ne, by rw [List.length_map]; omega, fun H6 p ys pm hp pc k6 B6 => ?_⟩
        obtain ⟨M2, e2, p2⟩ : ∃ M2 : List (Addr × Nat × Nat), ys = M2.map (fun q => V.ref q.1) ∧ M2.Perm M := perm_map pm
        subst e2
        have WM := W.sub sM
        refine h H6 p M2 ⟨hp, pc, fun q hq => k6.tup B5.lst (pM.tup q (p2.mem_iff.mp hq))⟩ ⟨?_, fun q hq => WM.2.1 q (p2.mem_iff.mp hq), by rw [p2.length_eq]; exact WM.2.2⟩ ((k4.trans k5).trans k6) B6
        exact ((p2.map _).nodup_iff).mpr WM.1
/-! ### a board's data -/
def spBoard : Sp := fun vs H Q _ => ∃ (b c : Addr), vs = [.ref b, vI 8] ∧ Box b c H ∧ ∀ H' t n l L, 1 ≤ n → n ≤ 8 → H' t = some (.tup [vI n, .ref l]) → PairsAt c H' l L → WaysOk n L → Kc c H H' → Box b c H' → Q (.ref t) H'
theorem sc__law_board : FnScope ["_law_box_here", "_law_most", "_law_many"] ["_law_box_here", "_law_most"] (defScope s__law_board) := ⟨rfl, rfl, rfl, by decide +kernel, rfl, by decide +kernel, by decide +kernel⟩
theorem ok_board (T : Tx K mg) : Has P w K mg base (He.ga K "_law_board") 4 ["_law_box_here", "_law_most"] spBoard := by
  obtain ⟨⟨fd_law_pick, F_law_pick, b_law_pick⟩, kp_law_pick⟩ := ok_pick (P := P) (w := w) (base := base) T
  obtain ⟨⟨fd_law_ways, F_law_ways, b_law_ways⟩, kp_law_ways⟩ := ok_ways (P := P) (w := w) (base := base) T
  obtain ⟨fd, F⟩ := T.d__law_board
  refine ⟨⟨fd, F.ok sc__law_board (fun vs H Q E h => ?_) (fun cdv A outer s H vs Q E hr h => ?_), F.bindsN fun _ _ _ _ _ _ us hl => match us, hl with | [_, _], _ => rfl⟩, F.kp⟩
  · obtain ⟨b, c, rfl, _⟩ := h
    rfl
  · obtain ⟨b, c, rfl, B, h⟩ := h
    have hr_law_pick : Room 1 _ := hr.mono (by decide)
    have hr_law_ways : Room 3 _ := hr.mono (by decide)
    refine ⟨_, PSs.nox (pss_cons (ps_set (i := 2) sc__law_board.nd rfl (Or.inl rfl) (pe_ifExp (pt_cmpR op_eq (pe_call F_law_pick hr_law_pick rfl T.glo_law_pick kp_law_pick b_law_pick .nil pass0 (pa_cons (pv 0) (pa_cons pe_int pa_nil))) pe_int (nomark _)) (pv 1) (pe_op op_add pe_int (pe_call F_law_pick hr_law_pick rfl T.glo_law_pick kp_law_pick b_law_pick .nil pass0 (pa_cons (pv 0) (pa_cons (pv 1) pa_nil))))))
      (pss_one (ps_ret (pe_tup (pa_cons (pv 2) (pa_cons (pe_call F_law_ways hr_law_ways rfl T.glo_law_ways kp_law_ways b_law_ways .nil pass0 (pa_cons (pv 0) (pa_cons (pv 2) pa_nil))) pa_nil)))))), ?_⟩
    refine ⟨_, rfl, b, c, _, rfl, B, by decide, by decide, fun H1 i k1 B1 i0 i1 => ?_⟩
    refine ⟨rfl, _, rfl, ?_⟩
    have fin : ∀ H2 (n : Nat), 1 ≤ n → n ≤ 8 → Kc c H H2 → Box b c H2 → spWays [.ref b, vI n] H2 (fun v H3 => 2 ≤ sizeLine ∧ ∀ t, H3 t = none → Q (.ref t) (upd H3 t (.tup [vI n, v]))) (fun _ _ _ => False) := fun H2 n n1 n8 k2 B2 =>
      ⟨b, c, n, rfl, B2, n1, n8, fun H3 l L pL WL k3 B3 => ⟨by decide, fun t ht => h _ t n l L n1 n8 upd_same (pL.same (same_upd ht)) WL ((k2.trans k3).trans (kc_same (same_upd ht))) (B3.same (same_upd ht))⟩⟩
    refine ite2 (fun _ => ?_) (fun _ => ?_)
    · refine ⟨_, rfl, ?_⟩
      exact ⟨_, rfl, _, rfl, _, rfl, fin H1 8 (by decide) (by decide) k1 B1⟩
    · refine ⟨_, rfl, _, rfl, b, c, _, rfl, B1, by decide, by decide, fun H2 j k2 B2 j0 j1 => ?_⟩
      obtain ⟨m, rfl⟩ : ∃ m : Nat, j = (m : Nat) := ⟨j.toNat, by omega⟩
      have e : (1 : Int) + (m : Nat) = ((m + 1 : Nat) : Int) := by omega
      refine ⟨_, _, rfl, rfl, ?_⟩
      have := fin H2 (m + 1) (by omega) (by omega) (k1.trans k2) B2
      refine ⟨_, rfl, _, rfl, _, rfl, ?_⟩
      show spWays [.ref b, .int (1 + (m : Nat))] H2 (fun v H3 => 2 ≤ sizeLine ∧ ∀ t, H3 t = none → Q (.ref t) (upd H3 t (.tup [.int (1 + (m : Nat)), v]))) (fun _ _ _ => False)
      rw [e]
      exact this
end
end RL
namespace RL
open PySem PySem.Spec PyProof.Rows L2 RLM
theorem rep_flat {α : Type} (x : α) : ∀ k : Nat, (List.replicate k [x]).flatten = List.replicate k x
  | 0 => rfl
  | k + 1 => by
    rw [List.replicate_succ, List.flatten_cons, rep_flat x k]
    rfl
theorem menu_small {xs : List V} {x : V} (h : x ∈ xs) (hs : xs.all (fun v => match v with | .int i => decide (0 ≤ i ∧ i ≤ 7) | _ => false) = true) : ∃ p : Nat, x = vI p ∧ p ≤ 7 := by
  have := List.all_eq_true.mp hs x h
  cases x with
  | int i =>
    have z : 0 ≤ i ∧ i ≤ 7 := of_decide_eq_true this
    refine ⟨i.toNat, ?_, by omega⟩
    show V.int i = V.int (i.toNat : Nat)
    rw [Int.toNat_of_nonneg z.1]
  | _ => cases this
section
variable {P : Program} {w : World} {K : PySem.W.Frag} {mg : Str → Option Value} {base : Heap}
def spPace : Sp := fun vs H Q _ => ∃ (b c : Addr) (n : Nat), vs = [.ref b, vI n] ∧ Box b c H ∧ 1 ≤ n ∧ n ≤ 8 ∧ ∀ H' t (ps : List Nat), ps.length = n → (∀ p ∈ ps, p ≤ 7) → H' t = some (.tup (ps.map vI)) → Kc c H H' → Box b c H' → Q (.ref t) H'
theorem sc__law_pace : FnScope ["_law_box_here", "_law_many", "_law_k"] ["_law_box_here", "_law_many"] (defScope s__law_pace) := ⟨rfl, rfl, rfl, by decide +kernel, rfl, by decide +kernel, by decide +kernel⟩
theorem ok_pace (T : Tx K mg) : Has P w K mg base (He.ga K "_law_pace") 3 ["_law_box_here", "_law_many"] spPace := by
  obtain ⟨⟨fd_law_pick, F_law_pick, b_law_pick⟩, kp_law_pick⟩ := ok_pick (P := P) (w := w) (base := base) T
  obtain ⟨⟨fd_law_from, F_law_from, b_law_from⟩, kp_law_from⟩ := ok_from (P := P) (w := w) (base := base) T
  obtain ⟨fd, F⟩ := T.d__law_pace
  refine ⟨⟨fd, F.ok sc__law_pace (fun vs H Q E h => ?_) (fun cdv A outer s H vs Q E hr h => ?_), F.bindsN fun _ _ _ _ _ _ us hl => match us, hl with | [_, _], _ => rfl⟩, F.kp⟩
  · obtain ⟨b, c, n, rfl, _⟩ := h
    rfl
  · obtain ⟨b, c, n, rfl, B, n1, n8, h⟩ := h
    have hr_law_pick : Room 1 _ := hr.mono (by decide)
    have hr_law_from : Room 2 _ := hr.mono (by decide)
    refine ⟨_, PSs.nox (pss_cons (ps_if (pt_cmpR op_eq (pe_call F_law_pick hr_law_pick rfl T.glo_law_pick kp_law_pick b_law_pick .nil pass0 (pa_cons (pv 0) (pa_cons pe_int pa_nil))) pe_int (nomark _)) (pss_one (ps_ret (pe_op (repTK (K := K)) (pe_tup (pa_cons (pe_call F_law_from hr_law_from rfl T.glo_law_from kp_law_from b_law_from .nil pass0 (pa_cons (pv 0) (pa_cons (pe_lst (pa_cons pe_int (pa_cons pe_int (pa_cons pe_int (pa_cons pe_int (pa_cons pe_int (pa_cons pe_int pa_nil))))))) pa_nil))) pa_nil)) (pv 1)))) pss_nil)
      (pss_one (ps_ret (pe_callTy (tupK (K := K)) (by rfl) T.free_tuple (by decide +kernel) (pa_cons (pe_lc (own := [("_law_k", 2)]) (g := (gName 2)) (tt := tYes) rfl sc__law_pace.nd (pi_range1 (by rfl) T.free_range (pa_cons (pv 1) pa_nil)) (blkOk_by (by kernel_rfl)) (fun _ _ _ _ _ => (pg_name (i := 2) sc__law_pace.nd rfl (Or.inl rfl))) (fun _ _ _ _ _ => pts_nil) (fun _ _ _ _ _ => (pe_call F_law_from hr_law_from rfl T.glo_law_from kp_law_from b_law_from .nil pass0 (pa_cons (pv 0) (pa_cons (pe_lst (pa_cons pe_int (pa_cons pe_int (pa_cons pe_int (pa_cons pe_int (pa_cons pe_int (pa_cons pe_int (pa_cons pe_int (pa_cons pe_int (pa_cons pe_int pa_nil)))))))))) pa_nil))))) pa_nil))))), ?_⟩
    refine ⟨_, rfl, b, c, _, rfl, B, by decide, by decide, fun H1 i k1 B1 i0 i1 => ?_⟩
    refine ⟨rfl, _, rfl, ?_⟩
    refine ite2 (fun _ => ?_) (fun _ => ?_)
    · refine ⟨_, rfl, (by show 6 ≤ sizeLine; decide), fun l hl => ?_⟩
      have s2 := same_upd (o := HO.lst [V.int 0, V.int 1, V.int 1, V.int 2, V.int 3, V.int 7]) hl
      refine ⟨b, c, l, _, rfl, B1.same s2, upd_same, (B1.new hl).1, by decide, by decide, fun H3 x k3 B3 hx => ?_⟩
      obtain ⟨p, rfl, p7⟩ := menu_small hx (by decide)
      refine ⟨(by show 1 ≤ sizeLine; decide), fun t ht => ?_⟩
      have s4 := same_upd (o := HO.tup [vI p]) ht
      have k4 : Kc c H (upd H3 t (.tup [vI p])) := ((k1.trans (kc_same s2)).trans k3).trans (kc_same s4)
      refine ⟨_, rfl, t, (n : Int), _, rfl, rfl, SqT.of upd_same, by simp, by omega, by omega, (by show 1 ≤ 1000; decide), fun e => ?_, fun q hq => ?_⟩
      · have e1 : n = 1 := by omega
        subst e1
        exact h _ t [p] rfl (by simp [p7]) upd_same k4 (B3.same s4)
      · have s5 := same_upd (o := HO.tup (List.replicate (n : Int).toNat [vI p]).flatten) hq
        refine h _ q (List.replicate n p) (by simp) (fun z hz => by rw [(List.mem_replicate.mp hz).2]; exact p7) ?_ (k4.trans (kc_same s5)) ((B3.same s4).same s5)
        rw [upd_same, rep_flat, List.map_replicate, Int.toNat_natCast]
    · refine ⟨_, rfl, (n : Int), rfl, by omega, by omega, fun D hD => ?_⟩
      have s2 : Same H1 (upd H1 D (.lst [])) := same_upd hD
      have Dc := (B1.new hD).1
      have Db := (B1.new hD).2
      refine lc_range (lo := 0) (n := ((n : Nat) : Int).toNat) (fun j H2 => ∃ ps : List Nat, ps.length = j ∧ (∀ p ∈ ps, p ≤ 7) ∧ H2 D = some (.lst (ps.map vI)) ∧ Kc c H1 H2 ∧ Box b c H2)
        ⟨[], rfl, by simp, upd_same, kc_same s2, B1.same s2⟩ ?_ ?_
      · rintro j H2 hj ⟨ps, lp, p7, hp, k2, B2⟩
        refine ⟨rfl, ?_⟩
        unfold tYes
        refine iteT ?_
        refine ⟨_, rfl, (by show 9 ≤ sizeLine; decide), fun l hl => ?_⟩
        have s3 := same_upd (o := HO.lst [V.int 0, V.int 1, V.int 1, V.int 2, V.int 3, V.int 4, V.int 5, V.int 6, V.int 7]) hl
        refine ⟨b, c, l, _, rfl, B2.same s3, upd_same, (B2.new hl).1, by decide, by decide, fun H3 x k3 B3 hx => ?_⟩
        obtain ⟨p, rfl, pp⟩ := menu_small hx (by decide)
        have k4 := (k2.trans (kc_same s3)).trans k3
        have hp3 : H3 D = some (.lst (ps.map vI)) := k3 _ _ Dc (fun _ z => by cases z) (s3 _ _ hp)
        refine ⟨_, hp3, ?_, ps ++ [p], by simp [lp], fun z hz => ?_, ?_, k4.upd hD, B3.upd Dc Db⟩
        · rw [List.length_map]
          exact Nat.lt_of_le_of_lt (show ps.length ≤ 8 by omega) (by decide)
        · rcases List.mem_append.mp hz with hz | hz
          · exact p7 z hz
          · rw [List.mem_singleton.mp hz]
            exact pp
        · rw [upd_same, List.map_append]
          rfl
      · rintro H2 ⟨ps, lp, p7, hp, k2, B2⟩
        refine ⟨D, _, rfl, .inl ⟨SqL.of hp, fun t ht => ?_⟩⟩
        have s3 := same_upd (o := HO.tup (ps.map vI)) ht
        exact h _ t ps (by omega) p7 upd_same ((k1.trans k2).trans (kc_same s3)) (B2.same s3)
/-! ### lots -/
def spLot : Sp := fun vs H Q _ => ∃ (b c : Addr) (n : Nat), vs = [.ref b, vI n] ∧ Box b c H ∧ 1 ≤ n ∧ n ≤ 8 ∧ ∀ H' t p, H' t = some (.tup ((lotP n p).map vI)) → Kc c H H' → Box b c H' → Q (.ref t) H'
theorem rg_range (n : Nat) : rgV 0 (n : Int) = (List.range n).map vI := by
  unfold rgV
  rw [Int.sub_zero, Int.toNat_natCast]
  refine List.map_congr_left fun i _ => ?_
  show V.int (0 + (i : Nat)) = V.int (i : Nat)
  rw [Int.zero_add]
theorem lotP_true (n : Nat) : lotP n (fun _ => True) = List.range n := (lotP_of (range_sorted n) fun b => by simp [List.mem_range]).symm
theorem sc__law_lot : FnScope ["_law_box_here", "_law_many", "_law_thick", "_law_place"] ["_law_box_here", "_law_many"] (defScope s__law_lot) := ⟨rfl, rfl, rfl, by decide +kernel, rfl, by decide +kernel, by decide +kernel⟩
theorem ok_lot (T : Tx K mg) : Has P w K mg base (He.ga K "_law_lot") 2 ["_law_box_here", "_law_many"] spLot := by
  obtain ⟨⟨fd_law_pick, F_law_pick, b_law_pick⟩, kp_law_pick⟩ := ok_pick (P := P) (w := w) (base := base) T
  obtain ⟨fd, F⟩ := T.d__law_lot
  refine ⟨⟨fd, F.ok sc__law_lot (fun vs H Q E h => ?_) (fun cdv A outer s H vs Q E hr h => ?_), F.bindsN fun _ _ _ _ _ _ us hl => match us, hl with | [_, _], _ => rfl⟩, F.kp⟩
  · obtain ⟨b, c, n, rfl, _⟩ := h
    rfl
  · obtain ⟨b, c, n, rfl, B, n1, n8, h⟩ := h
    have hr_law_pick : Room 1 _ := hr.mono (by decide)
    refine ⟨_, PSs.nox (pss_cons (ps_if (pt_cmpR op_eq (pe_call F_law_pick hr_law_pick rfl T.glo_law_pick kp_law_pick b_law_pick .nil pass0 (pa_cons (pv 0) (pa_cons pe_int pa_nil))) pe_int (nomark _)) (pss_one (ps_ret (pe_tupRg rfl (by rfl) T.free_tuple (prg_1 (by rfl) T.free_range (pv 1))))) pss_nil)
      (pss_cons (ps_set (i := 2) sc__law_lot.nd rfl (Or.inr rfl) (pe_op op_add pe_int (pe_call F_law_pick hr_law_pick rfl T.glo_law_pick kp_law_pick b_law_pick .nil pass0 (pa_cons (pv 0) (pa_cons pe_int pa_nil)))))
      (pss_one (ps_ret (pe_callTy (tupK (K := K)) (by rfl) T.free_tuple (by decide +kernel) (pa_cons (pe_lc (own := [("_law_place", 3)]) (g := (gName 3)) rfl sc__law_lot.nd (pi_range1 (by rfl) T.free_range (pa_cons (pv 1) pa_nil)) (blkOk_by (by kernel_rfl)) (fun _ _ _ _ _ => (pg_name (i := 3) sc__law_lot.nd rfl (Or.inl rfl))) (fun _ _ _ _ _ => (pts_one (pt_cmpR op_lt (pe_call F_law_pick hr_law_pick rfl T.glo_law_pick kp_law_pick b_law_pick .nil pass0 (pa_cons (pv 0) (pa_cons pe_int pa_nil))) (pv 2) (nomark _)))) (fun _ _ _ _ _ => (pv 3))) pa_nil)))))), ?_⟩
    refine ⟨_, rfl, b, c, _, rfl, B, by decide, by decide, fun H1 i k1 B1 i0 i1 => ?_⟩
    refine ⟨rfl, _, rfl, ?_⟩
    refine ite2 (fun _ => ?_) (fun _ => ?_)
    · refine ⟨_, rfl, (n : Int), rfl, RgOk.of_le (by decide) (by omega) (by decide) (by omega), fun q hq => ?_⟩
      have s2 := same_upd (o := HO.tup (rgV 0 (n : Int))) hq
      refine h _ q (fun _ => True) ?_ (k1.trans (kc_same s2)) (B1.same s2)
      rw [upd_same, rg_range, lotP_true]
    · refine ⟨_, rfl, b, c, _, rfl, B1, by decide, by decide, fun H2 j k2 B2 j0 j1 => ?_⟩
      refine ⟨_, _, rfl, rfl, ?_⟩
      refine ⟨_, rfl, (n : Int), rfl, by omega, by omega, fun D hD => ?_⟩
      have s3 : Same H2 (upd H2 D (.lst [])) := same_upd hD
      have Dc := (B2.new hD).1
      have Db := (B2.new hD).2
      refine lc_range (lo := 0) (n := ((n : Nat) : Int).toNat) (fun j H3 => ∃ ps : List Nat, ps.Sublist (List.range j) ∧ H3 D = some (.lst (ps.map vI)) ∧ Kc c H2 H3 ∧ Box b c H3)
        ⟨[], by simp, upd_same, kc_same s3, B2.same s3⟩ ?_ ?_
      · rintro j H3 hj ⟨ps, sp, hp, k3, B3⟩
        refine ⟨rfl, _, rfl, b, c, _, rfl, B3, by decide, by decide, fun H4 x k4 B4 x0 x1 => ?_⟩
        refine ⟨_, rfl, _, _, rfl, rfl, _, rfl, ?_⟩
        have hp4 : H4 D = some (.lst (ps.map vI)) := k4 _ _ Dc (fun _ z => by cases z) hp
        have lp : ps.length ≤ 8 := Nat.le_trans sp.length_le (by rw [List.length_range]; omega)
        refine ite2 (fun _ => ?_) (fun _ => ?_)
        · refine ⟨_, rfl, _, hp4, ?_, ps ++ [j], ?_, ?_, (k3.trans k4).upd hD, B4.upd Dc Db⟩
          · rw [List.length_map]
            exact Nat.lt_of_le_of_lt lp (by decide)
          · rw [List.range_succ]
            exact sp.append (List.Sublist.refl _)
          · rw [upd_same, List.map_append, Int.zero_add]
            rfl
        · refine ⟨ps, ?_, hp4, k3.trans k4, B4⟩
          rw [List.range_succ]
          exact sp.trans (List.sublist_append_left _ _)
      · rintro H3 ⟨ps, sp, hp, k3, B3⟩
        rw [Int.toNat_natCast] at sp
        refine ⟨D, _, rfl, .inl ⟨SqL.of hp, fun t ht => ?_⟩⟩
        have s4 := same_upd (o := HO.tup (ps.map vI)) ht
        refine h _ t (fun b => b ∈ ps) ?_ (((k1.trans k2).trans k3).trans (kc_same s4)) (B3.same s4)
        rw [upd_same, ← lotP_of (n := n) (p := fun b => b ∈ ps) ((range_sorted n).sublist sp) fun b => ⟨fun hb => ⟨List.mem_range.mp (sp.subset hb), hb⟩, fun hb => hb.2⟩]
/-! ### two lots put together -/
def spJoined : Sp := fun vs H Q _ => ∃ (s t : Addr) (n : Nat) (p q : Nat → Prop), vs = [.ref s, .ref t] ∧ H s = some (.tup ((lotP n p).map vI)) ∧ H t = some (.tup ((lotP n q).map vI)) ∧ n ≤ 8 ∧ ∀ H' u, H' u = some (.tup ((lotP n fun b => p b ∨ q b).map vI)) → Same H H' → Q (.ref u) H'
def nI (k : Nat) : Int := (k : Nat)
theorem vI_map (xs : List Nat) : xs.map vI = (xs.map nI).map V.int := by
  rw [List.map_map]
  rfl
/-- a rising list of ints that has just the places of a lot is it -/
theorem rise_lot {n : Nat} {p : Nat → Prop} {ns : List Int} (h : ns.Pairwise (· < ·)) (hm : ∀ k : Int, k ∈ ns ↔ ∃ b : Nat, k = nI b ∧ b < n ∧ p b) : ns.map V.int = (lotP n p).map vI := by
  have e : ns = (ns.map Int.toNat).map nI := by
    rw [List.map_map]
    refine (List.map_id' ns).symm.trans (List.map_congr_left fun k hk => ?_)
    obtain ⟨b, rfl, _⟩ := (hm k).1 hk
    rfl
  have s2 : (ns.map Int.toNat).Pairwise (· < ·) := by
    rw [List.pairwise_map]
    refine h.imp_of_mem fun {x y} hx hy hxy => ?_
    obtain ⟨a, rfl, _⟩ := (hm x).1 hx
    obtain ⟨b, rfl, _⟩ := (hm y).1 hy
    have : (a : Int) < (b : Int) := hxy
    show a < b
    omega
  have : ns.map Int.toNat = lotP n p := by
    refine lotP_of s2 fun b => ⟨fun hb => ?_, fun hb => ?_⟩
    · obtain ⟨k, hk, rfl⟩ := List.mem_map.mp hb
      obtain ⟨b, rfl, hb2⟩ := (hm k).1 hk
      exact hb2
    · exact List.mem_map.mpr ⟨nI b, (hm _).2 ⟨b, rfl, hb⟩, rfl⟩
  rw [vI_map, ← this, ← e]
end
end RL
namespace RL
open PySem PySem.Spec PyProof.Rows L2 RLM
/-- [e for x in xs if t(x)]: what R says of each -/
theorem lc_relF {α : Type} {J : It} {n : Nat} {G : Hp → Prop} {Y : Nat → Hp → V → Hp → Prop} {g : TG} {tt : TT} {te : TE} {vs : List Nat} {σ : L2.St} {H : Hp} {D : Addr} {Qd : Hp → Prop} (w : Walk J n G Y) (xs : List α) (t : α → Bool) (R : α → V → Hp → Prop) (hx : n = xs.length) (hn : n ≤ 100000) (hD : H D = none) (tk : ∀ a v H1 H2, R a v H1 → TK H1 H2 → R a v H2) (hG : ∀ H1, Same H H1 → G H1)
    (hs : ∀ i b x H1 H2 (N1 : V → Hp → Prop) (N0 : Hp → Prop), xs[i]? = some b → Same H H1 → Y i H1 x H2 → (∀ y H4, t b = true → R b y H4 → Same H1 H4 → N1 y H4) → (∀ H4, t b = false → Same H1 H4 → N0 H4) →
      g x (wipe σ vs) H2 fun σ2 H3 => wipe σ2 vs = wipe σ vs ∧ tt σ2 H3 fun c H4 => if c = true then te σ2 H4 N1 else N0 H4)
    (hd : ∀ H1 (ys : List (V × α)), H1 D = some (.lst (ys.map (·.1))) → ys.map (·.2) = xs.filter t → (∀ q ∈ ys, R q.2 q.1 H1) → Same H H1 → Qd H1) :
    ∃ W : Nat → Nat → Hp → Prop, (∃ m, W 0 m (upd H D (.lst []))) ∧ ∀ i m H, W i m H →
      (J.stop i H ∧ Qd H) ∨ (J.go i H ∧ ∃ Nx : Hp → Prop, (∀ H', Nx H' → ∃ m', m' < m ∧ W (i + 1) m' H') ∧ ∀ x H', J.yld i H x H' → g x (wipe σ vs) H' fun σ2 H2 => wipe σ2 vs = wipe σ vs ∧ tt σ2 H2 fun b H3 =>
        if b = true then te σ2 H3 fun y H4 => ∃ acc, H4 D = some (.lst acc) ∧ acc.length < sizeLine ∧ Nx (upd H4 D (.lst (acc ++ [y]))) else Nx H3) := by
  refine lc_it w (fun i H1 => ∃ ys : List (V × α), H1 D = some (.lst (ys.map (·.1))) ∧ ys.map (·.2) = (xs.take i).filter t ∧ (∀ q ∈ ys, R q.2 q.1 H1) ∧ Same H H1) ⟨[], upd_same, rfl, fun q hq => (by cases hq), same_upd hD⟩ (fun i H1 _ ⟨_, _, _, _, s1⟩ => hG H1 s1) ?_ (fun H1 ⟨ys, h1, h2, h3, h4⟩ => hd H1 ys h1 (by rw [hx, List.take_length] at h2; exact h2) h3 h4)
  rintro i x H1 H2 hi ⟨ys, h1, h2, h3, s1⟩ hY
  have hb : xs[i]? = some (xs[i]'(by omega)) := List.getElem?_eq_getElem _
  generalize xs[i]'(by omega) = b at hb
  have et : xs.take (i + 1) = xs.take i ++ [b] := by
    rw [List.take_add_one, hb]
    rfl
  refine hs i b x H1 H2 (fun y H4 => ∃ acc, H4 D = some (.lst acc) ∧ acc.length < sizeLine ∧ ∃ zs : List (V × α), (upd H4 D (.lst (acc ++ [y]))) D = some (.lst (zs.map (·.1))) ∧ zs.map (·.2) = (xs.take (i + 1)).filter t ∧ (∀ q ∈ zs, R q.2 q.1 (upd H4 D (.lst (acc ++ [y])))) ∧ Same H (upd H4 D (.lst (acc ++ [y])))) _ hb s1 hY (fun y H4 tb r s4 => ?_) (fun H4 tb s4 => ?_)
  · have h4 := s4 _ _ h1
    refine ⟨_, h4, ?_, ys ++ [(y, b)], by rw [upd_same, List.map_append]; rfl, ?_, fun q hq => ?_, same_mut (s1.trans s4) hD⟩
    · have e := congrArg List.length h2
      rw [List.length_map] at e
      rw [List.length_map, e]
      refine Nat.lt_of_le_of_lt (List.length_filter_le _ _) (Nat.lt_of_le_of_lt (?_ : _ ≤ 100000) (by decide))
      rw [List.length_take]
      omega
    · rw [List.map_append, h2, et, List.filter_append, List.filter_cons, if_pos tb]
      rfl
    · rcases List.mem_append.mp hq with z | z
      · exact tk _ _ _ _ (h3 q z) ((tk_same s4).trans (tk_lst h4))
      · rw [List.mem_singleton.mp z]
        exact tk _ _ _ _ r (tk_lst h4)
  · refine ⟨ys, s4 _ _ h1, ?_, fun q hq => tk _ _ _ _ (h3 q hq) (tk_same s4), s1.trans s4⟩
    rw [h2, et, List.filter_append, List.filter_cons, if_neg (by rw [tb]; exact Bool.false_ne_true), List.filter_nil, List.append_nil]
end RL
namespace RL
open PySem PySem.Spec PyProof.Rows L2 RLM
section
variable {P : Program} {w : World} {K : PySem.W.Frag} {mg : Str → Option Value} {base : Heap}
def pairL (q : Nat × Nat) : List Int := [nI q.1, nI q.2]
theorem pairL_inj {a b : Nat × Nat} (h : pairL a = pairL b) : a = b := by
  unfold pairL nI at h
  simp at h
  exact Prod.ext (by omega) (by omega)
/-- a list of ways that a set of tuples tells -/
def toT (q : Addr × Nat × Nat) : Addr × List Int := (q.1, pairL q.2)
def lexLt (a b : Nat × Nat) : Prop := a.1 < b.1 ∨ (a.1 = b.1 ∧ a.2 < b.2)
def spRising (K : PySem.W.Frag) : Sp := fun vs H Q _ => ∃ (n : Nat) (l : Addr) (L : List (Addr × Nat × Nat)), vs = [vI n, .ref l] ∧ H l = some (.lst (L.map fun q => V.ref q.1)) ∧ (∀ q ∈ L, H q.1 = some (.tup [vI q.2.1, vI q.2.2])) ∧ WaysOk n L ∧ n ≤ 8 ∧ L.length < 63 ∧
  ∀ (H' : Hp) (p : Addr) (M : List (Addr × Nat × Nat)), H' p = some (.lst (M.map fun q => V.ref q.1)) → (∀ q ∈ M, H' q.1 = some (.tup [vI q.2.1, vI q.2.2])) → (∀ e, e ∈ M.map (·.2) ↔ e ∈ L.map (·.2)) → (M.map (·.2)).Pairwise lexLt → Same H H' → H p = none → Q (.ref p) H'
theorem sc_rising_ways : FnScope ["many", "ways", "seen", "at", "one", "other"] ["many", "ways"] (defScope s_rising_ways) := ⟨rfl, rfl, rfl, by decide +kernel, rfl, by decide +kernel, by decide +kernel⟩
theorem ok_rising (T : Tx K mg) : Has P w K mg base (He.ga K "rising_ways") 3 ["many", "ways"] (spRising K) := by
  obtain ⟨⟨fd_is_between, F_is_between, b_is_between⟩, kp_is_between⟩ := ok_is_between (P := P) (w := w) (base := base) T
  obtain ⟨fd, F⟩ := T.d_rising_ways
  refine ⟨⟨fd, F.ok sc_rising_ways (fun vs H Q E h => ?_) (fun cdv A outer s H vs Q E hr h => ?_), F.bindsN fun _ _ _ _ _ _ us hl => match us, hl with | [_, _], _ => rfl⟩, F.kp⟩
  · obtain ⟨n, l, L, rfl, _⟩ := h
    rfl
  · obtain ⟨n, l, L, rfl, hl, tL, W, n8, len, h⟩ := h
    have hr_is_between : Room 2 _ := hr.mono (by decide)
    refine ⟨_, PSs.nox (pss_cons (ps_set (i := 2) sc_rising_ways.nd rfl (Or.inl rfl) (pe_callTy0 (set0T (P := P) (w := w)) (by rfl) T.free_set (by decide +kernel)))
      (pss_cons (ps_for PassesOwn.never rfl (piEnum (K := K) (by rfl) T.free_enumerate (pa_cons (pv 1) pa_nil)) (pgT (K := K) (n := 2) rfl (pgs_cons (pg_name (i := 3) sc_rising_ways.nd rfl (Or.inl rfl)) (pgs_cons (pgT (K := K) (n := 2) rfl (pgs_cons (pg_name (i := 4) sc_rising_ways.nd rfl (Or.inl rfl)) (pgs_cons (pg_name (i := 5) sc_rising_ways.nd rfl (Or.inl rfl)) pgs_nil))) pgs_nil))) (pss_cons (ps_if (PW.pt (pw_or (pt_not (pt_val (pe_call F_is_between hr_is_between rfl T.glo_is_between kp_is_between b_is_between .nil pass0 (pa_cons (pv 4) (pa_cons pe_int (pa_cons (pe_op op_sub (pv 0) pe_int) pa_nil)))))) (pw_or1 (pt_not (pt_val (pe_call F_is_between hr_is_between rfl T.glo_is_between kp_is_between b_is_between .nil pass0 (pa_cons (pv 5) (pa_cons pe_int (pa_cons (pe_op op_sub (pv 0) pe_int) pa_nil))))))))) (pss_one ps_never) pss_nil)
      (pss_cons (ps_if (PW.pt (pw_or (pt_cmpR op_eq (pv 4) (pv 5) (nomark _)) (pw_or1 (pt_cmpR (inT (K := K) (P := P) (w := w) hr.units) (pe_tup (pa_cons (pv 4) (pa_cons (pv 5) pa_nil))) (pv 2) (by rfl))))) (pss_one ps_never) pss_nil)
      (pss_one (ps_expr (pe_addT (K := K) (P := P) (w := w) hr.units (pv 2) (pa_cons (pe_tup (pa_cons (pv 4) (pa_cons (pv 5) pa_nil))) pa_nil)))))))
      (pss_one (ps_ret (pe_callB (sortSetT (K := K) (P := P) (w := w)) (by rfl) T.free_sorted (by decide +kernel) (pa_cons (pv 2) pa_nil)))))), ?_⟩
    refine ⟨rfl, fun a ha => ?_⟩
    have s0 : Same H (upd H a (SetTO P w a [])) := same_upd ha
    refine ⟨_, rfl, l, _, rfl, SqL.of (s0 _ _ hl), for_it (walk_enum (K := K) (a := l) (xs := L.map fun q => V.ref q.1)) (fun i σ H1 => ∃ (M : List (Addr × Nat × Nat)) (S : List (Addr × List Int)) (v3 v4 v5 : Option V), σ = [some (vI n), some (.ref l), some (.ref a), v3, v4, v5] ∧ S.Perm (M.map toT) ∧ H1 a = some (SetTO P w a S) ∧ (∀ q ∈ M, H1 q.1 = some (.tup [vI q.2.1, vI q.2.2])) ∧ (∀ e, e ∈ M.map (·.2) ↔ e ∈ (L.take i).map (·.2)) ∧ M.length = i ∧ Same H H1)
      ⟨[], [], none, none, none, rfl, by simp, upd_same, fun q hq => (by cases hq), by simp, rfl, s0⟩ (fun i σ H1 _ ⟨_, _, _, _, _, _, _, _, _, _, _, s1⟩ => SqL.of (s1 _ _ hl)) ?_ ?_⟩
    · rintro i x σ H1 H2 hi ⟨M, S, v3, v4, v5, rfl, pm, hS, tM, mM, lM, s1⟩ ⟨t, x1, x2, rfl, ht, rfl, e1, e2⟩
      rw [List.length_map] at hi
      have eq : L[i]? = some L[i] := List.getElem?_eq_getElem hi
      generalize L[i] = q at eq
      have mq : q ∈ L := List.mem_of_getElem? eq
      obtain ⟨w1, w2, w3⟩ := W.2.1 q mq
      cases (Option.some.inj e1)
      have ex2 : x2 = V.ref q.1 := by
        have e3 : (L.map fun q => V.ref q.1)[i]? = some x2 := e2
        rw [List.getElem?_map, eq] at e3
        exact (Option.some.inj e3).symm
      subst ex2
      have s2 : Same H1 (upd H1 t (.tup [.int (i : Nat), .ref q.1])) := same_upd ht
      have tq := s2 _ _ (s1 _ _ (tL q mq))
      refine ⟨t, _, rfl, SqT.of upd_same, rfl, _, _, rfl, _, _, rfl, q.1, _, rfl, SqT.of tq, rfl, _, _, rfl, _, _, rfl, rfl, rfl, ?_⟩
      have hS2 := s2 _ _ hS
      have tM2 : ∀ m ∈ M, (upd H1 t (.tup [.int (i : Nat), .ref q.1])) m.1 = some (.tup [vI m.2.1, vI m.2.2]) := fun m hm => s2 _ _ (tM m hm)
      have s3 : Same H (upd H1 t (.tup [.int (i : Nat), .ref q.1])) := s1.trans s2
      generalize upd H1 t (.tup [.int (i : Nat), .ref q.1]) = H3 at hS2 tM2 s3
      refine ⟨_, rfl, _, rfl, _, _, rfl, rfl, _, _, _, rfl, _, rfl, iteNS ⟨by omega, by omega⟩ ?_⟩
      refine ⟨_, rfl, _, rfl, _, _, rfl, rfl, _, _, _, rfl, _, rfl, iteNS ⟨by omega, by omega⟩ ?_⟩
      refine ⟨_, rfl, _, rfl, rfl, _, rfl, ?_⟩
      have ne : ¬ (vI q.2.1 = vI q.2.2) := fun z => w3 (by
        have z1 : V.int (q.2.1 : Nat) = V.int (q.2.2 : Nat) := z
        injection z1 with z2
        omega)
      refine ite2 (fun z => absurd (of_decide_eq_true z) ne) (fun _ => ?_)
      have et : L.take (i + 1) = L.take i ++ [q] := by
        rw [List.take_add_one, eq]
        rfl
      have nin : pairL q.2 ∉ S.map (·.2) := fun hm => by
        obtain ⟨p, hp, ep⟩ := List.mem_map.mp hm
        obtain ⟨m, hm, rfl⟩ := List.mem_map.mp (pm.mem_iff.mp hp)
        have em : m.2 = q.2 := pairL_inj ep
        have h1 : q.2 ∈ (L.take i).map (·.2) := (mM q.2).1 (em ▸ List.mem_map.mpr ⟨m, hm, rfl⟩)
        have nd : ((L.take (i + 1)).map (·.2)).Nodup := ((List.take_sublist _ _).map _).nodup W.1
        rw [et, List.map_append, List.nodup_append] at nd
        exact nd.2.2 _ h1 _ (by simp) rfl
      have TA : ∀ H4, (∀ m ∈ M, H4 m.1 = some (.tup [vI m.2.1, vI m.2.2])) → TupsAt K H4 S := fun H4 h4 p hp => by
        obtain ⟨m, hm, rfl⟩ := List.mem_map.mp (pm.mem_iff.mp hp)
        exact SqT.of (h4 m hm)
      refine ⟨_, rfl, _, rfl, (by show 2 ≤ sizeLine; decide), fun u hu => ?_⟩
      have s4 : Same H3 (upd H3 u (.tup [vI q.2.1, vI q.2.2])) := same_upd hu
      refine ⟨_, rfl, u, a, pairL q.2, S, rfl, rfl, SqT.of upd_same, s4 _ _ hS2, TA _ fun m hm => s4 _ _ (tM2 m hm), _, rfl, ?_⟩
      rw [decide_eq_false nin]
      refine iteF ?_
      have hS4 := s4 _ _ hS2
      have tM4 : ∀ m ∈ M, (upd H3 u (.tup [vI q.2.1, vI q.2.2])) m.1 = some (.tup [vI m.2.1, vI m.2.2]) := fun m hm => s4 _ _ (tM2 m hm)
      have s5 := s3.trans s4
      generalize upd H3 u (.tup [vI q.2.1, vI q.2.2]) = H4 at hS4 tM4 s5
      refine ⟨_, rfl, ⟨a, S, rfl, hS4⟩, _, rfl, _, rfl, (by show 2 ≤ sizeLine; decide), fun v hv => ?_⟩
      have s6 : Same H4 (upd H4 v (.tup [vI q.2.1, vI q.2.2])) := same_upd hv
      have lS : S.length < 63 := by
        rw [pm.length_eq, List.length_map, lM]
        omega
      refine ⟨a, v, pairL q.2, S, rfl, rfl, SqT.of upd_same, s6 _ _ hS4, TA _ fun m hm => s6 _ _ (tM4 m hm), lS, nin, fun S' pm' => ?_⟩
      have nva : v ≠ a := fun z => by
        rw [z, hS4] at hv
        cases hv
      refine ⟨M ++ [(v, q.2)], S', _, _, _, rfl, ?_, upd_same, fun m hm => ?_, fun e => ?_, by simp [lM], same_mut (s5.trans s6) ha⟩
      · rw [List.map_append]
        refine pm'.trans ((pm.cons _).trans ?_)
        exact List.perm_append_comm (l₁ := [toT (v, q.2)])
      · rcases List.mem_append.mp hm with hm | hm
        · have g := s6 _ _ (tM4 m hm)
          rw [upd_ne (ne_of g (s6 _ _ hS4) (by intro z; cases z))]
          exact g
        · rw [List.mem_singleton.mp hm, upd_ne nva, upd_same]
      · rw [et, List.map_append, List.map_append, List.mem_append, List.mem_append, mM e]
        rfl
    · rintro σ H1 ⟨M, S, v3, v4, v5, rfl, pm, hS, tM, mM, lM, s1⟩
      rw [List.length_map, List.take_length] at mM
      have inM : ∀ m ∈ M, m.2.1 < 8 ∧ m.2.2 < 8 := fun m hm => by
        obtain ⟨q, hq, e⟩ := List.mem_map.mp ((mM m.2).1 (List.mem_map.mpr ⟨m, hm, rfl⟩))
        have := W.2.1 q hq
        have e : q.2 = m.2 := e
        rw [← e]
        omega
      refine ⟨_, rfl, a, S, 2, 64, rfl, hS, fun p hp => ?_, by decide, fun p hp => ?_, fun S' p pm' nd few pw hp => ?_⟩
      · obtain ⟨m, hm, rfl⟩ := List.mem_map.mp (pm.mem_iff.mp hp)
        exact SqT.of (tM m hm)
      · obtain ⟨m, hm, rfl⟩ := List.mem_map.mp (pm.mem_iff.mp hp)
        have := inM m hm
        refine ⟨rfl, ?_⟩
        intro z hz
        have hz : z = nI m.2.1 ∨ z = nI m.2.2 := by simpa [toT, pairL] using hz
        unfold nI at hz
        omega
      · obtain ⟨M', rfl, pM⟩ := perm_map (pm'.trans pm)
        have e1 : (M'.map toT).map (fun q => V.ref q.1) = M'.map fun q => V.ref q.1 := by
          rw [List.map_map]
          rfl
        have s2 := same_upd (o := HO.lst ((M'.map toT).map fun q => V.ref q.1)) hp
        refine h _ p M' (by rw [upd_same, e1]) (fun q hq => s2 _ _ (tM q (pM.mem_iff.mp hq))) (fun e => ?_) ?_ (s1.trans s2) (s1.free hp)
        · rw [← mM e]
          exact (pM.map _).mem_iff
        · rw [List.pairwise_map] at pw ⊢
          have nd2 : M'.Pairwise (fun x y => pairL x.2 ≠ pairL y.2) := by
            have : ((M'.map toT).map (·.2)).Pairwise (· ≠ ·) := nd
            rw [List.map_map, List.pairwise_map] at this
            exact this
          refine (pw.and nd2).imp_of_mem fun {x y} hx hy ⟨c1, c2⟩ => ?_
          have bx := inM x (pM.mem_iff.mp hx)
          have by_ := inM y (pM.mem_iff.mp hy)
          have := pair_lt (x := nI x.2.1) (y := nI x.2.2) (x' := nI y.2.1) (y' := nI y.2.2) c1 c2 (by unfold nI; omega) (by unfold nI; omega) (by unfold nI; omega) (by unfold nI; omega)
          unfold nI at this
          unfold lexLt
          omega
end
end RL
namespace RL
open PySem PySem.Spec PyProof.Rows L2 RLM
theorem ixN_nat {n j : Nat} (h : j < n) : ixN n (j : Int) = some j := by
  unfold ixN
  have h1 : (0 : Int) ≤ (j : Int) := Int.natCast_nonneg j
  have h2 : (j : Int) < (n : Int) := by omega
  rw [if_pos h1, if_pos h2, Int.toNat_natCast]
theorem get_map {α β : Type} {f : α → β} {xs : List α} {i : Nat} {x : α} (h : xs[i]? = some x) : (xs.map f)[i]? = some (f x) := by
  rw [List.getElem?_map, h]
  rfl
/-- the leads' lists -/
structure LeadsAt (H : Hp) (ll : Addr) (n : Nat) (E : List (Nat × Nat)) (G : List (Addr × List Nat)) : Prop where
  at_ : H ll = some (.lst (G.map fun g => V.ref g.1))
  len : G.length = n
  each : ∀ (c : Nat) (g : Addr × List Nat), G[c]? = some g → H g.1 = some (.lst (g.2.map vI)) ∧ g.2.length ≤ 64 ∧ ∀ o, o ∈ g.2 ↔ (c, o) ∈ E
theorem LeadsAt.same {H H' : Hp} {ll : Addr} {n : Nat} {E : List (Nat × Nat)} {G : List (Addr × List Nat)} (s : Same H H') (h : LeadsAt H ll n E G) : LeadsAt H' ll n E G :=
  ⟨s _ _ h.at_, h.len, fun c g e => ⟨s _ _ (h.each c g e).1, (h.each c g e).2⟩⟩
section
variable {P : Program} {w : World} {K : PySem.W.Frag} {mg : Str → Option Value} {base : Heap}
def spFars : Sp := fun vs H Q _ => ∃ (ll : Addr) (a n : Nat) (E : List (Nat × Nat)) (G : List (Addr × List Nat)), vs = [.ref ll, vI a] ∧ LeadsAt H ll n E G ∧ On n E ∧ n ≤ 8 ∧ a < n ∧
  ∀ (H' : Hp) (p : Addr) (fs : List (Option Nat)), H' p = some (.lst (fs.map vO)) → H p = none → Fars n E a fs → Same H H' → Q (.ref p) H'
theorem sc_fars_from : FnScope ["leads", "place", "fars", "edge", "beyond", "one", "other"] ["leads", "place"] (defScope s_fars_from) := ⟨rfl, rfl, rfl, by decide +kernel, rfl, by decide +kernel, by decide +kernel⟩
theorem ok_fars (T : Tx K mg) : Has P w K mg base (He.ga K "fars_from") 1 ["leads", "place"] spFars := by
  obtain ⟨fd, F⟩ := T.d_fars_from
  refine ⟨⟨fd, F.ok sc_fars_from (fun vs H Q E h => ?_) (fun cdv A outer s H vs Q E hr h => ?_), F.bindsN fun _ _ _ _ _ _ us hl => match us, hl with | [_, _], _ => rfl⟩, F.kp⟩
  · obtain ⟨ll, a, n, E, G, rfl, _⟩ := h
    rfl
  · obtain ⟨ll, a, n, E, G, rfl, LA, hE, n8, an, h⟩ := h
    refine ⟨_, PSs.nox (pss_cons (ps_set (i := 2) sc_fars_from.nd rfl (Or.inl rfl) (pe_op op_rep (pe_lst (pa_cons pe_non pa_nil)) (pe_callB (lenK (K := K)) (by rfl) T.free_len (by decide +kernel) (pa_cons (pv 0) pa_nil))))
      (pss_cons (ps_asg pe_int (pg_sub (pv 2) (pv 1) set_list))
      (pss_cons (ps_set (i := 3) sc_fars_from.nd rfl (Or.inl rfl) (pe_lst (pa_cons (pv 1) pa_nil)))
      (pss_cons (ps_while PassesOwn.never (pt_truth (pv 3) (by intro _; rfl)) (pss_cons (ps_set (i := 4) sc_fars_from.nd rfl (Or.inl rfl) (pe_lst pa_nil))
      (pss_cons (ps_for PassesOwn.never rfl (piL (K := K) (pv 3)) (pg_name (i := 5) sc_fars_from.nd rfl (Or.inl rfl)) (pss_one (ps_for PassesOwn.never rfl (piL (K := K) (pe_ix (ixL (K := K)) (pv 0) (pv 5) (fun _ _ => rfl))) (pg_name (i := 6) sc_fars_from.nd rfl (Or.inl rfl)) (pss_one (ps_if (pt_cmpR op_isN (pe_ix (ixL (K := K)) (pv 2) (pv 6) (fun _ _ => rfl)) pe_non (nomark _)) (pss_cons (ps_asg (pe_op op_add (pe_ix (ixL (K := K)) (pv 2) (pv 5) (fun _ _ => rfl)) pe_int) (pg_sub (pv 2) (pv 6) set_list))
      (pss_one (ps_expr (bmK (K := K) PySem.F.plainAttrs_list PySem.F.slot_list_append PySem.F.type_list_append mt_append (pv 4) (pa_cons (pv 6) pa_nil))))) pss_nil)))))
      (pss_one (ps_set (i := 3) sc_fars_from.nd rfl (Or.inl rfl) (pv 4))))))
      (pss_one (ps_ret (pv 2))))))), ?_⟩
    refine ⟨(by show 1 ≤ sizeLine; decide), fun l0 hl0 => ?_⟩
    have s0 : Same H (upd H l0 (.lst [.non])) := same_upd hl0
    refine ⟨_, rfl, ll, _, rfl, .inl (SqL.of (s0 _ _ LA.at_)), l0, _, _, rfl, rfl, upd_same, ?_, ?_, ?_, fun pf hpf => ?_⟩
    · rw [List.length_map]
      omega
    · rw [List.length_map, LA.len]
      omega
    · rw [List.length_map, LA.len]
      show 1 * (n : Int).toNat ≤ sizeLine
      exact Nat.le_trans (show 1 * (n : Int).toNat ≤ 8 by omega) (by decide)
    have Hf : H pf = none := s0.free hpf
    have ef : (List.replicate (((G.map fun g => V.ref g.1).length : Nat) : Int).toNat [V.non]).flatten = (List.replicate n (none : Option Nat)).map vO := by
      rw [List.length_map, LA.len, Int.toNat_natCast, rep_flat, List.map_replicate]
      rfl
    rw [ef]
    refine ⟨_, rfl, _, rfl, pf, _, _, a, rfl, rfl, upd_same, ixN_nat (by simp [an]), ?_⟩
    have e2 : ((List.replicate n (none : Option Nat)).map vO).set a (V.int 0) = ((List.replicate n (none : Option Nat)).set a (some 0)).map vO := by
      rw [List.map_set]
      rfl
    rw [e2]
    refine ⟨_, rfl, (by show 1 ≤ sizeLine; decide), fun pe hpe => ?_⟩
    have s1 : Same H (upd (upd (upd (upd H l0 (.lst [.non])) pf (.lst ((List.replicate n (none : Option Nat)).map vO))) pf (.lst (((List.replicate n (none : Option Nat)).set a (some 0)).map vO))) pe (.lst [vI a])) :=
      (same_mut (same_mut s0 Hf) Hf).trans (same_upd hpe)
    have Hpe : H pe = none := (same_mut (same_mut s0 Hf) Hf).free hpe
    have nfe : pf ≠ pe := fun z => by
      rw [← z, upd_same] at hpe
      cases hpe
    refine ⟨fun m σ H1 => ∃ (l : Nat) (fs : List (Option Nat)) (edge : List Nat) (pe : Addr) (v4 v5 v6 : Option V), σ = [some (.ref ll), some (vI a), some (.ref pf), some (.ref pe), v4, v5, v6] ∧ H1 pf = some (.lst (fs.map vO)) ∧ H1 pe = some (.lst (edge.map vI)) ∧ pf ≠ pe ∧ H pe = none ∧ Lev n E a l fs edge ∧ edge.length ≤ 64 ∧ m = fs.count none + (if edge = [] then 0 else 1) ∧ Same H H1,
      ⟨_, 0, _, [a], pe, none, none, none, rfl, ?_, upd_same, nfe, Hpe, lev_start an, by simp, rfl, s1⟩, ?_⟩
    · rw [upd_ne nfe, upd_same]
    rintro m σ H1 ⟨l, fs, edge, pe, v4, v5, v6, rfl, hf, he, nfe, Hpe, LV, le, rfl, s1⟩
    refine ⟨_, rfl, _, .inl ⟨_, SqL.of he, rfl⟩, ?_⟩
    cases edge with
    | nil => exact iteF ⟨_, rfl, h H1 pf fs hf Hf (LV.fars hE an) s1⟩
    | cons c0 cs =>
    refine iteT ?_
    generalize hed : c0 :: cs = edge at LV le he
    have ne : edge ≠ [] := by rw [← hed]; exact List.cons_ne_nil _ _
    refine ⟨fun σ' H' => ∃ (fs' : List (Option Nat)) (bey : List Nat) (pb : Addr) (v5 v6 : Option V), σ' = [some (.ref ll), some (vI a), some (.ref pf), some (.ref pb), some (.ref pb), v5, v6] ∧ H' pf = some (.lst (fs'.map vO)) ∧ H' pb = some (.lst (bey.map vI)) ∧ pf ≠ pb ∧ H pb = none ∧ Lev n E a (l + 1) fs' bey ∧ fs'.count none + bey.length = fs.count none ∧ bey.length ≤ 64 ∧ Same H H', ?_, ?_⟩
    · rintro σ' H' ⟨fs', bey, pb, w5, w6, rfl, g1, g2, g3, g4, g5, g6, g7, g8⟩
      refine ⟨_, ?_, l + 1, fs', bey, pb, _, w5, w6, rfl, g1, g2, g3, g4, g5, g7, rfl, g8⟩
      rw [if_neg ne]
      cases bey with
      | nil => simp at g6 ⊢; omega
      | cons x y => simp at g6 ⊢; omega
    refine ⟨Nat.zero_le _, fun pb hpb => ?_⟩
    have s2 : Same H1 (upd H1 pb (.lst [])) := same_upd hpb
    have nfb : pf ≠ pb := ne_of_none hf hpb
    have neb : pe ≠ pb := ne_of_none he hpb
    have Hpb : H pb = none := s1.free hpb
    refine ⟨_, rfl, pe, rfl, ⟨_, SqL.of (s2 _ _ he)⟩, for_list (K := K) (a := pe) (xs := edge.map vI) (fun i σ H2 => ∃ (fs' : List (Option Nat)) (bey done : List Nat) (v5 v6 : Option V), σ = [some (.ref ll), some (vI a), some (.ref pf), some (.ref pe), some (.ref pb), v5, v6] ∧ H2 pf = some (.lst (fs'.map vO)) ∧ H2 pb = some (.lst (bey.map vI)) ∧ H2 pe = some (.lst (edge.map vI)) ∧ Mid n E l fs edge done fs' bey ∧ (∀ c o, c ∈ edge.take i → (c, o) ∈ E → o ∈ done) ∧ Same H H2)
      ⟨fs, [], [], v5, v6, rfl, s2 _ _ hf, upd_same, s2 _ _ he, mid_start LV.len, by simp, s1.trans s2⟩ (fun i σ H2 _ ⟨_, _, _, _, _, _, _, _, g, _⟩ => SqL.of g) ?_ ?_⟩
    · rintro i x σ H2 hx ⟨fs', bey, done, v5, v6, rfl, hf2, hb2, he2, MD, dn, s3⟩
      obtain ⟨c, hc, rfl⟩ : ∃ c, edge[i]? = some c ∧ vI c = x := by
        rw [List.getElem?_map] at hx
        cases e : edge[i]? with
        | none => rw [e] at hx; cases hx
        | some c => rw [e] at hx; exact ⟨c, rfl, Option.some.inj hx⟩
      have mc : c ∈ edge := List.mem_of_getElem? hc
      have fc : fs[c]? = some (some l) := (LV.edge_ c).1 mc
      have cn : c < n := by
        rw [← LV.len]
        exact (List.getElem?_eq_some_iff.mp fc).1
      obtain ⟨g, hg⟩ : ∃ g, G[c]? = some g := ⟨_, List.getElem?_eq_getElem (by rw [LA.len]; exact cn)⟩
      have LA2 := LA.same s3
      obtain ⟨hgl, gl, gE⟩ := LA2.each c g hg
      have et : edge.take (i + 1) = edge.take i ++ [c] := by
        rw [List.take_add_one, hc]
        rfl
      refine ⟨_, rfl, _, rfl, ll, _, _, _, rfl, rfl, SqL.of LA2.at_, atI_nat (get_map hg), g.1, rfl, ⟨_, SqL.of hgl⟩, for_list (K := K) (a := g.1) (xs := g.2.map vI) (fun j σ H3 => ∃ (fs' : List (Option Nat)) (bey done' : List Nat) (v6 : Option V), σ = [some (.ref ll), some (vI a), some (.ref pf), some (.ref pe), some (.ref pb), some (vI c), v6] ∧ H3 pf = some (.lst (fs'.map vO)) ∧ H3 pb = some (.lst (bey.map vI)) ∧ H3 pe = some (.lst (edge.map vI)) ∧ Mid n E l fs edge done' fs' bey ∧ (∀ o, o ∈ done → o ∈ done') ∧ (∀ o, o ∈ g.2.take j → o ∈ done') ∧ Same H H3)
        ⟨fs', bey, done, v6, rfl, hf2, hb2, he2, MD, fun _ z => z, by simp, s3⟩ (fun j σ H3 _ ⟨_, _, _, _, _, _, _, _, _, _, _, s4⟩ => SqL.of ((LA.same s4).each c g hg).1) ?_ ?_⟩
      · rintro j x σ H3 hx ⟨fs3, bey3, done3, v6, rfl, hf3, hb3, he3, MD3, d1, d2, s4⟩
        obtain ⟨o, ho, rfl⟩ : ∃ o, g.2[j]? = some o ∧ vI o = x := by
          rw [List.getElem?_map] at hx
          cases e : g.2[j]? with
          | none => rw [e] at hx; cases hx
          | some o => rw [e] at hx; exact ⟨o, rfl, Option.some.inj hx⟩
        have mo : (c, o) ∈ E := (gE o).1 (List.mem_of_getElem? ho)
        have on : o < fs3.length := by
          rw [MD3.len]
          exact (hE _ mo).2.1
        have eo : fs3[o]? = some fs3[o] := List.getElem?_eq_getElem on
        generalize fs3[o] = d at eo
        have et2 : g.2.take (j + 1) = g.2.take j ++ [o] := by
          rw [List.take_add_one, ho]
          rfl
        refine ⟨_, rfl, _, rfl, pf, _, _, _, rfl, rfl, SqL.of hf3, atI_nat (get_map eo), rfl, _, rfl, ?_⟩
        cases d with
        | some d =>
          refine iteF ⟨fs3, bey3, done3 ++ [o], _, rfl, hf3, hb3, he3, MD3.hit eo, fun o' ho' => List.mem_append_left _ (d1 o' ho'), fun o' ho' => ?_, s4⟩
          rw [et2] at ho'
          rcases List.mem_append.mp ho' with z | z
          · exact List.mem_append_left _ (d2 o' z)
          · exact List.mem_append_right _ z
        | none =>
          refine iteT ?_
          have fc3 : fs3[c]? = some (some l) := MD3.old c l fc
          refine ⟨_, rfl, _, rfl, pf, _, _, _, rfl, rfl, SqL.of hf3, atI_nat (get_map fc3), _, _, rfl, rfl, _, rfl, _, rfl, pf, _, _, o, rfl, rfl, hf3, ixN_nat (by simpa using on), ?_⟩
          have ez : (fs3.map vO).set o (V.int (((l : Nat) : Int) + 1)) = (fs3.set o (some (l + 1))).map vO := by
            rw [List.map_set]
            rfl
          rw [ez]
          have hb4 : (upd H3 pf (.lst ((fs3.set o (some (l + 1))).map vO))) pb = some (.lst (bey3.map vI)) := by
            rw [upd_ne nfb.symm]
            exact hb3
          have b64 : bey3.length ≤ 64 := by
            have c1 := MD3.cnt
            have c2 : fs.count none ≤ fs.length := List.count_le_length
            rw [LV.len] at c2
            omega
          refine ⟨_, rfl, .inl ⟨rfl, _, SqL.of hb4⟩, _, rfl, pb, _, _, rfl, rfl, hb4, ?_, ?_⟩
          · rw [List.length_map]
            exact Nat.lt_of_le_of_lt b64 (by decide)
          refine ⟨fs3.set o (some (l + 1)), bey3 ++ [o], done3 ++ [o], _, rfl, ?_, ?_, ?_, MD3.put LV.len eo mc mo, fun o' ho' => List.mem_append_left _ (d1 o' ho'), fun o' ho' => ?_, same_mut (same_mut s4 Hf) Hpb⟩
          · rw [upd_ne nfb, upd_same]
          · rw [upd_same, List.map_append]
            rfl
          · rw [upd_ne neb, upd_ne nfe.symm]
            exact he3
          · rw [et2] at ho'
            rcases List.mem_append.mp ho' with z | z
            · exact List.mem_append_left _ (d2 o' z)
            · exact List.mem_append_right _ z
      · rintro σ H3 ⟨fs3, bey3, done3, v6, rfl, hf3, hb3, he3, MD3, d1, d2, s4⟩
        rw [List.length_map, List.take_length] at d2
        refine ⟨fs3, bey3, done3, _, _, rfl, hf3, hb3, he3, MD3, fun c' o hc' ho => ?_, s4⟩
        rw [et] at hc'
        rcases List.mem_append.mp hc' with z | z
        · exact d1 o (dn c' o z ho)
        · rw [List.mem_singleton.mp z] at ho
          exact d2 o ((gE o).2 ho)
    · rintro σ H2 ⟨fs', bey, done, v5, v6, rfl, hf2, hb2, he2, MD, dn, s3⟩
      rw [List.length_map, List.take_length] at dn
      have c1 := MD.cnt
      have c2 : fs.count none ≤ fs.length := List.count_le_length
      rw [LV.len] at c2
      exact ⟨_, rfl, fs', bey, pb, _, _, rfl, hf2, hb2, nfb, Hpb, MD.next LV hE an dn, c1, by omega, s3⟩
end
end RL
namespace RL
open PySem PySem.Spec PyProof.Rows L2 RLM
section
variable {P : Program} {w : World} {K : PySem.W.Frag} {mg : Str → Option Value} {base : Heap}
def spInit (K : PySem.W.Frag) : Sp := fun vs H Q _ => ∃ (H0 : Hp) (x dx c l : Addr) (n : Nat) (L : List (Addr × Nat × Nat)), vs = [.ref x, vI n, .ref l] ∧ Same H0 H ∧ H0 x = none ∧ H x = some (.ins (cB K) dx []) ∧ (∃ ys, H0 c = some (.lst ys)) ∧
  H0 l = some (.lst (L.map fun q => V.ref q.1)) ∧ (∀ q ∈ L, H0 q.1 = some (.tup [vI q.2.1, vI q.2.2])) ∧ WaysOk n L ∧ 1 ≤ n ∧ n ≤ 8 ∧ L.length < 63 ∧
  ∀ (H' : Hp) (E : List (Nat × Nat)), BoardAt K c H' x n E → (∀ e, e ∈ E ↔ e ∈ L.map (·.2)) → E.Pairwise lexLt → Same H0 H' → Q .non H'
theorem sc_Board_init : FnScope ["self", "many", "ways", "place", "one", "other"] ["self", "many", "ways"] (defScope s_Board_init) := ⟨rfl, rfl, rfl, by decide +kernel, rfl, by decide +kernel, by decide +kernel⟩
theorem ok_init (T : Tx K mg) : Has P w K mg base (mB K "__init__") 4 ["self", "many", "ways"] (spInit K) := by
  obtain ⟨⟨fd_is_between, F_is_between, b_is_between⟩, kp_is_between⟩ := ok_is_between (P := P) (w := w) (base := base) T
  obtain ⟨⟨fd_rising_ways, F_rising_ways, b_rising_ways⟩, kp_rising_ways⟩ := ok_rising (P := P) (w := w) (base := base) T
  obtain ⟨⟨fd_fars_from, F_fars_from, b_fars_from⟩, kp_fars_from⟩ := ok_fars (P := P) (w := w) (base := base) T
  obtain ⟨fd, F⟩ := T.d_Board_init
  have hb : Binds K fd ["self", "many", "ways"] [] := by
    obtain ⟨ds, e, b⟩ := F.binds1 (ps := ["self", "many", "ways"]) 3 1 (List.cons_ne_nil _ _) rfl (fun T0 kV doc pm an cdv ct us its l1 l2 => match us, its, l1, l2 with
      | [_, _, _], [_], _, _ => ⟨_, rfl, rfl⟩)
    cases e
    exact b
  refine ⟨⟨fd, F.ok sc_Board_init (fun vs H Q E h => ?_) (fun cdv A outer s H vs Q E hr h => ?_), hb⟩, F.kp⟩
  · obtain ⟨H0, x, dx, c, l, n, L, rfl, _⟩ := h
    rfl
  · obtain ⟨H0, x, dx, c, l, n, L, rfl, s0, x0, hx, hc, hl, tL, W, n1, n8, len, h⟩ := h
    have hr_is_between : Room 2 _ := hr.mono (by decide)
    have hr_rising_ways : Room 3 _ := hr.mono (by decide)
    have hr_fars_from : Room 1 _ := hr.mono (by decide)
    refine ⟨_, PSs.nox (pss_cons (ps_if (pt_not (pt_val (pe_call F_is_between hr_is_between rfl T.glo_is_between kp_is_between b_is_between .nil pass0 (pa_cons (pv 1) (pa_cons pe_int (pa_cons (pe_glob (v := .int 8) rfl T.glob_MOST_PLACES.choose_spec ⟨_, rfl⟩) pa_nil)))))) (pss_one ps_never) pss_nil)
      (pss_cons (ps_fld (pv 0) (pv 1) rfl)
      (pss_cons (ps_fld (pv 0) (pe_call F_rising_ways hr_rising_ways rfl T.glo_rising_ways kp_rising_ways b_rising_ways .nil pass0 (pa_cons (pv 1) (pa_cons (pv 2) pa_nil))) rfl)
      (pss_cons (ps_fld (pv 0) (pe_lc (own := [("place", 3)]) (g := (gName 3)) (tt := tYes) rfl sc_Board_init.nd (pi_range1 (by rfl) T.free_range (pa_cons (pv 1) pa_nil)) (blkOk_by (by kernel_rfl)) (fun _ _ _ _ _ => (pg_name (i := 3) sc_Board_init.nd rfl (Or.inr rfl))) (fun _ _ _ _ _ => pts_nil) (fun _ _ _ _ _ => (pe_lc (own := [("one", 4), ("other", 5)]) rfl sc_Board_init.nd (piL (K := K) (fldK (K := K) (pv 0) rfl)) (blkOk_by (by kernel_rfl)) (fun _ _ _ _ _ => (pgT (K := K) (n := 2) rfl (pgs_cons (pg_name (i := 4) sc_Board_init.nd rfl (Or.inl rfl)) (pgs_cons (pg_name (i := 5) sc_Board_init.nd rfl (Or.inl rfl)) pgs_nil)))) (fun _ _ _ _ _ => (pts_one (pt_cmpR op_eq (pv 4) (pv 3) (nomark _)))) (fun _ _ _ _ _ => (pv 5))))) rfl)
      (pss_one (ps_fld (pv 0) (pe_lc (own := [("place", 3)]) (g := (gName 3)) (tt := tYes) rfl sc_Board_init.nd (pi_range1 (by rfl) T.free_range (pa_cons (pv 1) pa_nil)) (blkOk_by (by kernel_rfl)) (fun _ _ _ _ _ => (pg_name (i := 3) sc_Board_init.nd rfl (Or.inl rfl))) (fun _ _ _ _ _ => pts_nil) (fun _ _ _ _ _ => (pe_call F_fars_from hr_fars_from rfl T.glo_fars_from kp_fars_from b_fars_from .nil pass0 (pa_cons (fldK (K := K) (pv 0) rfl) (pa_cons (pv 3) pa_nil))))) rfl)))))), ?_⟩
    refine ⟨_, rfl, _, _, _, rfl, _, rfl, iteNS ⟨by omega, by omega⟩ ?_⟩
    refine ⟨_, rfl, _, rfl, x, _, dx, _, rfl, hx, T.cl, T.n_many, (by show 0 < 1000; decide), ?_⟩
    have s1 : Same H0 (upd H x (.ins (cB K) dx (putF "many" (vI n) []))) := same_mut s0 x0
    have hx1 : (upd H x (.ins (cB K) dx (putF "many" (vI n) []))) x = some (.ins (cB K) dx (putF "many" (vI n) [])) := upd_same
    generalize upd H x (.ins (cB K) dx (putF "many" (vI n) [])) = H1 at s1 hx1
    refine ⟨_, rfl, _, rfl, n, l, L, rfl, s1 _ _ hl, fun q hq => s1 _ _ (tL q hq), W, n8, len, fun H2 p M hp tM mM sM s2 hpn => ?_⟩
    have hx2 := s2 _ _ hx1
    have npx : p ≠ x := ne_of hp hx2 (by intro z; cases z)
    refine ⟨_, rfl, x, _, dx, _, rfl, hx2, T.cl, T.n_pairs, (by show 1 < 1000; decide), ?_⟩
    have hc1 : ∃ ys, H1 c = some (.lst ys) := hc.imp fun ys z => s1 _ _ z
    have npc : p ≠ c := fun z => by
      obtain ⟨ys, hc1⟩ := hc1
      rw [← z, hpn] at hc1
      cases hc1
    have hx3 : (upd H2 x (.ins (cB K) dx (putF "pairs" (.ref p) (putF "many" (vI n) [])))) x = some (.ins (cB K) dx (putF "pairs" (.ref p) (putF "many" (vI n) []))) := upd_same
    have hp3 : (upd H2 x (.ins (cB K) dx (putF "pairs" (.ref p) (putF "many" (vI n) [])))) p = some (.lst (M.map fun q => V.ref q.1)) := by
      rw [upd_ne npx]
      exact hp
    have tM3 : ∀ q ∈ M, (upd H2 x (.ins (cB K) dx (putF "pairs" (.ref p) (putF "many" (vI n) [])))) q.1 = some (.tup [vI q.2.1, vI q.2.2]) := fun q hq => by
      rw [upd_ne (ne_of (tM q hq) hx2 (by intro z; cases z))]
      exact tM q hq
    have s3 : Same H0 (upd H2 x (.ins (cB K) dx (putF "pairs" (.ref p) (putF "many" (vI n) [])))) := same_mut (s1.trans s2) x0
    generalize upd H2 x (.ins (cB K) dx (putF "pairs" (.ref p) (putF "many" (vI n) []))) = H3 at hx3 hp3 tM3 s3
    have nd : (M.map (·.2)).Nodup := sM.imp fun {a b} z e => by
      unfold lexLt at z
      rw [e] at z
      omega
    have lM : M.length ≤ 64 := by
      have q1 : (M.map (·.2)).length ≤ (L.map (·.2)).length := nd.length_le_of_subset fun e he => (mM e).1 he
      rw [List.length_map, List.length_map] at q1
      omega
    have on : On n (M.map (·.2)) := fun e he => by
      obtain ⟨q, hq, rfl⟩ := List.mem_map.mp ((mM e).1 he)
      exact W.2.1 q hq
    refine ⟨_, rfl, (n : Int), rfl, by omega, by omega, fun D hD => ?_⟩
    have Dc : D ≠ c := fun z => by
      obtain ⟨ys, hc⟩ := hc
      rw [z, s3 _ _ hc] at hD
      cases hD
    refine lc_range (lo := 0) (n := ((n : Nat) : Int).toNat) (fun i H4 => ∃ G : List (Addr × List Nat), G.length = i ∧ H4 D = some (.lst (G.map fun g => V.ref g.1)) ∧ (∀ (c : Nat) (g : Addr × List Nat), G[c]? = some g → g.1 ≠ D ∧ H4 g.1 = some (.lst (g.2.map vI)) ∧ g.2.length ≤ 64 ∧ ∀ o, o ∈ g.2 ↔ (c, o) ∈ M.map (·.2)) ∧ Same H3 H4)
      ⟨[], rfl, upd_same, fun c g e => (by simp at e), same_upd hD⟩ ?_ ?_
    · rintro i H4 hi ⟨G, lG, hG, eG, s4⟩
      refine ⟨rfl, ?_⟩
      unfold tYes
      refine iteT ?_
      refine ⟨_, rfl, x, _, dx, _, _, rfl, s4 _ _ hx3, T.cl, T.n_pairs, rfl, p, rfl, ⟨_, SqL.of (s4 _ _ hp3)⟩, fun D2 hD2 => ?_⟩
      refine lc_list (K := K) (a := p) (xs := M.map fun q => V.ref q.1) (fun j H5 => ∃ os : List Nat, H5 D2 = some (.lst (os.map vI)) ∧ (∀ o, o ∈ os ↔ (i, o) ∈ (M.take j).map (·.2)) ∧ os.length ≤ j ∧ Same H4 H5)
        ⟨[], upd_same, by simp, Nat.le_refl _, same_upd hD2⟩ (fun j H5 _ ⟨_, _, _, _, s5⟩ => SqL.of (s5 _ _ (s4 _ _ hp3))) ?_ ?_
      · rintro j y H5 hy ⟨os, ho, mo, lo, s5⟩
        obtain ⟨q, hq, rfl⟩ : ∃ q, M[j]? = some q ∧ V.ref q.1 = y := by
          rw [List.getElem?_map] at hy
          cases e : M[j]? with
          | none => rw [e] at hy; cases hy
          | some q => rw [e] at hy; exact ⟨q, rfl, Option.some.inj hy⟩
        have jM : j < M.length := (List.getElem?_eq_some_iff.mp hq).1
        have et : M.take (j + 1) = M.take j ++ [q] := by
          rw [List.take_add_one, hq]
          rfl
        have tq := s5 _ _ (s4 _ _ (tM3 q (List.mem_of_getElem? hq)))
        refine ⟨q.1, _, rfl, SqT.of tq, rfl, _, _, rfl, _, _, rfl, rfl, rfl, ?_⟩
        refine ⟨_, rfl, _, rfl, rfl, _, rfl, ?_⟩
        refine ite2 (fun z => ?_) (fun z => ?_)
        · have z1 : V.int (q.2.1 : Nat) = V.int (0 + (i : Int)) := of_decide_eq_true z
          have z2 : q.2.1 = i := by
            injection z1 with z1
            omega
          refine ⟨_, rfl, _, ho, ?_, os ++ [q.2.2], ?_, fun o => ?_, ?_, same_mut s5 hD2⟩
          · rw [List.length_map]
            exact Nat.lt_of_le_of_lt (show os.length ≤ 64 by omega) (by decide)
          · rw [upd_same, List.map_append]
            rfl
          · rw [et, List.map_append, List.mem_append, List.mem_append, mo o]
            have : o ∈ [q.2.2] ↔ (i, o) ∈ List.map (fun x => x.2) [q] := by
              simp only [List.mem_singleton, List.map_cons, List.map_nil]
              constructor
              · intro e
                rw [e, ← z2]
              · intro e
                rw [← e]
            rw [this]
          · rw [List.length_append]
            simp
            omega
        · have z2 : q.2.1 ≠ i := fun e => z (decide_eq_true (by
            show V.int (q.2.1 : Nat) = V.int (0 + (i : Int))
            rw [e, Int.zero_add]))
          refine ⟨os, ho, fun o => ?_, by omega, s5⟩
          rw [et, List.map_append, List.mem_append, mo o]
          constructor
          · exact .inl
          · rintro (e | e)
            · exact e
            · have : (i, o) = q.2 := by simpa using e
              exact absurd (congrArg Prod.fst this).symm z2
      · rintro H5 ⟨os, ho, mo, lo, s5⟩
        rw [List.length_map] at lo mo
        rw [List.take_length] at mo
        have D2D : D2 ≠ D := fun z => by
          rw [z, hG] at hD2
          cases hD2
        refine ⟨_, s5 _ _ hG, ?_, G ++ [(D2, os)], by simp [lG], ?_, fun c' g hg => ?_, same_mut (s4.trans s5) hD⟩
        · rw [List.length_map]
          exact Nat.lt_of_le_of_lt (show G.length ≤ 8 by omega) (by decide)
        · rw [upd_same, List.map_append]
          rfl
        · rw [List.getElem?_append] at hg
          split at hg
          · rename_i lt
            obtain ⟨gD, g1, g2, g3⟩ := eG c' g hg
            rw [upd_ne gD]
            exact ⟨gD, s5 _ _ g1, g2, g3⟩
          · rename_i ge
            have e0 : c' - G.length = 0 := by
              cases h0 : c' - G.length with
              | zero => rfl
              | succ k => rw [h0] at hg; simp at hg
            rw [e0] at hg
            have eg : (D2, os) = g := by simpa using hg
            subst eg
            have ec : c' = i := by omega
            subst ec
            rw [upd_ne D2D]
            exact ⟨D2D, ho, (show os.length ≤ 64 by omega), mo⟩
    · rintro H4 ⟨G, lG, hG, eG, s4⟩
      have hx4 := s4 _ _ hx3
      refine ⟨_, rfl, x, _, dx, _, rfl, hx4, T.cl, T.n_leads, (by show 2 < 1000; decide), ?_⟩
      have nDx : D ≠ x := ne_of hG hx4 (by intro z; cases z)
      have hx5 : (upd H4 x (.ins (cB K) dx (putF "leads" (.ref D) (putF "pairs" (.ref p) (putF "many" (vI n) []))))) x = some (.ins (cB K) dx (putF "leads" (.ref D) (putF "pairs" (.ref p) (putF "many" (vI n) [])))) := upd_same
      have LA : LeadsAt (upd H4 x (.ins (cB K) dx (putF "leads" (.ref D) (putF "pairs" (.ref p) (putF "many" (vI n) []))))) D n (M.map (·.2)) G := by
        refine ⟨by rw [upd_ne nDx]; exact hG, by omega, fun c' g hg => ?_⟩
        obtain ⟨_, g1, g2, g3⟩ := eG c' g hg
        rw [upd_ne (ne_of g1 hx4 (by intro z; cases z))]
        exact ⟨g1, g2, g3⟩
      have hp5 : (upd H4 x (.ins (cB K) dx (putF "leads" (.ref D) (putF "pairs" (.ref p) (putF "many" (vI n) []))))) p = some (.lst (M.map fun q => V.ref q.1)) := by
        rw [upd_ne npx]
        exact s4 _ _ hp3
      have tM5 : ∀ q ∈ M, (upd H4 x (.ins (cB K) dx (putF "leads" (.ref D) (putF "pairs" (.ref p) (putF "many" (vI n) []))))) q.1 = some (.tup [vI q.2.1, vI q.2.2]) := fun q hq => by
        have g := s4 _ _ (tM3 q hq)
        rw [upd_ne (ne_of g hx4 (by intro z; cases z))]
        exact g
      have s5 : Same H0 (upd H4 x (.ins (cB K) dx (putF "leads" (.ref D) (putF "pairs" (.ref p) (putF "many" (vI n) []))))) := same_mut (s3.trans s4) x0
      generalize upd H4 x (.ins (cB K) dx (putF "leads" (.ref D) (putF "pairs" (.ref p) (putF "many" (vI n) [])))) = H5 at hx5 LA hp5 tM5 s5
      refine ⟨_, rfl, (n : Int), rfl, by omega, by omega, fun D3 hD3 => ?_⟩
      have D3c : D3 ≠ c := fun z => by
        obtain ⟨ys, hc⟩ := hc
        rw [z, s5 _ _ hc] at hD3
        cases hD3
      refine lc_range (lo := 0) (n := ((n : Nat) : Int).toNat) (fun i H6 => ∃ U : List (Addr × List (Option Nat)), U.length = i ∧ H6 D3 = some (.lst (U.map fun g => V.ref g.1)) ∧ (∀ (a : Nat) (q : Addr × List (Option Nat)), U[a]? = some q → q.1 ≠ D3 ∧ H6 q.1 = some (.lst (q.2.map vO)) ∧ q.1 ≠ c ∧ Fars n (M.map (·.2)) a q.2) ∧ Same H5 H6)
        ⟨[], rfl, upd_same, fun c g e => (by simp at e), same_upd hD3⟩ ?_ ?_
      · rintro i H6 hi ⟨U, lU, hU, eU, s6⟩
        refine ⟨rfl, ?_⟩
        unfold tYes
        refine iteT ?_
        refine ⟨_, rfl, x, _, dx, _, _, rfl, s6 _ _ hx5, T.cl, T.n_leads, rfl, _, rfl, D, i, n, _, G, (by rw [Int.zero_add]; rfl), LA.same s6, on, n8, by omega, fun H7 pp fs hpp hpn7 FF s7 => ?_⟩
        have ppD : pp ≠ D3 := fun z => by
          rw [z, hU] at hpn7
          cases hpn7
        have ppc : pp ≠ c := fun z => by
          obtain ⟨ys, hc⟩ := hc
          rw [z, s6 _ _ (s5 _ _ hc)] at hpn7
          cases hpn7
        refine ⟨_, s7 _ _ hU, ?_, U ++ [(pp, fs)], by simp [lU], ?_, fun a q hq => ?_, same_mut (s6.trans s7) hD3⟩
        · rw [List.length_map]
          exact Nat.lt_of_le_of_lt (show U.length ≤ 8 by omega) (by decide)
        · rw [upd_same, List.map_append]
          rfl
        · rw [List.getElem?_append] at hq
          split at hq
          · obtain ⟨gD, g1, g2, g3⟩ := eU a q hq
            rw [upd_ne gD]
            exact ⟨gD, s7 _ _ g1, g2, g3⟩
          · rename_i ge
            have e0 : a - U.length = 0 := by
              cases h0 : a - U.length with
              | zero => rfl
              | succ k => rw [h0] at hq; simp at hq
            rw [e0] at hq
            have eg : (pp, fs) = q := by simpa using hq
            subst eg
            have ec : a = i := by omega
            subst ec
            rw [upd_ne ppD]
            exact ⟨ppD, hpp, ppc, FF⟩
      · rintro H6 ⟨U, lU, hU, eU, s6⟩
        have hx6 := s6 _ _ hx5
        refine ⟨_, rfl, x, _, dx, _, rfl, hx6, T.cl, T.n_fars, (by show 3 < 1000; decide), ?_⟩
        have off : ∀ a o, H6 a = some o → (∀ d fs, o ≠ .ins (cB K) d fs) → (upd H6 x (.ins (cB K) dx (putF "fars" (.ref D3) (putF "leads" (.ref D) (putF "pairs" (.ref p) (putF "many" (vI n) [])))))) a = some o := fun a o e k => by
          have ne : a ≠ x := fun z => by
            rw [z, hx6] at e
            exact k _ _ (Option.some.inj e).symm
          rw [upd_ne ne]
          exact e
        refine h _ (M.map (·.2)) ⟨⟨dx, p, D, D3, M, _, U, upd_same, ⟨off _ _ (s6 _ _ hp5) (by intro d f z; cases z), npc, fun q hq => off _ _ (s6 _ _ (tM5 q hq)) (by intro d f z; cases z)⟩, rfl,
          off _ _ (s6 _ _ LA.at_) (by intro d f z; cases z), Dc, by rw [List.length_map]; exact LA.len, off _ _ hU (by intro d f z; cases z), D3c, by omega, fun a q hq => ?_⟩, n1, n8, on, nd⟩ mM sM (same_mut (s5.trans s6) x0)
        obtain ⟨_, g1, g2, g3⟩ := eU a q hq
        exact ⟨off _ _ g1 (by intro d f z; cases z), g2, g3⟩
end
end RL
namespace RL
open PySem PySem.Spec PyProof.Rows L2 RLM
section
variable {P : Program} {w : World} {K : PySem.W.Frag} {mg : Str → Option Value} {base : Heap}
def spCheck (K : PySem.W.Frag) : Sp := fun vs H Q _ => ∃ (c x : Addr) (n a : Nat) (E : List (Nat × Nat)), vs = [.ref x, vI a] ∧ BoardAt K c H x n E ∧ a < n ∧ Q .non H
theorem sc_Board_check_place : FnScope ["self", "place"] ["self", "place"] (defScope s_Board_check_place) := ⟨rfl, rfl, rfl, by decide +kernel, rfl, by decide +kernel, by decide +kernel⟩
theorem ok_check (T : Tx K mg) : Has P w K mg base (mB K "check_place") 3 ["self", "place"] (spCheck K) := by
  obtain ⟨⟨fd_is_between, F_is_between, b_is_between⟩, kp_is_between⟩ := ok_is_between (P := P) (w := w) (base := base) T
  obtain ⟨fd, F⟩ := T.d_Board_check_place
  refine ⟨⟨fd, F.ok sc_Board_check_place (fun vs H Q E h => ?_) (fun cdv A outer s H vs Q E hr h => ?_), F.bindsN fun _ _ _ _ _ _ us hl => match us, hl with | [_, _], _ => rfl⟩, F.kp⟩
  · obtain ⟨c, x, n, a, E, rfl, _⟩ := h
    rfl
  · obtain ⟨c, x, n, a, E, rfl, B, an, h⟩ := h
    have hr_is_between : Room 2 _ := hr.mono (by decide)
    refine ⟨_, PSs.nox (pss_one (ps_if (pt_not (pt_val (pe_call F_is_between hr_is_between rfl T.glo_is_between kp_is_between b_is_between .nil pass0 (pa_cons (pv 1) (pa_cons pe_int (pa_cons (pe_op op_sub (fldK (K := K) (pv 0) rfl) pe_int) pa_nil)))))) (pss_one ps_never) pss_nil)), ?_⟩
    obtain ⟨dx, lp, ll, lf, hx⟩ := B.obj
    exact ⟨_, rfl, _, rfl, x, _, dx, _, _, rfl, hx, T.cl, T.n_many, bf_many _ _ _ _, _, _, rfl, rfl, _, _, _, rfl, _, rfl, iteNS ⟨by omega, by omega⟩ h⟩
def spLen (K : PySem.W.Frag) : Sp := fun vs H Q _ => ∃ (c x : Addr) (n : Nat) (E : List (Nat × Nat)), vs = [.ref x] ∧ BoardAt K c H x n E ∧ Q (vI n) H
theorem sc_Board_len : FnScope ["self"] ["self"] (defScope s_Board_len) := ⟨rfl, rfl, rfl, by decide +kernel, rfl, by decide +kernel, by decide +kernel⟩
theorem ok_len (T : Tx K mg) : Has P w K mg base (mB K "__len__") 1 ["self"] (spLen K) := by
  obtain ⟨fd, F⟩ := T.d_Board_len
  refine ⟨⟨fd, F.ok sc_Board_len (fun vs H Q E h => ?_) (fun cdv A outer s H vs Q E hr h => ?_), F.bindsN fun _ _ _ _ _ _ us hl => match us, hl with | [_], _ => rfl⟩, F.kp⟩
  · obtain ⟨c, x, n, E, rfl, _⟩ := h
    rfl
  · obtain ⟨c, x, n, E, rfl, B, h⟩ := h
    refine ⟨_, PSs.nox (pss_one (ps_ret (pe_callB (lenK (K := K)) (by rfl) T.free_len (by decide +kernel) (pa_cons (fldK (K := K) (pv 0) rfl) pa_nil)))), ?_⟩
    obtain ⟨dx, lp, ll, lf, L, ls, F, hx, h2, h3, h4, h5, h6, _⟩ := B.ex
    refine ⟨_, rfl, x, _, dx, _, _, rfl, hx, T.cl, T.n_leads, bf_leads _ _ _ _, ll, _, rfl, .inl (SqL.of h4), ?_⟩
    rw [h6]
    exact h
def spWithin (K : PySem.W.Frag) : Sp := fun vs H Q _ => ∃ (c x : Addr) (n a : Nat) (m : Int) (E : List (Nat × Nat)), vs = [.ref x, vI a, .int m] ∧ BoardAt K c H x n E ∧ a < n ∧ ∀ H' t, H' t = some (.tup ((lotP n (Near E m a)).map vI)) → Same H H' → Q (.ref t) H'
theorem sc_Board_within : FnScope ["self", "place", "most", "other", "far"] ["self", "place", "most"] (defScope s_Board_within) := ⟨rfl, rfl, rfl, by decide +kernel, rfl, by decide +kernel, by decide +kernel⟩
theorem ok_within (T : Tx K mg) : Has P w K mg base (mB K "within") 4 ["self", "place", "most"] (spWithin K) := by
  obtain ⟨⟨fd_check_place, F_check_place, b_check_place⟩, kp_check_place⟩ := ok_check (P := P) (w := w) (base := base) T
  obtain ⟨fd, F⟩ := T.d_Board_within
  refine ⟨⟨fd, F.ok sc_Board_within (fun vs H Q E h => ?_) (fun cdv A outer s H vs Q E hr h => ?_), F.bindsN fun _ _ _ _ _ _ us hl => match us, hl with | [_, _, _], _ => rfl⟩, F.kp⟩
  · obtain ⟨c, x, n, a, m, E, rfl, _⟩ := h
    rfl
  · obtain ⟨c, x, n, a, m, E, rfl, B, an, h⟩ := h
    have hr_check_place : Room 3 _ := hr.mono (by decide)
    refine ⟨_, PSs.nox (pss_cons (ps_expr (pe_meth (pv 0) T.cl T.m_check_place F_check_place hr_check_place b_check_place .nil pass0 (pa_cons (pv 1) pa_nil)))
      (pss_one (ps_ret (pe_callTy (tupK (K := K)) (by rfl) T.free_tuple (by decide +kernel) (pa_cons (pe_lc (own := [("other", 3), ("far", 4)]) rfl sc_Board_within.nd (piEnum (K := K) (by rfl) T.free_enumerate (pa_cons (pe_ix (ixL (K := K)) (fldK (K := K) (pv 0) rfl) (pv 1) (fun _ _ => rfl)) pa_nil)) (blkOk_by (by kernel_rfl)) (fun _ _ _ _ _ => (pgT (K := K) (n := 2) rfl (pgs_cons (pg_name (i := 3) sc_Board_within.nd rfl (Or.inl rfl)) (pgs_cons (pg_name (i := 4) sc_Board_within.nd rfl (Or.inl rfl)) pgs_nil)))) (fun _ _ _ _ _ => (pts_one (PW.pt (pw_and (pt_cmpR op_notN (pv 4) pe_non (nomark _)) (pw_and1 (pt_cmpR op_le (pv 4) (pv 2) (nomark _))))))) (fun _ _ _ _ _ => (pv 3))) pa_nil))))), ?_⟩
    obtain ⟨dx, lp, ll, lf, L, ls, U, hx, h2, h3, h4, h5, h6, hlf, lfc, lU, eU⟩ := B.ex
    refine ⟨_, rfl, x, dx, _, rfl, hx, bf_check _ _ _ _, _, rfl, c, x, n, a, E, rfl, B, an, ?_⟩
    obtain ⟨u, hu⟩ : ∃ u, U[a]? = some u := ⟨_, List.getElem?_eq_getElem (by rw [lU]; exact an)⟩
    obtain ⟨hul, uc, FF⟩ := eU a u hu
    refine ⟨_, rfl, x, _, dx, _, _, rfl, hx, T.cl, T.n_fars, bf_fars _ _ _ _, _, rfl, lf, _, _, _, rfl, rfl, SqL.of hlf, atI_nat (get_map hu), u.1, _, rfl, SqL.of hul, fun D hD => ?_⟩
    refine lc_it (walk_enum (K := K) (a := u.1) (xs := u.2.map vO)) (fun i H1 => ∃ ps : List Nat, H1 D = some (.lst (ps.map vI)) ∧ ps.Pairwise (· < ·) ∧ (∀ b, b ∈ ps ↔ b < i ∧ Near E m a b) ∧ ps.length ≤ i ∧ Same H H1)
      ⟨[], upd_same, List.Pairwise.nil, by simp, Nat.le_refl _, same_upd hD⟩ (fun i H1 _ ⟨_, _, _, _, _, s1⟩ => SqL.of (s1 _ _ hul)) ?_ ?_
    · rintro i y H1 H2 hi ⟨ps, hp, sp, mp, lp, s1⟩ ⟨t, y1, y2, rfl, ht, rfl, e1, e2⟩
      rw [List.length_map] at hi
      cases (Option.some.inj e1)
      have ed : u.2[i]? = some u.2[i] := List.getElem?_eq_getElem hi
      generalize u.2[i] = d at ed
      have ey : y2 = vO d := by
        have e3 : (u.2.map vO)[i]? = some y2 := e2
        rw [List.getElem?_map, ed] at e3
        exact (Option.some.inj e3).symm
      subst ey
      have s2 : Same H1 (upd H1 t (.tup [.int (i : Nat), vO d])) := same_upd ht
      have FN := FF.2 i d ed m
      have i8 : i < 8 := by
        have := B.hi
        rw [← FF.1] at this
        omega
      have hp2 := s2 _ _ hp
      have no : ¬ Near E m a i → ∃ ps : List Nat, (upd H1 t (.tup [.int (i : Nat), vO d])) D = some (.lst (ps.map vI)) ∧ ps.Pairwise (· < ·) ∧ (∀ b, b ∈ ps ↔ b < i + 1 ∧ Near E m a b) ∧ ps.length ≤ i + 1 ∧ Same H (upd H1 t (.tup [.int (i : Nat), vO d])) := fun nn => by
        refine ⟨ps, hp2, sp, fun b => ?_, by omega, s1.trans s2⟩
        rw [mp b]
        constructor
        · rintro ⟨z1, z2⟩
          exact ⟨by omega, z2⟩
        · rintro ⟨z1, z2⟩
          refine ⟨?_, z2⟩
          rcases Nat.lt_or_ge b i with k | k
          · exact k
          · exfalso
            have : b = i := by omega
            rw [this] at z2
            exact nn z2
      refine ⟨t, _, rfl, SqT.of upd_same, rfl, _, _, rfl, _, _, rfl, rfl, rfl, ?_⟩
      refine ⟨_, rfl, rfl, _, rfl, ?_⟩
      cases d with
      | none =>
        refine iteF (iteF ?_)
        refine no fun z => ?_
        obtain ⟨k, hk, _⟩ := FN.2 z
        cases hk
      | some k =>
        refine iteT ?_
        refine ⟨_, rfl, _, rfl, _, _, rfl, rfl, _, rfl, ?_⟩
        refine ite2 (fun z => ?_) (fun z => ?_)
        · have z1 : (k : Int) ≤ m := of_decide_eq_true z
          have nr : Near E m a i := FN.1 ⟨k, rfl, z1⟩
          refine ⟨_, rfl, _, hp2, ?_, ps ++ [i], ?_, ?_, fun b => ?_, ?_, same_mut (s1.trans s2) hD⟩
          · rw [List.length_map]
            exact Nat.lt_of_le_of_lt (show ps.length ≤ 8 by omega) (by decide)
          · rw [upd_same, List.map_append]
            rfl
          · rw [List.pairwise_append]
            refine ⟨sp, by simp, fun b hb b' hb' => ?_⟩
            rw [List.mem_singleton.mp hb']
            exact ((mp b).1 hb).1
          · rw [List.mem_append, mp b, List.mem_singleton]
            constructor
            · rintro (⟨z1, z2⟩ | z1)
              · exact ⟨by omega, z2⟩
              · rw [z1]
                exact ⟨by omega, nr⟩
            · rintro ⟨z1, z2⟩
              rcases Nat.lt_or_ge b i with k | k
              · exact .inl ⟨k, z2⟩
              · exact .inr (by omega)
          · rw [List.length_append]
            simp
            omega
        · refine no fun nr => z (decide_eq_true ?_)
          obtain ⟨k', hk, hk2⟩ := FN.2 nr
          cases hk
          exact hk2
    · rintro H1 ⟨ps, hp, sp, mp, lp, s1⟩
      rw [List.length_map, FF.1] at mp
      refine ⟨D, _, rfl, .inl ⟨SqL.of hp, fun t ht => ?_⟩⟩
      refine h _ t ?_ (s1.trans (same_upd ht))
      rw [upd_same, lotP_of sp mp]
end
end RL
namespace RL
open PySem PySem.Spec PyProof.Rows L2 RLM
/-! few ways -/
def allW : List (Nat × Nat) := (List.range 8).flatMap fun a => (List.range 8).filterMap fun b => if a = b then none else some (a, b)
theorem allW_len : allW.length = 56 := by decide +kernel
theorem mem_allW {e : Nat × Nat} (h1 : e.1 < 8) (h2 : e.2 < 8) (h3 : e.1 ≠ e.2) : e ∈ allW := by
  unfold allW
  rw [List.mem_flatMap]
  refine ⟨e.1, List.mem_range.mpr h1, List.mem_filterMap.mpr ⟨e.2, List.mem_range.mpr h2, ?_⟩⟩
  rw [if_neg h3]
theorem on_few {n : Nat} {E : List (Nat × Nat)} (hn : n ≤ 8) (on : On n E) (nd : E.Nodup) : E.length ≤ 56 := by
  rw [← allW_len]
  refine nd.length_le_of_subset fun e he => ?_
  obtain ⟨h1, h2, h3⟩ := on e he
  exact mem_allW (by omega) (by omega) h3
theorem WaysOk.few {n : Nat} {L : List (Addr × Nat × Nat)} (hn : n ≤ 8) (h : WaysOk n L) : L.length < 63 := by
  have := on_few (E := L.map (·.2)) hn (fun e he => by
    obtain ⟨q, hq, rfl⟩ := List.mem_map.mp he
    exact h.2.1 q hq) h.1
  rw [List.length_map] at this
  omega
section
variable {P : Program} {w : World} {K : PySem.W.Frag} {mg : Str → Option Value} {base : Heap}
/-- Board(n, l) is asked where l has been made -/
theorem init_at {H : Hp} {c l x dx : Addr} {n : Nat} {L : List (Addr × Nat × Nat)} {Q : VK} (hc : ∃ ys, H c = some (.lst ys)) (hl : H l = some (.lst (L.map fun q => V.ref q.1))) (tL : ∀ q ∈ L, H q.1 = some (.tup [vI q.2.1, vI q.2.2])) (W : WaysOk n L) (n1 : 1 ≤ n) (n8 : n ≤ 8)
    (hx : H x = none) (hdx : H dx = none) (ne : dx ≠ x) (h : ∀ (H' : Hp) (E : List (Nat × Nat)), BoardAt K c H' x n E → (∀ e, e ∈ E ↔ e ∈ L.map (·.2)) → E.Pairwise lexLt → Same H H' → Q .non H') :
    spInit K [.ref x, vI n, .ref l] (upd (upd H dx (.own x)) x (.ins (cB K) dx [])) Q E0 := by
  refine ⟨H, x, dx, c, l, n, L, rfl, fun b o e => ?_, hx, upd_same, hc, hl, tL, W, n1, n8, W.few n8, h⟩
  rw [upd_ne (ne_of_none e hx), upd_ne (ne_of_none e hdx)]
  exact e
def spMade (K : PySem.W.Frag) : Sp := fun vs H Q _ => ∃ (c t l : Addr) (n : Nat) (L : List (Addr × Nat × Nat)), vs = [.ref t] ∧ H t = some (.tup [vI n, .ref l]) ∧ PairsAt c H l L ∧ WaysOk n L ∧ 1 ≤ n ∧ n ≤ 8 ∧ (∃ ys, H c = some (.lst ys)) ∧
  ∀ (H' : Hp) (x : Addr) (E : List (Nat × Nat)), BoardAt K c H' x n E → (∀ e, e ∈ E ↔ e ∈ L.map (·.2)) → E.Pairwise lexLt → Same H H' → Q (.ref x) H'
theorem sc__law_made : FnScope ["_law_board_here"] ["_law_board_here"] (defScope s__law_made) := ⟨rfl, rfl, rfl, by decide +kernel, rfl, by decide +kernel, by decide +kernel⟩
theorem ok_made (T : Tx K mg) : Has P w K mg base (He.ga K "_law_made") 6 ["_law_board_here"] (spMade K) := by
  obtain ⟨⟨fd_Board, F_Board, b_Board⟩, kp_Board⟩ := ok_init (P := P) (w := w) (base := base) T
  obtain ⟨fd, F⟩ := T.d__law_made
  refine ⟨⟨fd, F.ok sc__law_made (fun vs H Q E h => ?_) (fun cdv A outer s H vs Q E hr h => ?_), F.bindsN fun _ _ _ _ _ _ us hl => match us, hl with | [_], _ => rfl⟩, F.kp⟩
  · obtain ⟨c, t, l, n, L, rfl, _⟩ := h
    rfl
  · obtain ⟨c, t, l, n, L, rfl, ht, PL, W, n1, n8, hc, h⟩ := h
    have hr_Board : Room 5 _ := hr.mono (by decide)
    refine ⟨_, PSs.nox (pss_one (ps_ret (pe_make T.mkB F_Board hr_Board rfl T.glo_Board b_Board .nil pass0 (pa_cons (pe_ix (ixT (K := K)) (pv 0) pe_int (fun _ _ => rfl)) (pa_cons (pe_callTy (listK (K := K)) (by rfl) T.free_list (by decide +kernel) (pa_cons (pe_ix (ixT (K := K)) (pv 0) pe_int (fun _ _ => rfl)) pa_nil)) pa_nil))))), ?_⟩
    refine ⟨_, rfl, t, _, 0, _, rfl, rfl, SqT.of ht, rfl, _, rfl, t, _, 1, _, rfl, rfl, SqT.of ht, rfl, l, _, rfl, .inl (SqL.of PL.at_), fun l2 hl2 => ?_⟩
    have s1 : Same H (upd H l2 (.lst (L.map fun q => V.ref q.1))) := same_upd hl2
    intro x dx hx hdx ne
    exact init_at (hc.imp fun _ z => s1 _ _ z) upd_same (fun q hq => s1 _ _ (PL.tup q hq)) W n1 n8 hx hdx ne fun H' E B mE sE s2 => ⟨rfl, h H' x E B mE sE (s1.trans s2)⟩
def spTurned (K : PySem.W.Frag) : Sp := fun vs H Q _ => ∃ (c x : Addr) (n : Nat) (E : List (Nat × Nat)), vs = [.ref x] ∧ BoardAt K c H x n E ∧ (∃ ys, H c = some (.lst ys)) ∧
  ∀ (H' : Hp) (y : Addr) (E' : List (Nat × Nat)), BoardAt K c H' y n E' → (∀ a b, (a, b) ∈ E' ↔ (b, a) ∈ E) → E'.Pairwise lexLt → Same H H' → Q (.ref y) H'
theorem nodup_inj {α β : Type} {f : α → β} : ∀ {l : List α}, l.Nodup → (∀ x ∈ l, ∀ y ∈ l, f x = f y → x = y) → (l.map f).Nodup
  | [], _, _ => List.nodup_nil
  | a :: l, h, hf => by
    rw [List.map_cons, List.nodup_cons]
    rw [List.nodup_cons] at h
    refine ⟨fun hm => ?_, nodup_inj h.2 fun x hx y hy => hf x (List.mem_cons_of_mem _ hx) y (List.mem_cons_of_mem _ hy)⟩
    obtain ⟨b, hb, e⟩ := List.mem_map.mp hm
    exact h.1 (hf b (List.mem_cons_of_mem _ hb) a List.mem_cons_self e ▸ hb)
theorem sqt_same {H H' : Hp} {a : Addr} {xs : List V} (s : Same H H') (h : SqT K H a xs) : SqT K H' a xs := by
  rcases h with (h | ⟨o, h⟩) | h
  · exact .inl (.inl (s _ _ h))
  · exact .inl (.inr ⟨o, s _ _ h⟩)
  · exact .inr h
def spRenamed (K : PySem.W.Frag) : Sp := fun vs H Q _ => ∃ (c x t : Addr) (n : Nat) (E : List (Nat × Nat)) (os : List Nat), vs = [.ref x, .ref t] ∧ BoardAt K c H x n E ∧ (∃ ys, H c = some (.lst ys)) ∧ SqT K H t (os.map vI) ∧ os.Perm (List.range n) ∧
  ∀ (H' : Hp) (y : Addr) (E' : List (Nat × Nat)), BoardAt K c H' y n E' → (∀ e, e ∈ E' ↔ ∃ p, p ∈ E ∧ e = (os.getD p.1 0, os.getD p.2 0)) → E'.Pairwise lexLt → Same H H' → Q (.ref y) H'
theorem int_maps : ∀ {xs ys : List Int}, xs.map V.int = ys.map V.int → xs = ys
  | [], [], _ => rfl
  | [], _ :: _, h => by cases h
  | _ :: _, [], h => by cases h
  | x :: xs, y :: ys, h => by
    rw [List.map_cons, List.map_cons] at h
    injection h with h1 h2
    injection h1 with h1
    rw [h1, int_maps h2]
/-- what is sorted of an order of the places -/
theorem sorted_order {n : Nat} {os : List Nat} {ms : List Int} (h : os.Perm (List.range n)) (p : ms.Perm (os.map nI)) (s : ms.Pairwise (· ≤ ·)) : ms = (List.range n).map nI := by
  have pm : ms.Perm ((List.range n).map nI) := p.trans (h.map nI)
  have nd : ms.Nodup := pm.nodup_iff.mpr (nodup_inj List.nodup_range fun x _ y _ e => by
    unfold nI at e
    omega)
  have lt : ms.Pairwise (· < ·) := (s.and nd).imp fun {a b} ⟨z1, z2⟩ => by
    have z2 : a ≠ b := z2
    omega
  have e := rise_lot (n := n) (p := fun _ => True) lt fun k => by
    rw [pm.mem_iff, List.mem_map]
    constructor
    · rintro ⟨b, hb, rfl⟩
      exact ⟨b, rfl, List.mem_range.mp hb, trivial⟩
    · rintro ⟨b, rfl, hb, _⟩
      exact ⟨b, List.mem_range.mpr hb, rfl⟩
  rw [lotP_true, vI_map] at e
  exact int_maps e
theorem os_get {n : Nat} {os : List Nat} (h : os.Perm (List.range n)) {a : Nat} (ha : a < n) : os[a]? = some (os.getD a 0) ∧ os.getD a 0 < n := by
  have hl : a < os.length := by rw [h.length_eq, List.length_range]; exact ha
  have e : os.getD a 0 = os[a] := by rw [List.getD_eq_getElem?_getD, List.getElem?_eq_getElem hl]; rfl
  refine ⟨by rw [e]; exact List.getElem?_eq_getElem hl, ?_⟩
  rw [e]
  exact List.mem_range.mp (h.mem_iff.mp (List.getElem_mem hl))
theorem os_inj {n : Nat} {os : List Nat} (h : os.Perm (List.range n)) {a b : Nat} (ha : a < n) (hb : b < n) (e : os.getD a 0 = os.getD b 0) : a = b := by
  have nd : os.Nodup := h.nodup_iff.mpr List.nodup_range
  have h1 := (os_get h ha).1
  have h2 := (os_get h hb).1
  rw [e, ← h2] at h1
  have hl : a < os.length := by rw [h.length_eq, List.length_range]; exact ha
  exact (List.getElem?_inj hl nd).mp h1
end
end RL
namespace RL
open PySem PySem.Spec PyProof.Rows L2 RLM
section
variable {P : Program} {w : World} {K : PySem.W.Frag} {mg : Str → Option Value} {base : Heap}
theorem all_true {bs : List Bool} (h : ∀ b ∈ bs, b = true) : bs.all id = true := List.all_eq_true.mpr h
def spIsLot (K : PySem.W.Frag) : Sp := fun vs H Q _ => ∃ (c x t : Addr) (n : Nat) (E : List (Nat × Nat)) (p : Nat → Prop), vs = [.ref x, .ref t] ∧ BoardAt K c H x n E ∧ H t = some (.tup ((lotP n p).map vI)) ∧ ∀ H', Same H H' → Q (.bl true) H'
theorem sc_is_lot : FnScope ["board", "lot", "place"] ["board", "lot"] (defScope s_is_lot) := ⟨rfl, rfl, rfl, by decide +kernel, rfl, by decide +kernel, by decide +kernel⟩
theorem ok_is_lot (T : Tx K mg) : Has P w K mg base (He.ga K "is_lot") 3 ["board", "lot"] (spIsLot K) := by
  obtain ⟨⟨fd_is_between, F_is_between, b_is_between⟩, kp_is_between⟩ := ok_is_between (P := P) (w := w) (base := base) T
  obtain ⟨⟨fd_len, F_len, b_len⟩, kp_len⟩ := ok_len (P := P) (w := w) (base := base) T
  obtain ⟨fd, F⟩ := T.d_is_lot
  refine ⟨⟨fd, F.ok sc_is_lot (fun vs H Q E h => ?_) (fun cdv A outer s H vs Q E hr h => ?_), F.bindsN fun _ _ _ _ _ _ us hl => match us, hl with | [_, _], _ => rfl⟩, F.kp⟩
  · obtain ⟨c, x, t, n, E, p, rfl, _⟩ := h
    rfl
  · obtain ⟨c, x, t, n, E, p, rfl, B, ht, h⟩ := h
    have hr_is_between : Room 2 _ := hr.mono (by decide)
    have hr_len : Room 2 _ := hr.mono (by decide)
    refine ⟨_, PSs.nox (pss_cons (ps_if (pt_not (pt_val (pe_callB (isiK (K := K)) (by rfl) T.free_isinstance (by decide +kernel) (pa_cons (pv 1) (pa_cons (pe_bltn (v := .ty "tuple") (u := .type "tuple") (by rfl) T.free_tuple (by decide +kernel) rfl) pa_nil))))) (pss_one (ps_ret pe_bl)) pss_nil)
      (pss_cons (ps_if (pt_not (pt_val (pe_callB (allK (K := K)) (by rfl) T.free_all (by decide +kernel) (pa_cons (pe_lc (own := [("place", 2)]) (g := (gName 2)) (tt := tYes) rfl sc_is_lot.nd (piT (K := K) (pv 1)) (blkOk_by (by kernel_rfl)) (fun _ _ _ _ _ => (pg_name (i := 2) sc_is_lot.nd rfl (Or.inl rfl))) (fun _ _ _ _ _ => pts_nil) (fun _ _ _ _ _ => (pe_call F_is_between hr_is_between rfl T.glo_is_between kp_is_between b_is_between .nil pass0 (pa_cons (pv 2) (pa_cons pe_int (pa_cons (pe_op op_sub (pe_callB (call_lenOwn T.m_len F_len b_len hr_len) (by rfl) T.free_len (by decide +kernel) (pa_cons (pv 0) pa_nil)) pe_int) pa_nil)))))) pa_nil)))) (pss_one (ps_ret pe_bl)) pss_nil)
      (pss_one (ps_ret (pe_cmpR (eqD (K := K) hr.units) (pe_callTy (listK (K := K)) (by rfl) T.free_list (by decide +kernel) (pa_cons (pv 1) pa_nil)) (pe_callB (sortS (w := w)) (by rfl) T.free_sorted (by decide +kernel) (pa_cons (pe_callTy (setTK (K := K) (w := w)) (by rfl) T.free_set (by decide +kernel) (pa_cons (pv 1) pa_nil)) pa_nil)) (nomark _)))))), ?_⟩
    have n8 := B.hi
    have lp := lotP_len n p
    refine ⟨_, rfl, _, _, _, _, true, rfl, .ty _, .base (.tup ht), kit_ty (by decide +kernel), true, rfl, iteF ?_⟩
    refine ⟨_, rfl, t, rfl, ⟨_, SqT.of ht⟩, fun D hD => ?_⟩
    refine lc_tup (K := K) (a := t) (xs := (lotP n p).map vI) (fun i H1 => ∃ bs : List Bool, H1 D = some (.lst (bs.map V.bl)) ∧ (∀ b ∈ bs, b = true) ∧ bs.length = i ∧ Same H H1)
      ⟨[], upd_same, by simp, rfl, same_upd hD⟩ (fun i H1 _ ⟨_, _, _, _, s1⟩ => SqT.of (s1 _ _ ht)) ?_ ?_
    · rintro i y H1 hy ⟨bs, hb, tb, lb, s1⟩
      obtain ⟨q, hq, rfl⟩ : ∃ q, (lotP n p)[i]? = some q ∧ vI q = y := by
        rw [List.getElem?_map] at hy
        cases e : (lotP n p)[i]? with
        | none => rw [e] at hy; cases hy
        | some q => rw [e] at hy; exact ⟨q, rfl, Option.some.inj hy⟩
      have qn := (mem_lotP.mp (List.mem_of_getElem? hq)).1
      have il : i < (lotP n p).length := (List.getElem?_eq_some_iff.mp hq).1
      have B1 := B.same s1
      obtain ⟨dx, q1, q2, q3, hx⟩ := B1.obj
      refine ⟨rfl, ?_⟩
      unfold tYes
      refine iteT ?_
      refine ⟨_, rfl, _, rfl, x, dx, _, rfl, hx, c, x, n, E, rfl, B1, (n : Int), rfl, by omega, by omega, _, _, rfl, rfl, _, _, _, rfl, ?_⟩
      rw [decide_eq_true (show (0 : Int) ≤ (q : Nat) ∧ ((q : Nat) : Int) ≤ (n : Int) - 1 from ⟨by omega, by omega⟩)]
      refine ⟨_, hb, ?_, bs ++ [true], ?_, ?_, by simp [lb], same_mut s1 hD⟩
      · rw [List.length_map]
        exact Nat.lt_of_le_of_lt (show bs.length ≤ 8 by omega) (by decide)
      · rw [upd_same, List.map_append]
        rfl
      · intro b hb2
        rcases List.mem_append.mp hb2 with z | z
        · exact tb b z
        · rw [List.mem_singleton.mp z]
    · rintro H1 ⟨bs, hb, tb, lb, s1⟩
      refine ⟨D, bs, rfl, SqL.of hb, _, rfl, ?_⟩
      rw [all_true tb]
      refine iteF ?_
      refine ⟨_, rfl, t, _, rfl, .inr (SqT.of (s1 _ _ ht)), fun l1 hl1 => ?_⟩
      have s2 := same_upd (o := HO.lst ((lotP n p).map vI)) hl1
      have ht2 := s2 _ _ (s1 _ _ ht)
      refine ⟨_, rfl, t, (lotP n p).map nI, rfl, SqT.of (by rw [← vI_map]; exact ht2), by rw [List.length_map]; omega, fun d cc hd hcc => ?_⟩
      refine ⟨d, _, cc, rfl, upd_same, ?_, fun ns l2 h1 h2 h3 hl2 => ?_⟩
      · rw [List.length_map] at hcc
        omega
      have s3 := same_upd (o := SetO w d (fun j => decide (j ∈ (lotP n p).map nI)) cc) hd
      have s4 := same_upd (o := HO.lst (ns.map V.int)) hl2
      have en : ns.map V.int = (lotP n p).map vI := rise_lot h1 fun k => (h2 k).trans (decide_eq_true_iff.trans (by
        rw [List.mem_map]
        constructor
        · rintro ⟨b, hb, rfl⟩
          exact ⟨b, rfl, mem_lotP.mp hb⟩
        · rintro ⟨b, rfl, hb⟩
          exact ⟨b, mem_lotP.mpr hb, rfl⟩))
      refine ⟨.list (ns.map .int), .list (ns.map .int), .lst (SqL.of (s4 _ _ (s3 _ _ (by rw [upd_same, ← en])))) (dp_ints ns), .lst (SqL.of upd_same) (dp_ints ns), shaped_ints ns, shaped_ints ns, ?_⟩
      rw [SeqAt.eqv_refl _ (SeqAt.canLay_of_shaped (shaped_ints ns))]
      exact h _ (((s1.trans s2).trans s3).trans s4)
def spChkLot (K : PySem.W.Frag) : Sp := fun vs H Q _ => ∃ (c x t : Addr) (n : Nat) (E : List (Nat × Nat)) (p : Nat → Prop), vs = [.ref x, .ref t] ∧ BoardAt K c H x n E ∧ H t = some (.tup ((lotP n p).map vI)) ∧ ∀ H', Same H H' → Q .non H'
/-- a pace -/
def PaceOk (n : Nat) (ps : List Nat) : Prop := ps.length = n ∧ ∀ q ∈ ps, q ≤ 7
def spIsPace (K : PySem.W.Frag) : Sp := fun vs H Q _ => ∃ (c x t : Addr) (n : Nat) (E : List (Nat × Nat)) (ps : List Nat), vs = [.ref x, .ref t] ∧ BoardAt K c H x n E ∧ H t = some (.tup (ps.map vI)) ∧ PaceOk n ps ∧ ∀ H', Same H H' → Q (.bl true) H'
theorem sc_is_pace : FnScope ["board", "pace", "number"] ["board", "pace"] (defScope s_is_pace) := ⟨rfl, rfl, rfl, by decide +kernel, rfl, by decide +kernel, by decide +kernel⟩
theorem ok_is_pace (T : Tx K mg) : Has P w K mg base (He.ga K "is_pace") 3 ["board", "pace"] (spIsPace K) := by
  obtain ⟨⟨fd_is_between, F_is_between, b_is_between⟩, kp_is_between⟩ := ok_is_between (P := P) (w := w) (base := base) T
  obtain ⟨⟨fd_len, F_len, b_len⟩, kp_len⟩ := ok_len (P := P) (w := w) (base := base) T
  obtain ⟨fd, F⟩ := T.d_is_pace
  refine ⟨⟨fd, F.ok sc_is_pace (fun vs H Q E h => ?_) (fun cdv A outer s H vs Q E hr h => ?_), F.bindsN fun _ _ _ _ _ _ us hl => match us, hl with | [_, _], _ => rfl⟩, F.kp⟩
  · obtain ⟨c, x, t, n, E, ps, rfl, _⟩ := h
    rfl
  · obtain ⟨c, x, t, n, E, ps, rfl, B, ht, PO, h⟩ := h
    have hr_is_between : Room 2 _ := hr.mono (by decide)
    have hr_len : Room 2 _ := hr.mono (by decide)
    refine ⟨_, PSs.nox (pss_cons (ps_if (PW.pt (pw_or (pt_not (pt_val (pe_callB (isiK (K := K)) (by rfl) T.free_isinstance (by decide +kernel) (pa_cons (pv 1) (pa_cons (pe_bltn (v := .ty "tuple") (u := .type "tuple") (by rfl) T.free_tuple (by decide +kernel) rfl) pa_nil))))) (pw_or1 (pt_cmpR op_ne (pe_callB (lenK (K := K)) (by rfl) T.free_len (by decide +kernel) (pa_cons (pv 1) pa_nil)) (pe_callB (call_lenOwn T.m_len F_len b_len hr_len) (by rfl) T.free_len (by decide +kernel) (pa_cons (pv 0) pa_nil)) (nomark _))))) (pss_one (ps_ret pe_bl)) pss_nil)
      (pss_one (ps_ret (pe_callB (allK (K := K)) (by rfl) T.free_all (by decide +kernel) (pa_cons (pe_lc (own := [("number", 2)]) (g := (gName 2)) (tt := tYes) rfl sc_is_pace.nd (piT (K := K) (pv 1)) (blkOk_by (by kernel_rfl)) (fun _ _ _ _ _ => (pg_name (i := 2) sc_is_pace.nd rfl (Or.inl rfl))) (fun _ _ _ _ _ => pts_nil) (fun _ _ _ _ _ => (pe_call F_is_between hr_is_between rfl T.glo_is_between kp_is_between b_is_between .nil pass0 (pa_cons (pv 2) (pa_cons pe_int (pa_cons (pe_glob (v := .int 7) rfl T.glob_MOST_PACE.choose_spec ⟨_, rfl⟩) pa_nil)))))) pa_nil))))), ?_⟩
    have n8 := B.hi
    obtain ⟨dx, q1, q2, q3, hx⟩ := B.obj
    refine ⟨_, rfl, _, _, _, _, true, rfl, .ty _, .base (.tup ht), kit_ty (by decide +kernel), true, rfl, iteF ?_⟩
    refine ⟨_, rfl, t, _, rfl, .inr (SqT.of ht), _, rfl, x, dx, _, rfl, hx, c, x, n, E, rfl, B, (n : Int), rfl, by omega, by omega, rfl, _, rfl, ?_⟩
    have e1 : (!decide (V.int (((ps.map vI).length : Nat) : Int) = V.int (n : Int))) = false := by
      rw [List.length_map, PO.1]
      simp
    rw [e1]
    refine iteF ?_
    refine ⟨_, rfl, t, rfl, ⟨_, SqT.of ht⟩, fun D hD => ?_⟩
    refine lc_tup (K := K) (a := t) (xs := ps.map vI) (fun i H1 => ∃ bs : List Bool, H1 D = some (.lst (bs.map V.bl)) ∧ (∀ b ∈ bs, b = true) ∧ bs.length = i ∧ Same H H1)
      ⟨[], upd_same, by simp, rfl, same_upd hD⟩ (fun i H1 _ ⟨_, _, _, _, s1⟩ => SqT.of (s1 _ _ ht)) ?_ ?_
    · rintro i y H1 hy ⟨bs, hb, tb, lb, s1⟩
      obtain ⟨q, hq, rfl⟩ : ∃ q, ps[i]? = some q ∧ vI q = y := by
        rw [List.getElem?_map] at hy
        cases e : ps[i]? with
        | none => rw [e] at hy; cases hy
        | some q => rw [e] at hy; exact ⟨q, rfl, Option.some.inj hy⟩
      have q7 := PO.2 q (List.mem_of_getElem? hq)
      have il : i < ps.length := (List.getElem?_eq_some_iff.mp hq).1
      have l8 := PO.1
      refine ⟨rfl, ?_⟩
      unfold tYes
      refine iteT ?_
      refine ⟨_, rfl, _, _, _, rfl, ?_⟩
      rw [decide_eq_true (show (0 : Int) ≤ (q : Nat) ∧ ((q : Nat) : Int) ≤ 7 from ⟨by omega, by omega⟩)]
      refine ⟨_, hb, ?_, bs ++ [true], ?_, ?_, by simp [lb], same_mut s1 hD⟩
      · rw [List.length_map]
        exact Nat.lt_of_le_of_lt (show bs.length ≤ 8 by omega) (by decide)
      · rw [upd_same, List.map_append]
        rfl
      · intro b hb2
        rcases List.mem_append.mp hb2 with z | z
        · exact tb b z
        · rw [List.mem_singleton.mp z]
    · rintro H1 ⟨bs, hb, tb, lb, s1⟩
      refine ⟨D, bs, rfl, SqL.of hb, ?_⟩
      rw [all_true tb]
      exact h H1 s1
def spChkPace (K : PySem.W.Frag) : Sp := fun vs H Q _ => ∃ (c x t : Addr) (n : Nat) (E : List (Nat × Nat)) (ps : List Nat), vs = [.ref x, .ref t] ∧ BoardAt K c H x n E ∧ H t = some (.tup (ps.map vI)) ∧ PaceOk n ps ∧ ∀ H', Same H H' → Q .non H'
theorem sc_check_pace : FnScope ["board", "pace"] ["board", "pace"] (defScope s_check_pace) := ⟨rfl, rfl, rfl, by decide +kernel, rfl, by decide +kernel, by decide +kernel⟩
theorem ok_chk_pace (T : Tx K mg) : Has P w K mg base (He.ga K "check_pace") 4 ["board", "pace"] (spChkPace K) := by
  obtain ⟨⟨fd_is_pace, F_is_pace, b_is_pace⟩, kp_is_pace⟩ := ok_is_pace (P := P) (w := w) (base := base) T
  obtain ⟨fd, F⟩ := T.d_check_pace
  refine ⟨⟨fd, F.ok sc_check_pace (fun vs H Q E h => ?_) (fun cdv A outer s H vs Q E hr h => ?_), F.bindsN fun _ _ _ _ _ _ us hl => match us, hl with | [_, _], _ => rfl⟩, F.kp⟩
  · obtain ⟨c, x, t, n, E, p, rfl, _⟩ := h
    rfl
  · obtain ⟨c, x, t, n, E, ps, rfl, B, ht, PO, h⟩ := h
    have hr_is_pace : Room 3 _ := hr.mono (by decide)
    refine ⟨_, PSs.nox (pss_one (ps_if (pt_not (pt_val (pe_call F_is_pace hr_is_pace rfl T.glo_is_pace kp_is_pace b_is_pace .nil pass0 (pa_cons (pv 0) (pa_cons (pv 1) pa_nil))))) (pss_one ps_never) pss_nil)), ?_⟩
    exact ⟨_, rfl, _, rfl, c, x, t, n, E, ps, rfl, B, ht, PO, fun H1 s1 => ⟨_, rfl, iteF (h H1 s1)⟩⟩
end
end RL
namespace RL
open PySem PySem.Spec PyProof.Rows L2 RLM
theorem in_lot (b : Nat) (xs : List Nat) : inV (vI b) (xs.map vI) = decide (b ∈ xs) := by
  unfold inV
  rw [List.any_map]
  have e : ((fun y => eqV y (vI b)) ∘ vI) = fun q : Nat => decide (q = b) := by
    funext q
    show ((q : Int) == (b : Int)) = decide (q = b)
    by_cases h : q = b
    · subst h
      simp
    · have h2 : ¬ ((q : Int) = (b : Int)) := by omega
      rw [decide_eq_false h]
      exact beq_eq_false_iff_ne.mpr h2
  rw [e]
  by_cases h : b ∈ xs
  · rw [decide_eq_true h]
    exact List.any_eq_true.mpr ⟨b, h, by simp⟩
  · rw [decide_eq_false h]
    refine Bool.eq_false_iff.mpr fun z => ?_
    obtain ⟨q, hq, e⟩ := List.any_eq_true.mp z
    exact h (of_decide_eq_true e ▸ hq)
theorem flat_vI (xs : List Nat) : (xs.map vI).all flatV = true := by
  rw [List.all_map]
  exact List.all_eq_true.mpr fun _ _ => rfl
theorem count_more {p q : Nat → Bool} : ∀ (xs : List Nat) {b : Nat}, b ∈ xs → (∀ x, p x = true → q x = true) → p b = false → q b = true → xs.countP p + 1 ≤ xs.countP q
  | x :: xs, b, hb, hpq, h0, h1 => by
    have mono : ∀ ys : List Nat, ys.countP p ≤ ys.countP q := fun ys => List.countP_mono_left fun x _ hx => hpq x hx
    rw [List.countP_cons, List.countP_cons]
    rcases List.mem_cons.mp hb with e | e
    · subst e
      rw [h0, h1]
      have := mono xs
      simp
      omega
    · have ih := count_more xs e hpq h0 h1
      have : (if p x = true then 1 else 0) ≤ (if q x = true then 1 else 0) := by
        by_cases hx : p x = true
        · rw [if_pos hx, if_pos (hpq x hx)]
          exact Nat.le_refl _
        · rw [if_neg hx]
          exact Nat.zero_le _
      omega
section
variable {P : Program} {w : World} {K : PySem.W.Frag} {mg : Str → Option Value} {base : Heap}
/-- where a step leads from a lot -/
def stepP (n : Nat) (E : List (Nat × Nat)) (ps : List Nat) (p : Nat → Prop) (b : Nat) : Prop := ∃ a, a < n ∧ p a ∧ Near E ((ps.getD a 0 : Nat) : Int) a b
def spStep (K : PySem.W.Frag) : Sp := fun vs H Q _ => ∃ (c x tp tl : Addr) (n : Nat) (E : List (Nat × Nat)) (ps : List Nat) (p : Nat → Prop), vs = [.ref x, .ref tp, .ref tl] ∧ BoardAt K c H x n E ∧ H tp = some (.tup (ps.map vI)) ∧ PaceOk n ps ∧ H tl = some (.tup ((lotP n p).map vI)) ∧
  ∀ H' t, H' t = some (.tup ((lotP n (stepP n E ps p)).map vI)) → Same H H' → Q (.ref t) H'
/-- the set so far -/
def SetIs (w : World) (n : Nat) (D : Addr) (H : Hp) (r : Nat → Prop) : Prop := ∃ (S : Int → Bool) (cnt : Nat), H D = some (SetO w D S cnt) ∧ cnt ≤ (List.range 8).countP (fun b => S (nI b)) ∧ ∀ k : Int, S k = true ↔ ∃ b : Nat, k = nI b ∧ b < n ∧ r b
theorem pace_get {n : Nat} {ps : List Nat} (h : PaceOk n ps) {a : Nat} (ha : a < n) : ps[a]? = some (ps.getD a 0) := by
  have hl : a < ps.length := by rw [h.1]; exact ha
  rw [List.getD_eq_getElem?_getD, List.getElem?_eq_getElem hl]
  rfl
def beforeP (n : Nat) (E : List (Nat × Nat)) (ps : List Nat) (p : Nat → Prop) (a : Nat) : Prop := ∃ b, b < n ∧ p b ∧ Near E ((ps.getD a 0 : Nat) : Int) a b
def spBefore (K : PySem.W.Frag) : Sp := fun vs H Q _ => ∃ (c x tp tl : Addr) (n : Nat) (E : List (Nat × Nat)) (ps : List Nat) (p : Nat → Prop), vs = [.ref x, .ref tp, .ref tl] ∧ BoardAt K c H x n E ∧ H tp = some (.tup (ps.map vI)) ∧ PaceOk n ps ∧ H tl = some (.tup ((lotP n p).map vI)) ∧
  ∀ H' t, H' t = some (.tup ((lotP n (beforeP n E ps p)).map vI)) → Same H H' → Q (.ref t) H'
end
end RL
/-! Spans by closing over middle places: plain mathematics. -/
namespace RLM
/-- a walk whose inner places are below m -/
inductive Wm (E : List (Nat × Nat)) (m : Nat) : Nat → Nat → Nat → Prop where
  | z (a : Nat) : Wm E m 0 a a
  | o {a b : Nat} : (a, b) ∈ E → Wm E m 1 a b
  | s {k a b c : Nat} : Wm E m k a b → b < m → (b, c) ∈ E → Wm E m (k + 1) a c
theorem Wm.split {E : List (Nat × Nat)} {m k a b : Nat} (w : Wm E (m + 1) k a b) : Wm E m k a b ∨ ∃ k1 k2, k1 + k2 ≤ k ∧ Wm E m k1 a m ∧ Wm E m k2 m b := by
  induction w with
  | z a => exact .inl (.z a)
  | o e => exact .inl (.o e)
  | @s k a b c w hb e ih =>
    rcases ih with w' | ⟨k1, k2, hk, w1, w2⟩
    · by_cases h : b < m
      · exact .inl (.s w' h e)
      · have : b = m := by omega
        subst this
        exact .inr ⟨k, 1, Nat.le_refl _, w', .o e⟩
    · by_cases h : b < m
      · exact .inr ⟨k1, k2 + 1, by omega, w1, .s w2 h e⟩
      · have : b = m := by omega
        subst this
        exact .inr ⟨k1, 1, by omega, w1, .o e⟩
theorem Wk.wm {n : Nat} {E : List (Nat × Nat)} (h : On n E) {k a b : Nat} (w : Wk E k a b) (ha : a < n) : Wm E n k a b := by
  induction w with
  | z a => exact .z a
  | s w e ih => exact .s (ih ha) (w.lt h ha) e
theorem Wk.app {E : List (Nat × Nat)} {k a b : Nat} (w : Wk E k a b) {l c : Nat} (v : Wk E l b c) : Wk E (k + l) a c := by
  induction v with
  | z _ => exact w
  | s v e ih => exact .s (ih w) e
/-- no entry says too little -/
structure Sound (n : Nat) (E : List (Nat × Nat)) (M : Nat → Nat → Nat) : Prop where
  hi : ∀ a b, a < n → b < n → M a b ≤ 99
  wk : ∀ a b, a < n → b < n → M a b < 99 → Wk E (M a b) a b
/-- no entry says too much -/
def Full (n : Nat) (E : List (Nat × Nat)) (m : Nat) (M : Nat → Nat → Nat) : Prop := ∀ k a b, a < n → b < n → Wm E m k a b → M a b ≤ k
/-- a table with one entry put -/
def put (M : Nat → Nat → Nat) (a b v : Nat) : Nat → Nat → Nat := fun x y => if x = a ∧ y = b then v else M x y
theorem put_at (M : Nat → Nat → Nat) (a b v : Nat) : put M a b v a b = v := if_pos ⟨rfl, rfl⟩
theorem put_ne (M : Nat → Nat → Nat) {a b v x y : Nat} (h : ¬ (x = a ∧ y = b)) : put M a b v x y = M x y := if_neg h
/-- within the pass of the middle m: the pairs that are done -/
structure Pass (n : Nat) (E : List (Nat × Nat)) (m : Nat) (M0 : Nat → Nat → Nat) (done : Nat → Nat → Prop) (M : Nat → Nat → Nat) : Prop where
  sn : Sound n E M
  le : ∀ a b, a < n → b < n → M a b ≤ M0 a b
  dn : ∀ a b, a < n → b < n → done a b → M a b ≤ M0 a m + M0 m b
theorem Pass.start {n m : Nat} {E : List (Nat × Nat)} {M : Nat → Nat → Nat} (s : Sound n E M) : Pass n E m M (fun _ _ => False) M :=
  ⟨s, fun _ _ _ _ => Nat.le_refl _, fun _ _ _ _ h => h.elim⟩
theorem Pass.weak {n m : Nat} {E : List (Nat × Nat)} {M0 M : Nat → Nat → Nat} {d d' : Nat → Nat → Prop} (p : Pass n E m M0 d M) (h : ∀ a b, a < n → b < n → d' a b → d a b) : Pass n E m M0 d' M :=
  ⟨p.sn, p.le, fun a b ha hb x => p.dn a b ha hb (h a b ha hb x)⟩
theorem Pass.one {n m : Nat} {E : List (Nat × Nat)} {M0 M : Nat → Nat → Nat} {d : Nat → Nat → Prop} (p : Pass n E m M0 d M) {a b : Nat} (ha : a < n) (hb : b < n) (hm : m < n) :
    Pass n E m M0 (fun x y => d x y ∨ (x = a ∧ y = b)) (put M a b (min (min (M a b) (M a m + M m b)) 99)) := by
  have lo : min (min (M a b) (M a m + M m b)) 99 ≤ M a b := by omega
  refine ⟨⟨fun x y hx hy => ?_, fun x y hx hy h => ?_⟩, fun x y hx hy => ?_, fun x y hx hy h => ?_⟩
  · by_cases e : x = a ∧ y = b
    · obtain ⟨rfl, rfl⟩ := e
      rw [put_at]; omega
    · rw [put_ne _ e]; exact p.sn.hi x y hx hy
  · by_cases e : x = a ∧ y = b
    · obtain ⟨rfl, rfl⟩ := e
      rw [put_at] at h ⊢
      by_cases c : M x y ≤ M x m + M m y
      · have e : min (min (M x y) (M x m + M m y)) 99 = M x y := by
          have := p.sn.hi x y hx hy
          omega
        rw [e] at h ⊢
        exact p.sn.wk x y hx hy h
      · have e : min (min (M x y) (M x m + M m y)) 99 = M x m + M m y := by omega
        rw [e] at h ⊢
        exact (p.sn.wk x m hx hm (by omega)).app (p.sn.wk m y hm hy (by omega))
    · rw [put_ne _ e] at h ⊢
      exact p.sn.wk x y hx hy h
  · by_cases e : x = a ∧ y = b
    · obtain ⟨rfl, rfl⟩ := e
      rw [put_at]
      exact Nat.le_trans lo (p.le x y hx hy)
    · rw [put_ne _ e]; exact p.le x y hx hy
  · by_cases e : x = a ∧ y = b
    · obtain ⟨rfl, rfl⟩ := e
      rw [put_at]
      have := p.le x m hx hm
      have := p.le m y hm hy
      omega
    · rw [put_ne _ e]
      rcases h with h | h
      · exact p.dn x y hx hy h
      · exact absurd h e
theorem Pass.full {n m : Nat} {E : List (Nat × Nat)} {M0 M : Nat → Nat → Nat} {d : Nat → Nat → Prop} (p : Pass n E m M0 d M) (h : ∀ a b, a < n → b < n → d a b) (f : Full n E m M0) (hm : m < n) : Full n E (m + 1) M := by
  intro k a b ha hb w
  rcases w.split with w | ⟨k1, k2, hk, w1, w2⟩
  · exact Nat.le_trans (p.le a b ha hb) (f k a b ha hb w)
  · have := p.dn a b ha hb (h a b ha hb)
    have := f _ _ _ ha hm w1
    have := f _ _ _ hm hb w2
    omega
/-- how far places are, 99 and above for never -/
structure Spans (n : Nat) (E : List (Nat × Nat)) (M : Nat → Nat → Nat) : Prop where
  hi : ∀ a b, a < n → b < n → M a b ≤ 99
  nr : ∀ (a b : Nat) (m : Int), a < n → b < n → m < 99 → ((M a b : Int) ≤ m ↔ Near E m a b)
theorem Spans.of {n : Nat} {E : List (Nat × Nat)} {M : Nat → Nat → Nat} (h : On n E) (s : Sound n E M) (f : Full n E n M) : Spans n E M := by
  refine ⟨s.hi, fun a b m ha hb hm => ⟨fun l => ?_, fun ⟨k, hk, w⟩ => ?_⟩⟩
  · exact ⟨M a b, l, s.wk a b ha hb (by omega)⟩
  · have := f k a b ha hb (w.wm h ha)
    omega
/-- before the first pass: the ways that are put so far -/
def first (W : List (Nat × Nat)) : Nat → Nat → Nat := fun a b => if (a, b) ∈ W then 1 else if a = b then 0 else 99
theorem first_nil (a b : Nat) : first [] a b = 99 * (if a ≠ b then 1 else 0) := by
  unfold first
  by_cases h : a = b <;> simp [h]
theorem first_put {W : List (Nat × Nat)} {a b : Nat} : put (first W) a b 1 = first (W ++ [(a, b)]) := by
  funext x y
  by_cases e : x = a ∧ y = b
  · obtain ⟨rfl, rfl⟩ := e
    rw [put_at]
    unfold first
    rw [if_pos (by simp)]
  · rw [put_ne _ e]
    unfold first
    by_cases h : (x, y) ∈ W
    · rw [if_pos h, if_pos (List.mem_append_left _ h)]
    · have g : (x, y) ∉ W ++ [(a, b)] := fun z => by
        rcases List.mem_append.mp z with z | z
        · exact h z
        · exact e (by simpa using z)
      rw [if_neg h, if_neg g]
theorem first_sound {n : Nat} {E : List (Nat × Nat)} (h : On n E) : Sound n E (first E) := by
  refine ⟨fun a b _ _ => ?_, fun a b _ _ l => ?_⟩
  · unfold first
    split
    · omega
    · split <;> omega
  · unfold first at l ⊢
    by_cases e : (a, b) ∈ E
    · rw [if_pos e] at l ⊢
      exact .s (.z a) e
    · rw [if_neg e] at l ⊢
      by_cases c : a = b
      · rw [if_pos c]
        subst c
        exact .z a
      · rw [if_neg c] at l
        omega
theorem first_full {n : Nat} {E : List (Nat × Nat)} (h : On n E) : Full n E 0 (first E) := by
  intro k a b _ _ w
  cases w with
  | z => 
    unfold first
    rw [if_neg fun z => (h _ z).2.2 rfl, if_pos rfl]
    omega
  | o e =>
    unfold first
    rw [if_pos e]
    omega
  | s w hb e => omega
end RLM
namespace RL
open PySem PySem.Spec PyProof.Rows L2 RLM
theorem yesT {σ : L2.St} {H : Hp} {A B : Hp → Prop} (h : A H) : tYes σ H (fun b H3 => if b = true then A H3 else B H3) := by
  unfold tYes
  exact iteT h
theorem nuMin2_int (i j : Int) : nuMin2 (.int i) (.int j) = some (.int (min i j)) := by
  have e : nuMin2 (.int i) (.int j) = some (if decide (j < i) = true then V.int j else V.int i) := rfl
  rw [e]
  by_cases h : j < i
  · rw [if_pos (decide_eq_true h), Int.min_eq_right (by omega)]
  · rw [if_neg (by simpa using h), Int.min_eq_left (by omega)]
theorem nuMin3_int (i j k : Int) : nuMin3 (.int i) (.int j) (.int k) = some (.int (min (min i j) k)) := by
  unfold nuMin3
  rw [nuMin2_int]
  exact nuMin2_int _ _
theorem cmul99 (b : Bool) : CMul 99 (if b = true then 1 else 0) := by
  exact .inl ⟨by decide, by decide⟩
theorem at0 {xs : List V} {j : Nat} {x : V} (h : xs[j]? = some x) : atI xs (0 + (j : Int)) = some x := by
  rw [Int.zero_add]
  exact atI_nat h
theorem ix0 {n j : Nat} (h : j < n) : ixN n (0 + (j : Int)) = some j := by
  rw [Int.zero_add]
  exact ixN_nat h
/-- a table of numbers: a list of lists -/
structure TabAt (c : Addr) (H : Hp) (D : Addr) (n : Nat) (rs : List Addr) (M : Nat → Nat → Nat) : Prop where
  at_ : H D = some (.lst (rs.map V.ref))
  len : rs.length = n
  nd : rs.Nodup
  nD : D ∉ rs
  nc : D ≠ c ∧ c ∉ rs
  row : ∀ (i : Nat) (r : Addr), rs[i]? = some r → H r = some (.lst ((List.range n).map fun j => vI (M i j)))
theorem TabAt.same {c : Addr} {H H' : Hp} {D : Addr} {n : Nat} {rs : List Addr} {M : Nat → Nat → Nat} (s : Same H H') (h : TabAt c H D n rs M) : TabAt c H' D n rs M :=
  ⟨s _ _ h.at_, h.len, h.nd, h.nD, h.nc, fun i r e => s _ _ (h.row i r e)⟩
theorem TabAt.keep {c : Addr} {H H' : Hp} {D : Addr} {n : Nat} {rs : List Addr} {M : Nat → Nat → Nat} (k : Kc c H H') (h : TabAt c H D n rs M) : TabAt c H' D n rs M :=
  ⟨k _ _ h.nc.1 (fun _ z => by cases z) h.at_, h.len, h.nd, h.nD, h.nc, fun i r e => k _ _ (fun z => h.nc.2 (z ▸ List.mem_of_getElem? e)) (fun _ z => by cases z) (h.row i r e)⟩
theorem TabAt.get {c : Addr} {H : Hp} {D : Addr} {n : Nat} {rs : List Addr} {M : Nat → Nat → Nat} (h : TabAt c H D n rs M) {a : Nat} (ha : a < n) : ∃ r, rs[a]? = some r ∧ H r = some (.lst ((List.range n).map fun j => vI (M a j))) := by
  have e : a < rs.length := by rw [h.len]; exact ha
  exact ⟨rs[a], List.getElem?_eq_getElem e, h.row a _ (List.getElem?_eq_getElem e)⟩
theorem row_get {n b : Nat} {f : Nat → V} (h : b < n) : ((List.range n).map f)[b]? = some (f b) := by
  rw [List.getElem?_map, List.getElem?_range h]
  rfl
theorem TabAt.put {c : Addr} {H : Hp} {D : Addr} {n : Nat} {rs : List Addr} {M : Nat → Nat → Nat} (h : TabAt c H D n rs M) {a b v : Nat} {r : Addr} (hr : rs[a]? = some r) :
    TabAt c (upd H r (.lst (((List.range n).map fun j => vI (M a j)).set b (vI v)))) D n rs (RLM.put M a b v) := by
  have mr : r ∈ rs := List.mem_of_getElem? hr
  refine ⟨?_, h.len, h.nd, h.nD, h.nc, fun i r' e => ?_⟩
  · rw [upd_ne (fun z => h.nD (by rw [z]; exact mr))]
    exact h.at_
  · by_cases ei : i = a
    · subst ei
      rw [hr] at e
      cases e
      rw [upd_same]
      congr 2
      apply List.ext_getElem
      · simp
      · intro j h1 h2
        have hj : j < n := by simpa using h2
        rw [List.getElem_set]
        simp only [List.getElem_map, List.getElem_range]
        by_cases eb : b = j
        · subst eb
          rw [if_pos rfl, put_at]
        · rw [if_neg eb, put_ne _ (fun z => eb z.2.symm)]
    · have ne : r' ≠ r := fun z => by
        subst z
        obtain ⟨h1, e1⟩ := List.getElem?_eq_some_iff.mp e
        obtain ⟨h2, e2⟩ := List.getElem?_eq_some_iff.mp hr
        exact ei ((List.getElem_inj h.nd).mp (e1.trans e2.symm))
      rw [upd_ne ne, h.row i r' e]
      congr 2
      refine List.map_congr_left fun j _ => ?_
      rw [put_ne _ (fun z => ei z.1)]
section
variable {P : Program} {w : World} {K : PySem.W.Frag} {mg : Str → Option Value} {base : Heap}
def spSpans : Sp := fun vs H Q _ => ∃ (c t l : Addr) (n : Nat) (L : List (Addr × Nat × Nat)), vs = [.ref t] ∧ H t = some (.tup [vI n, .ref l]) ∧ PairsAt c H l L ∧ WaysOk n L ∧ 1 ≤ n ∧ n ≤ 8 ∧ (∃ ys, H c = some (.lst ys)) ∧
  ∀ (H' : Hp) (D : Addr) (rs : List Addr) (M : Nat → Nat → Nat), TabAt c H' D n rs M → Spans n (L.map (·.2)) M → Same H H' → Q (.ref D) H'
theorem sc__law_spans : FnScope ["_law_board_here", "_law_many", "_law_ways_here", "_law_spans_here", "_law_one", "_law_other", "_law_middle"] ["_law_board_here"] (defScope s__law_spans) := ⟨rfl, rfl, rfl, by decide +kernel, rfl, by decide +kernel, by decide +kernel⟩
theorem ok_spans (T : Tx K mg) : Has P w K mg base (He.ga K "_law_spans") 1 ["_law_board_here"] spSpans := by
  obtain ⟨fd, F⟩ := T.d__law_spans
  refine ⟨⟨fd, F.ok sc__law_spans (fun vs H Q E h => ?_) (fun cdv A outer s H vs Q E hr h => ?_), F.bindsN fun _ _ _ _ _ _ us hl => match us, hl with | [_], _ => rfl⟩, F.kp⟩
  · obtain ⟨c, t, l, n, L, rfl, _⟩ := h
    rfl
  · obtain ⟨c, t, l, n, L, rfl, ht, PL, WO, n1, n8, ⟨ys, hc⟩, h⟩ := h
    have hE : On n (L.map (·.2)) := fun p hp => by
      obtain ⟨q, hq, rfl⟩ := List.mem_map.mp hp
      exact WO.2.1 q hq
    refine ⟨_, PSs.nox (pss_cons (ps_asg (pv 0) (pgT (K := K) (n := 2) rfl (pgs_cons (pg_name (i := 1) sc__law_spans.nd rfl (Or.inr rfl)) (pgs_cons (pg_name (i := 2) sc__law_spans.nd rfl (Or.inl rfl)) pgs_nil))))
      (pss_cons (ps_setLc (i := 3) (own := [("_law_one", 4)]) (g := (gName 4)) (tt := tYes) rfl sc__law_spans.nd rfl rfl (sw_true rfl rfl rfl (by decide +kernel)) (pi_range1 (by rfl) T.free_range (pa_cons (pv 1) pa_nil)) (blkOk_by (by kernel_rfl)) (fun _ _ _ _ _ => (pg_name (i := 4) sc__law_spans.nd rfl (Or.inr rfl))) (fun _ _ _ _ _ => pts_nil) (fun _ _ _ _ _ => (pe_lc (own := [("_law_other", 5)]) (g := (gName 5)) (tt := tYes) rfl sc__law_spans.nd (pi_range1 (by rfl) T.free_range (pa_cons (pv 1) pa_nil)) (blkOk_by (by kernel_rfl)) (fun _ _ _ _ _ => (pg_name (i := 5) sc__law_spans.nd rfl (Or.inl rfl))) (fun _ _ _ _ _ => pts_nil) (fun _ _ _ _ _ => (pe_op op_mul pe_int (pe_callTy call_int1 (by rfl) T.free_int (by decide +kernel) (pa_cons (pe_cmpR op_ne (pv 4) (pv 5) (nomark _)) pa_nil)))))))
      (pss_cons (ps_for PassesOwn.never rfl (piL (K := K) (pv 2)) (pgT (K := K) (n := 2) rfl (pgs_cons (pg_name (i := 4) sc__law_spans.nd rfl (Or.inl rfl)) (pgs_cons (pg_name (i := 5) sc__law_spans.nd rfl (Or.inl rfl)) pgs_nil))) (pss_one (ps_asg pe_int (pg_sub (pe_ix (ixL (K := K)) (pv 3) (pv 4) (fun _ _ => rfl)) (pv 5) set_list))))
      (pss_cons (ps_for PassesOwn.never rfl (pi_range1 (by rfl) T.free_range (pa_cons (pv 1) pa_nil)) (pg_name (i := 6) sc__law_spans.nd rfl (Or.inl rfl)) (pss_one (ps_for PassesOwn.never rfl (pi_range1 (by rfl) T.free_range (pa_cons (pv 1) pa_nil)) (pg_name (i := 4) sc__law_spans.nd rfl (Or.inl rfl)) (pss_one (ps_for PassesOwn.never rfl (pi_range1 (by rfl) T.free_range (pa_cons (pv 1) pa_nil)) (pg_name (i := 5) sc__law_spans.nd rfl (Or.inl rfl)) (pss_one (ps_asg (pe_callB (call_min3Nu rfl) (by rfl) T.free_min (by decide +kernel) (pa_cons (pe_ix (ixL (K := K)) (pe_ix (ixL (K := K)) (pv 3) (pv 4) (fun _ _ => rfl)) (pv 5) (fun _ _ => rfl)) (pa_cons (pe_op op_add (pe_ix (ixL (K := K)) (pe_ix (ixL (K := K)) (pv 3) (pv 4) (fun _ _ => rfl)) (pv 6) (fun _ _ => rfl)) (pe_ix (ixL (K := K)) (pe_ix (ixL (K := K)) (pv 3) (pv 6) (fun _ _ => rfl)) (pv 5) (fun _ _ => rfl))) (pa_cons pe_int pa_nil)))) (pg_sub (pe_ix (ixL (K := K)) (pv 3) (pv 4) (fun _ _ => rfl)) (pv 5) set_list))))))))
      (pss_one (ps_ret (pv 3))))))), ?_⟩
    refine ⟨_, rfl, t, _, rfl, SqT.of ht, rfl, _, _, rfl, _, _, rfl, rfl, ?_⟩
    refine ⟨_, rfl, (n : Int), rfl, by omega, by omega, fun D hD => ?_⟩
    have Dc : D ≠ c := fun z => by rw [z, hc] at hD; cases hD
    refine lc_range (lo := 0) (n := ((n : Nat) : Int).toNat) (fun i H1 => ∃ rs : List Addr, H1 D = some (.lst (rs.map V.ref)) ∧ rs.length = i ∧ rs.Nodup ∧ (∀ r ∈ rs, H r = none) ∧ D ∉ rs ∧ (∀ (k : Nat) (r : Addr), rs[k]? = some r → H1 r = some (.lst ((List.range n).map fun j => vI (first [] k j)))) ∧ Same H H1)
      ⟨[], upd_same, rfl, List.nodup_nil, by simp, by simp, fun k r e => (by simp at e), same_upd hD⟩ ?_ ?_
    · rintro i H1 hi ⟨rs, hrs, lrs, ndr, Hr, nD, row, s1⟩
      have hin : i < n := by omega
      refine ⟨rfl, yesT ?_⟩
      refine ⟨_, rfl, (n : Int), rfl, by omega, by omega, fun D2 hD2 => ?_⟩
      have D2D : D ≠ D2 := fun z => by rw [← z, hrs] at hD2; cases hD2
      refine lc_range (lo := 0) (n := ((n : Nat) : Int).toNat) (fun j H2 => H2 D2 = some (.lst ((List.range j).map fun j => vI (first [] i j))) ∧ Same H1 H2)
        ⟨upd_same, same_upd hD2⟩ ?_ ?_
      · rintro j H2 hj ⟨h2, s2⟩
        refine ⟨rfl, yesT ?_⟩
        refine ⟨_, rfl, _, rfl, ?_⟩
        refine ⟨rfl, .inr ⟨_, rfl, _, _, rfl, rfl, ?_, ?_⟩⟩
        · exact cmul99 _
        refine ⟨_, h2, ?_, ?_, same_mut s2 hD2⟩
        · rw [List.length_map, List.length_range]
          exact Nat.lt_of_le_of_lt (show j ≤ 8 by omega) (by decide)
        · rw [upd_same, List.range_succ, List.map_append]
          congr 3
          show [V.int (99 * _)] = [vI (first [] i j)]
          rw [first_nil]
          have zi : (0 : Int) + (i : Int) = (i : Nat) := Int.zero_add _
          have zj : (0 : Int) + (j : Int) = (j : Nat) := Int.zero_add _
          rw [zi, zj]
          by_cases e : i = j
          · subst e
            simp [vI]
          · have : ¬ ((i : Int) = (j : Int)) := by omega
            simp [e, this, vI]
      · rintro H2 ⟨h2, s2⟩
        rw [Int.toNat_natCast] at h2
        have Hd2 : H D2 = none := s1.free hD2
        have rD2 : D2 ∉ rs := fun z => by
          obtain ⟨k, hk, e⟩ := List.getElem_of_mem z
          have := row k D2 (by rw [List.getElem?_eq_getElem hk, e])
          rw [this] at hD2
          cases hD2
        refine ⟨_, s2 _ _ hrs, ?_, rs ++ [D2], ?_, by simp [lrs], ?_, ?_, ?_, ?_, same_mut (s1.trans s2) hD⟩
        · rw [List.length_map]
          exact Nat.lt_of_le_of_lt (show rs.length ≤ 8 by omega) (by decide)
        · rw [upd_same, List.map_append]
          rfl
        · rw [List.nodup_append]
          refine ⟨ndr, by simp, fun x hx y hy z => ?_⟩
          rw [z, List.mem_singleton.mp hy] at hx
          exact rD2 hx
        · intro r hr
          rcases List.mem_append.mp hr with hr | hr
          · exact Hr r hr
          · rw [List.mem_singleton.mp hr]
            exact Hd2
        · intro z
          rcases List.mem_append.mp z with z | z
          · exact nD z
          · exact D2D (List.mem_singleton.mp z)
        · intro k r e
          by_cases hk : k < rs.length
          · rw [List.getElem?_append_left hk] at e
            have mr : r ∈ rs := List.mem_of_getElem? e
            rw [upd_ne (fun z : r = D => nD (z ▸ mr))]
            exact s2 _ _ (row k r e)
          · rw [List.getElem?_append_right (by omega)] at e
            have ek : k = rs.length := by
              obtain ⟨h1, _⟩ := List.getElem?_eq_some_iff.mp e
              simp at h1
              omega
            rw [ek, Nat.sub_self] at e
            cases e
            rw [upd_ne (Ne.symm D2D), h2, ek, lrs]
    · rintro H1 ⟨rs, hrs, lrs, ndr, Hr, nD, row, s1⟩
      rw [Int.toNat_natCast] at lrs
      have cr : c ∉ rs := fun z => by
        have := Hr c z
        rw [hc] at this
        cases this
      have T1 : TabAt c H1 D n rs (first []) := ⟨hrs, lrs, ndr, nD, ⟨Dc, cr⟩, row⟩
      refine ⟨_, rfl, l, rfl, ⟨_, SqL.of (s1 _ _ PL.at_)⟩, for_list (K := K) (a := l) (xs := L.map fun q => V.ref q.1) (fun i σ H2 => ∃ (v4 v5 : Option V), σ = [some (.ref t), some (vI n), some (.ref l), some (.ref D), v4, v5, none] ∧ TabAt c H2 D n rs (first ((L.take i).map (·.2))) ∧ Same H H2)
        ⟨none, none, rfl, T1, s1⟩ (fun i σ H2 _ ⟨_, _, _, _, s2⟩ => SqL.of (s2 _ _ PL.at_)) ?_ ?_⟩
      · rintro i x σ H2 hx ⟨v4, v5, rfl, T2, s2⟩
        rw [List.getElem?_map] at hx
        obtain ⟨q, hq, rfl⟩ : ∃ q, L[i]? = some q ∧ V.ref q.1 = x := by
          cases e : L[i]? with
          | none => rw [e] at hx; cases hx
          | some q => rw [e] at hx; exact ⟨q, rfl, Option.some.inj hx⟩
        have mq := List.mem_of_getElem? hq
        have et : L.take (i + 1) = L.take i ++ [q] := by
          rw [List.take_add_one, hq]
          rfl
        obtain ⟨a1, b1, _⟩ := WO.2.1 q mq
        obtain ⟨r, hr1, hr2⟩ := T2.get a1
        refine ⟨q.1, _, rfl, SqT.of (s2 _ _ (PL.tup q mq)), rfl, _, _, rfl, _, _, rfl, rfl, ?_⟩
        refine ⟨_, rfl, _, rfl, D, _, _, _, rfl, rfl, SqL.of T2.at_, atI_nat (get_map hr1), ?_⟩
        refine ⟨_, rfl, r, _, _, q.2.2, rfl, rfl, hr2, ixN_nat (by simp [b1]), ?_⟩
        refine ⟨_, _, rfl, ?_, same_mut s2 (Hr r (List.mem_of_getElem? hr1))⟩
        rw [et, List.map_append, List.map_singleton, ← first_put]
        exact T2.put hr1
      · rintro σ H2 ⟨v4, v5, rfl, T2, s2⟩
        rw [List.length_map, List.take_length] at T2
        refine ⟨_, rfl, (n : Int), rfl, by omega, by omega, for_range (lo := 0) (n := ((n : Nat) : Int).toNat) (fun m σ H3 => ∃ (M : Nat → Nat → Nat) (v4 v5 v6 : Option V), σ = [some (.ref t), some (vI n), some (.ref l), some (.ref D), v4, v5, v6] ∧ TabAt c H3 D n rs M ∧ Sound n (L.map (·.2)) M ∧ Full n (L.map (·.2)) m M ∧ Same H H3)
          ⟨_, v4, v5, none, rfl, T2, first_sound hE, first_full hE, s2⟩ ?_ ?_⟩
        · rintro m σ H3 hm ⟨M0, v4, v5, v6, rfl, T3, S3, F3, s3⟩
          have hmn : m < n := by omega
          refine ⟨_, rfl, (n : Int), rfl, by omega, by omega, for_range (lo := 0) (n := ((n : Nat) : Int).toNat) (fun a σ H4 => ∃ (M : Nat → Nat → Nat) (v4 v5 : Option V), σ = [some (.ref t), some (vI n), some (.ref l), some (.ref D), v4, v5, some (.int (0 + (m : Int)))] ∧ TabAt c H4 D n rs M ∧ Pass n (L.map (·.2)) m M0 (fun x _ => x < a) M ∧ Same H H4)
            ⟨M0, v4, v5, rfl, T3, (Pass.start S3).weak (fun x y _ _ z => absurd z (Nat.not_lt_zero _)), s3⟩ ?_ ?_⟩
          · rintro a σ H4 ha ⟨M1, v4, v5, rfl, T4, P4, s4⟩
            have han : a < n := by omega
            refine ⟨_, rfl, (n : Int), rfl, by omega, by omega, for_range (lo := 0) (n := ((n : Nat) : Int).toNat) (fun b σ H5 => ∃ (M : Nat → Nat → Nat) (v5 : Option V), σ = [some (.ref t), some (vI n), some (.ref l), some (.ref D), some (.int (0 + (a : Int))), v5, some (.int (0 + (m : Int)))] ∧ TabAt c H5 D n rs M ∧ Pass n (L.map (·.2)) m M0 (fun x y => x < a ∨ (x = a ∧ y < b)) M ∧ Same H H5)
              ⟨M1, v5, rfl, T4, P4.weak (fun x y _ _ z => z.elim id fun z => absurd z.2 (Nat.not_lt_zero _)), s4⟩ ?_ ?_⟩
            · rintro b σ H5 hb ⟨M, v5, rfl, T5, P5, s5⟩
              have hbn : b < n := by omega
              obtain ⟨ra, ha1, ha2⟩ := T5.get han
              obtain ⟨rm, hm1, hm2⟩ := T5.get hmn
              refine ⟨_, rfl, _, rfl, D, _, _, _, rfl, rfl, SqL.of T5.at_, at0 (get_map ha1), _, rfl, ra, _, _, _, rfl, rfl, SqL.of ha2, at0 (row_get hbn), ?_⟩
              refine ⟨_, rfl, _, rfl, D, _, _, _, rfl, rfl, SqL.of T5.at_, at0 (get_map ha1), _, rfl, ra, _, _, _, rfl, rfl, SqL.of ha2, at0 (row_get hmn), ?_⟩
              refine ⟨_, rfl, _, rfl, D, _, _, _, rfl, rfl, SqL.of T5.at_, at0 (get_map hm1), _, rfl, rm, _, _, _, rfl, rfl, SqL.of hm2, at0 (row_get hbn), ?_⟩
              refine ⟨_, _, rfl, rfl, ?_⟩
              refine ⟨_, _, _, _, rfl, nuMin3_int _ _ _, ?_⟩
              refine ⟨_, rfl, _, rfl, D, _, _, _, rfl, rfl, SqL.of T5.at_, at0 (get_map ha1), ?_⟩
              refine ⟨_, rfl, ra, _, _, b, rfl, rfl, ha2, ix0 (by simp [hbn]), ?_⟩
              refine ⟨RLM.put M a b (min (min (M a b) (M a m + M m b)) 99), _, rfl, ?_, ?_, same_mut s5 (Hr ra (List.mem_of_getElem? ha1))⟩
              · have ev : V.int (min (min ((M a b : Nat) : Int) ((M a m : Nat) + (M m b : Nat))) 99) = vI (min (min (M a b) (M a m + M m b)) 99) := by
                  unfold vI
                  congr 1
                  omega
                rw [ev]
                exact T5.put ha1
              · refine (P5.one han hbn hmn).weak fun x y _ _ z => ?_
                omega
            · rintro σ H5 ⟨M, v5, rfl, T5, P5, s5⟩
              rw [Int.toNat_natCast] at P5
              refine ⟨M, _, _, rfl, T5, P5.weak (fun x y _ hy z => ?_), s5⟩
              omega
          · rintro σ H4 ⟨M, v4, v5, rfl, T4, P4, s4⟩
            rw [Int.toNat_natCast] at P4
            exact ⟨M, _, _, _, rfl, T4, P4.sn, P4.full (fun x y hx _ => hx) F3 hmn, s4⟩
        · rintro σ H3 ⟨M, v4, v5, v6, rfl, T3, S3, F3, s3⟩
          rw [Int.toNat_natCast] at F3
          exact ⟨_, rfl, h H3 D rs M T3 (Spans.of hE S3 F3) s3⟩
end
end RL
namespace RL
open PySem PySem.Spec PyProof.Rows L2 RLM
section
variable {P : Program} {w : World} {K : PySem.W.Frag} {mg : Str → Option Value} {base : Heap}
/-- [b for b in range(n) if t(b)]: the places of which t holds -/
theorem reach_any {n : Nat} {E : List (Nat × Nat)} {M : Nat → Nat → Nat} {ps : List Nat} {p : Nat → Prop} (S : Spans n E M) (PO : PaceOk n ps) {b : Nat} (hb : b < n) :
    (((lotP n p).map fun a => decide (M a b ≤ ps.getD a 0)).any id = true) ↔ stepP n E ps p b := by
  have key : ∀ a, a < n → (M a b ≤ ps.getD a 0 ↔ Near E ((ps.getD a 0 : Nat) : Int) a b) := fun a ha => by
    have h7 : ps.getD a 0 ≤ 7 := PO.2 _ (List.mem_of_getElem? (pace_get PO ha))
    rw [← S.nr a b _ ha hb (by omega)]
    omega
  rw [List.any_eq_true]
  constructor
  · rintro ⟨v, hv, ev⟩
    obtain ⟨a, ha, rfl⟩ := List.mem_map.mp hv
    have m := mem_lotP.mp ha
    exact ⟨a, m.1, m.2, (key a m.1).1 (of_decide_eq_true ev)⟩
  · rintro ⟨a, h1, h2, h3⟩
    exact ⟨true, List.mem_map.mpr ⟨a, mem_lotP.mpr ⟨h1, h2⟩, decide_eq_true ((key a h1).2 h3)⟩, rfl⟩
def spReached (K : PySem.W.Frag) : Sp := fun vs H Q _ => ∃ (c D tp tl : Addr) (rs : List Addr) (M : Nat → Nat → Nat) (n : Nat) (E : List (Nat × Nat)) (ps : List Nat) (p : Nat → Prop), vs = [.ref D, .ref tp, .ref tl] ∧ TabAt c H D n rs M ∧ Spans n E M ∧ n ≤ 8 ∧ H tp = some (.tup (ps.map vI)) ∧ PaceOk n ps ∧ H tl = some (.tup ((lotP n p).map vI)) ∧
  ∀ H' t, H' t = some (.tup ((lotP n (stepP n E ps p)).map vI)) → Same H H' → Q (.ref t) H'
/-! ### a board, its spans, the program's own board -/
def spGround (K : PySem.W.Frag) : Sp := fun vs H Q _ => ∃ (b c : Addr), vs = [.ref b, vI 8] ∧ Box b c H ∧ ∀ (H' : Hp) (u t l D x n : Nat) (L : List (Addr × Nat × Nat)) (rs : List Addr) (M : Nat → Nat → Nat) (E : List (Nat × Nat)), 1 ≤ n → n ≤ 8 → H' u = some (.tup [.ref t, .ref D, .ref x]) → H' t = some (.tup [vI n, .ref l]) → PairsAt c H' l L → WaysOk n L → (∀ e, e ∈ E ↔ e ∈ L.map (·.2)) → TabAt c H' D n rs M → Spans n E M → BoardAt K c H' x n E → Kc c H H' → Box b c H' → Q (.ref u) H'
theorem spans_congr {n : Nat} {E E' : List (Nat × Nat)} {M : Nat → Nat → Nat} (h : ∀ e, e ∈ E' ↔ e ∈ E) (S : Spans n E M) : Spans n E' M :=
  ⟨S.hi, fun a b m ha hb hm => (S.nr a b m ha hb hm).trans ⟨fun ⟨k, h1, h2⟩ => ⟨k, h1, h2.mono fun p hp => (h p).2 hp⟩, fun ⟨k, h1, h2⟩ => ⟨k, h1, h2.mono fun p hp => (h p).1 hp⟩⟩⟩
theorem sc__law_ground : FnScope ["_law_box_here", "_law_most", "_law_board_here"] ["_law_box_here", "_law_most"] (defScope s__law_ground) := ⟨rfl, rfl, rfl, by decide +kernel, rfl, by decide +kernel, by decide +kernel⟩
theorem ok_ground (T : Tx K mg) : Has P w K mg base (He.ga K "_law_ground") 7 ["_law_box_here", "_law_most"] (spGround K) := by
  obtain ⟨⟨fd_law_board, F_law_board, b_law_board⟩, kp_law_board⟩ := ok_board (P := P) (w := w) (base := base) T
  obtain ⟨⟨fd_law_spans, F_law_spans, b_law_spans⟩, kp_law_spans⟩ := ok_spans (P := P) (w := w) (base := base) T
  obtain ⟨⟨fd_law_made, F_law_made, b_law_made⟩, kp_law_made⟩ := ok_made (P := P) (w := w) (base := base) T
  obtain ⟨fd, F⟩ := T.d__law_ground
  refine ⟨⟨fd, F.ok sc__law_ground (fun vs H Q E h => ?_) (fun cdv A outer s H vs Q E hr h => ?_), F.bindsN fun _ _ _ _ _ _ us hl => match us, hl with | [_, _], _ => rfl⟩, F.kp⟩
  · obtain ⟨b, c, rfl, _⟩ := h
    rfl
  · obtain ⟨b, c, rfl, B, h⟩ := h
    have hr_law_board : Room 4 _ := hr.mono (by decide)
    have hr_law_spans : Room 1 _ := hr.mono (by decide)
    have hr_law_made : Room 6 _ := hr.mono (by decide)
    refine ⟨_, PSs.nox (pss_cons (ps_set (i := 2) sc__law_ground.nd rfl (Or.inl rfl) (pe_call F_law_board hr_law_board rfl T.glo_law_board kp_law_board b_law_board .nil pass0 (pa_cons (pv 0) (pa_cons (pv 1) pa_nil))))
      (pss_one (ps_ret (pe_tup (pa_cons (pv 2) (pa_cons (pe_call F_law_spans hr_law_spans rfl T.glo_law_spans kp_law_spans b_law_spans .nil pass0 (pa_cons (pv 2) pa_nil)) (pa_cons (pe_call F_law_made hr_law_made rfl T.glo_law_made kp_law_made b_law_made .nil pass0 (pa_cons (pv 2) pa_nil)) pa_nil))))))), ?_⟩
    refine ⟨_, rfl, _, rfl, b, c, rfl, B, fun H1 t n l L n1 n8 ht PL WO k1 B1 => ?_⟩
    refine ⟨_, rfl, _, rfl, c, t, l, n, L, rfl, ht, PL, WO, n1, n8, B1.lst, fun H2 D rs M TA S s2 => ?_⟩
    refine ⟨_, rfl, c, t, l, n, L, rfl, s2 _ _ ht, PL.same s2, WO, n1, n8, (B1.same s2).lst, fun H3 x E Bd mE _ s3 => ?_⟩
    refine ⟨(by show 3 ≤ sizeLine; decide), fun u hu => ?_⟩
    have s4 := same_upd (o := HO.tup [V.ref t, V.ref D, V.ref x]) hu
    have s24 := (s2.trans s3).trans s4
    exact h _ u t l D x n L rs M E n1 n8 upd_same (s24 _ _ ht) (PL.same s24) WO mE (TA.same (s3.trans s4)) (spans_congr mE S) (Bd.same s4) (k1.trans (kc_same s24)) (B1.same s24)
end
end RL
namespace RL
open PySem PySem.Spec PyProof.Rows L2 RLM
/-! ### looks -/
inductive Look where
  | lot (p : Nat → Prop)
  | parts (ps : List (Nat → Prop))
  | near (b k : Nat)
/-- a look as it stands -/
def LookAt (n : Nat) (H : Hp) (v : V) : Look → Prop
  | .lot p => ∃ t u : Addr, v = .ref t ∧ H t = some (.tup [.str "in", .ref u]) ∧ H u = some (.tup ((lotP n p).map vI))
  | .parts ps => ∃ (t u : Addr) (us : List Addr), v = .ref t ∧ H t = some (.tup [.str "parts", .ref u]) ∧ H u = some (.tup (us.map V.ref)) ∧ us.length = ps.length ∧ ∀ (k : Nat) (a : Addr) (p : Nat → Prop), us[k]? = some a → ps[k]? = some p → H a = some (.tup ((lotP n p).map vI))
  | .near b k => ∃ t : Addr, v = .ref t ∧ H t = some (.tup [.str "near", vI b, vI k])
/-- a look of a board -/
def LookOk (n : Nat) : Look → Prop
  | .lot _ => True
  | .parts ps => ps.length ≤ n ∧ (∀ b, b < n → ∃ (k : Nat) (p : Nat → Prop), ps[k]? = some p ∧ p b) ∧ (∀ (i j : Nat) (p q : Nat → Prop) (b : Nat), ps[i]? = some p → ps[j]? = some q → b < n → p b → q b → i = j) ∧ ∀ p ∈ ps, ∃ b, b < n ∧ p b
  | .near b k => b < n ∧ k ≤ 7
theorem LookAt.same {n : Nat} {H H' : Hp} {v : V} (s : Same H H') : ∀ {L : Look}, LookAt n H v L → LookAt n H' v L
  | .lot _, ⟨t, u, e, h1, h2⟩ => ⟨t, u, e, s _ _ h1, s _ _ h2⟩
  | .parts _, ⟨t, u, us, e, h1, h2, l, h3⟩ => ⟨t, u, us, e, s _ _ h1, s _ _ h2, l, fun k a p e1 e2 => s _ _ (h3 k a p e1 e2)⟩
  | .near _ _, ⟨t, e, h1⟩ => ⟨t, e, s _ _ h1⟩
theorem LookAt.keep {n : Nat} {c : Addr} {H H' : Hp} {v : V} (k : Kc c H H') (hc : ∃ ys, H c = some (.lst ys)) : ∀ {L : Look}, LookAt n H v L → LookAt n H' v L
  | .lot _, ⟨t, u, e, h1, h2⟩ => ⟨t, u, e, k.tup hc h1, k.tup hc h2⟩
  | .parts _, ⟨t, u, us, e, h1, h2, l, h3⟩ => ⟨t, u, us, e, k.tup hc h1, k.tup hc h2, l, fun i a p e1 e2 => k.tup hc (h3 i a p e1 e2)⟩
  | .near _ _, ⟨t, e, h1⟩ => ⟨t, e, k.tup hc h1⟩
open Classical in
noncomputable def decB (p : Prop) : Bool := decide p
open Classical in
theorem dec_lot {n b : Nat} {p : Nat → Prop} (bn : b < n) : decide (b ∈ lotP n p) = decB (p b) := by
  unfold decB
  rw [decide_eq_decide, mem_lotP]
  exact ⟨fun h => h.2, fun h => ⟨bn, h⟩⟩
open Classical in
/-- what a place answers -/
noncomputable def ans (M : Nat → Nat → Nat) : Look → Nat → Nat
  | .lot p, b => if p b then 1 else 0
  | .parts ps, b => ps.findIdx fun p => decB (p b)
  | .near c k, b => min (M b c) (k + 1)
open Classical in
theorem decB_true {p : Prop} : decB p = true ↔ p := by
  unfold decB
  exact decide_eq_true_iff
theorem ans_near {M : Nat → Nat → Nat} {c k b : Nat} : ans M (.near c k) b = min (M b c) (k + 1) := rfl
theorem ans_in {M : Nat → Nat → Nat} {p : Nat → Prop} {b : Nat} (h : p b) : ans M (.lot p) b = 1 := if_pos h
theorem ans_out {M : Nat → Nat → Nat} {p : Nat → Prop} {b : Nat} (h : ¬ p b) : ans M (.lot p) b = 0 := if_neg h
section
variable {P : Program} {w : World} {K : PySem.W.Frag} {mg : Str → Option Value} {base : Heap}
def spBoth : Sp := fun vs H Q _ => ∃ (s t : Addr) (n : Nat) (p q : Nat → Prop), vs = [.ref s, .ref t] ∧ n ≤ 8 ∧ H s = some (.tup ((lotP n p).map vI)) ∧ H t = some (.tup ((lotP n q).map vI)) ∧
  ∀ H' u, H' u = some (.tup ((lotP n fun b => p b ∧ q b).map vI)) → Same H H' → Q (.ref u) H'
def spAnswer : Sp := fun vs H Q _ => ∃ (c D : Addr) (v : V) (n b : Nat) (rs : List Addr) (M : Nat → Nat → Nat) (L : Look), vs = [.ref D, v, vI b] ∧ n ≤ 8 ∧ TabAt c H D n rs M ∧ LookAt n H v L ∧ LookOk n L ∧ b < n ∧ ∀ H', Same H H' → Q (vI (ans M L b)) H'
end
end RL
namespace RL
open PySem PySem.Spec PyProof.Rows L2 RLM
theorem lotP_one {n b : Nat} (h : b < n) : lotP n (fun x => x = b) = [b] :=
  (lotP_of (List.pairwise_singleton _ _) fun x => by
    rw [List.mem_singleton]
    exact ⟨fun e => ⟨by omega, e⟩, fun e => e.2⟩).symm
theorem dp_lot {K : PySem.W.Frag} {H : Hp} {t : Addr} {xs : List Nat} (h : H t = some (.tup (xs.map vI))) : Dp K H (.ref t) (.tuple ((xs.map nI).map PyData.int)) := .tup (SqT.of (by rw [← vI_map]; exact h)) (dp_ints _)
theorem eqv_none : ∀ xs : List Nat, PyData.eqv (.tuple ((xs.map nI).map PyData.int)) (.tuple ((([] : List Nat).map nI).map PyData.int)) = xs.isEmpty
  | [] => by unfold PyData.eqv; rfl
  | x :: xs => by unfold PyData.eqv; rfl
section
variable {P : Program} {w : World} {K : PySem.W.Frag} {mg : Str → Option Value} {base : Heap}
def spStart : Sp := fun vs H Q _ => ∃ (b c : Addr) (n : Nat), vs = [.ref b, vI n] ∧ Box b c H ∧ 1 ≤ n ∧ n ≤ 8 ∧ ∀ H' t p, H' t = some (.tup ((lotP n p).map vI)) → (∃ a, a < n ∧ p a) → Kc c H H' → Box b c H' → Q (.ref t) H'
theorem sc__law_start : FnScope ["_law_box_here", "_law_many", "_law_lot_here"] ["_law_box_here", "_law_many"] (defScope s__law_start) := ⟨rfl, rfl, rfl, by decide +kernel, rfl, by decide +kernel, by decide +kernel⟩
theorem ok_start (T : Tx K mg) : Has P w K mg base (He.ga K "_law_start") 3 ["_law_box_here", "_law_many"] spStart := by
  obtain ⟨⟨fd_law_pick, F_law_pick, b_law_pick⟩, kp_law_pick⟩ := ok_pick (P := P) (w := w) (base := base) T
  obtain ⟨⟨fd_law_lot, F_law_lot, b_law_lot⟩, kp_law_lot⟩ := ok_lot (P := P) (w := w) (base := base) T
  obtain ⟨fd, F⟩ := T.d__law_start
  refine ⟨⟨fd, F.ok sc__law_start (fun vs H Q E h => ?_) (fun cdv A outer s H vs Q E hr h => ?_), F.bindsN fun _ _ _ _ _ _ us hl => match us, hl with | [_, _], _ => rfl⟩, F.kp⟩
  · obtain ⟨b, c, n, rfl, _⟩ := h
    rfl
  · obtain ⟨b, c, n, rfl, B, n1, n8, h⟩ := h
    have hr_law_pick : Room 1 _ := hr.mono (by decide)
    have hr_law_lot : Room 2 _ := hr.mono (by decide)
    refine ⟨_, PSs.nox (pss_cons (ps_set (i := 2) sc__law_start.nd rfl (Or.inl rfl) (pe_call F_law_lot hr_law_lot rfl T.glo_law_lot kp_law_lot b_law_lot .nil pass0 (pa_cons (pv 0) (pa_cons (pv 1) pa_nil))))
      (pss_one (ps_ret (pe_ifExp (pt_cmpR (neD (K := K) hr.units) (pv 2) (pe_tup pa_nil) (nomark _)) (pv 2) (pe_tup (pa_cons (pe_call F_law_pick hr_law_pick rfl T.glo_law_pick kp_law_pick b_law_pick .nil pass0 (pa_cons (pv 0) (pa_cons (pv 1) pa_nil))) pa_nil)))))), ?_⟩
    refine ⟨_, rfl, _, rfl, b, c, n, rfl, B, n1, n8, fun H1 t p ht k1 B1 => ?_⟩
    refine ⟨_, rfl, Nat.zero_le _, fun u hu => ?_⟩
    have s2 := same_upd (o := HO.tup []) hu
    have hu2 : (upd H1 u (.tup [])) u = some (.tup []) := upd_same
    generalize upd H1 u (.tup []) = H2 at s2 hu2
    refine ⟨_, _, dp_lot (s2 _ _ ht), dp_lot (xs := []) hu2, shaped_tup _, shaped_tup _, _, rfl, ?_⟩
    rw [eqv_none]
    cases e : (lotP n p).isEmpty with
    | false =>
      refine iteT ⟨_, rfl, h H2 t p (s2 _ _ ht) ?_ (k1.trans (kc_same s2)) (B1.same s2)⟩
      cases e2 : lotP n p with
      | nil => rw [e2] at e; cases e
      | cons a l =>
        have := mem_lotP.mp (show a ∈ lotP n p by rw [e2]; exact List.mem_cons_self)
        exact ⟨a, this.1, this.2⟩
    | true =>
      refine iteF ?_
      refine ⟨_, rfl, _, rfl, b, c, _, rfl, B1.same s2, by omega, by omega, fun H3 x k3 B3 x0 x1 => ?_⟩
      obtain ⟨xn, rfl⟩ : ∃ xn : Nat, x = (xn : Nat) := ⟨x.toNat, by omega⟩
      have xl : xn < n := by omega
      refine ⟨(by show 1 ≤ sizeLine; decide), fun q hq => ?_⟩
      have s4 := same_upd (o := HO.tup [V.int ((xn : Nat) : Int)]) hq
      refine h _ q (fun y => y = xn) ?_ ⟨xn, xl, rfl⟩ (((k1.trans (kc_same s2)).trans k3).trans (kc_same s4)) (B3.same s4)
      rw [upd_same, lotP_one xl]
      rfl
end
end RL
namespace RL
open PySem PySem.Spec PyProof.Rows L2 RLM
/-- a triple that was seen: beat, look, answer -/
structure Triple where
  beat : Nat
  look : Look
  told : Nat
/-- triples as they stand, in a tuple or a list: where each is, where its look is -/
def TripAt (n : Nat) (H : Hp) (q : Addr × V × Triple) : Prop := H q.1 = some (.tup [vI q.2.2.beat, q.2.1, vI q.2.2.told]) ∧ LookAt n H q.2.1 q.2.2.look ∧ LookOk n q.2.2.look
/-- a story as it stands -/
structure StoryAt (n : Nat) (H : Hp) (s : Addr) (p : Nat → Prop) (PS : List (Addr × List Nat)) (SN : List (Addr × V × Triple)) : Prop where
  ex : ∃ tl tp ts : Addr, H s = some (.tup [.ref tl, .ref tp, .ref ts]) ∧ H tl = some (.tup ((lotP n p).map vI)) ∧ H tp = some (.tup (PS.map fun q => V.ref q.1)) ∧ H ts = some (.tup (SN.map fun q => V.ref q.1))
  pc : ∀ q ∈ PS, H q.1 = some (.tup (q.2.map vI)) ∧ PaceOk n q.2
  sn : ∀ q ∈ SN, TripAt n H q ∧ q.2.2.beat ≤ PS.length
  lp : PS.length ≤ 12
  ls : SN.length ≤ 24
theorem TripAt.same {n : Nat} {H H' : Hp} {q : Addr × V × Triple} (s : Same H H') (h : TripAt n H q) : TripAt n H' q := ⟨s _ _ h.1, h.2.1.same s, h.2.2⟩
theorem StoryAt.same {n : Nat} {H H' : Hp} {a : Addr} {p : Nat → Prop} {PS : List (Addr × List Nat)} {SN : List (Addr × V × Triple)} (s : Same H H') (h : StoryAt n H a p PS SN) : StoryAt n H' a p PS SN := by
  obtain ⟨tl, tp, ts, h1, h2, h3, h4⟩ := h.ex
  exact ⟨⟨tl, tp, ts, s _ _ h1, s _ _ h2, s _ _ h3, s _ _ h4⟩, fun q hq => ⟨s _ _ (h.pc q hq).1, (h.pc q hq).2⟩, fun q hq => ⟨(h.sn q hq).1.same s, (h.sn q hq).2⟩, h.lp, h.ls⟩
/-- what was seen lets a place be -/
def openP (M : Nat → Nat → Nat) (SN : List (Addr × V × Triple)) (i b : Nat) : Prop := ∀ q ∈ SN, q.2.2.beat = i → ans M q.2.2.look b = q.2.2.told
/-- a list of lots, as tuples -/
structure LotsAt (n : Nat) (H : Hp) (D : Addr) (m : Nat) (p : Nat → Nat → Prop) : Prop where
  ex : ∃ us : List Addr, H D = some (.lst (us.map V.ref)) ∧ us.length = m ∧ ∀ (i : Nat) (u : Addr), us[i]? = some u → H u = some (.tup ((lotP n (p i)).map vI))
section
variable {P : Program} {w : World} {K : PySem.W.Frag} {mg : Str → Option Value} {base : Heap}
def spOpen : Sp := fun vs H Q _ => ∃ (c D s : Addr) (n : Nat) (rs : List Addr) (M : Nat → Nat → Nat) (p : Nat → Prop) (PS : List (Addr × List Nat)) (SN : List (Addr × V × Triple)), vs = [.ref D, .ref s] ∧ n ≤ 8 ∧ TabAt c H D n rs M ∧ StoryAt n H s p PS SN ∧
  ∀ H' l, LotsAt n H' l (PS.length + 1) (openP M SN) → H l = none → Same H H' → Q (.ref l) H'
end
end RL
/-! Stories: walks that fit, the lots forth, back and known; how many walks there are. Plain mathematics.
    n places, m paces, S the lot of the beginning, R i a b: a step from a to b is let by pace i, O i b: what was seen at beat i lets b be. -/
namespace RLM
section
variable (n m : Nat) (S : Nat → Prop) (R : Nat → Nat → Nat → Prop) (O : Nat → Nat → Prop)
/-- from a on, at beat i: what a walk has behind a -/
inductive Tail : Nat → Nat → List Nat → Prop where
  | stop (a : Nat) : Tail m a []
  | go {i a b : Nat} {w : List Nat} : i < m → b < n → R i a b → O (i + 1) b → Tail (i + 1) b w → Tail i a (b :: w)
/-- a walk that fits -/
def Fit : List Nat → Prop
  | [] => False
  | a :: w => a < n ∧ S a ∧ O 0 a ∧ Tail n m R O 0 a w
/-- the lots forth -/
def ForthP : Nat → Nat → Prop
  | 0, b => b < n ∧ S b ∧ O 0 b
  | i + 1, b => b < n ∧ O (i + 1) b ∧ ∃ a, ForthP i a ∧ R i a b
/-- the lots back: k beats before the last -/
def BackP : Nat → Nat → Prop
  | 0, b => b < n ∧ O m b
  | k + 1, b => b < n ∧ O (m - (k + 1)) b ∧ ∃ c, BackP k c ∧ R (m - (k + 1)) b c
end
variable {n m : Nat} {S : Nat → Prop} {R : Nat → Nat → Nat → Prop} {O : Nat → Nat → Prop}
theorem Tail.len {i a : Nat} {w : List Nat} (h : Tail n m R O i a w) : i + w.length = m := by
  induction h with
  | stop a => simp
  | go _ _ _ _ _ ih => simp only [List.length_cons]; omega
theorem Tail.get {i a : Nat} {w : List Nat} (h : Tail n m R O i a w) : ∀ {j b : Nat}, w[j]? = some b → b < n ∧ O (i + 1 + j) b := by
  induction h with
  | stop a => intro j b e; simp at e
  | @go i a b w hi hb r o t ih =>
    intro j c e
    cases j with
    | zero => simp at e; subst e; exact ⟨hb, o⟩
    | succ j =>
      have := ih (j := j) (b := c) (by simpa using e)
      exact ⟨this.1, by have e : i + 1 + (j + 1) = i + 1 + 1 + j := by omega
                        rw [e]; exact this.2⟩
theorem Fit.len {w : List Nat} (h : Fit n m S R O w) : w.length = m + 1 := by
  cases w with
  | nil => exact h.elim
  | cons a w =>
    have := h.2.2.2.len
    simp only [List.length_cons]
    omega
/-- what a walk has behind a place leads on: the place is in the lot back -/
theorem Tail.back {i a : Nat} {w : List Nat} (h : Tail n m R O i a w) (ha : a < n) (o : O i a) : BackP n m R O (m - i) a := by
  induction h with
  | stop a =>
    rw [Nat.sub_self]
    exact ⟨ha, o⟩
  | @go i a b w hi hb r o2 t ih =>
    have e : m - i = (m - (i + 1)) + 1 := by omega
    have e2 : m - (m - (i + 1) + 1) = i := by omega
    rw [e]
    refine ⟨ha, ?_, b, ih hb o2, ?_⟩ <;> rw [e2] <;> assumption
/-- from a place of the lot back some walk leads on -/
theorem BackP.tail : ∀ {k a : Nat}, BackP n m R O k a → k ≤ m → ∃ w, Tail n m R O (m - k) a w
  | 0, a, _, _ => ⟨[], .stop a⟩
  | k + 1, a, h, hk => by
    obtain ⟨ha, o, c, hc, r⟩ := h
    obtain ⟨w, t⟩ := hc.tail (by omega)
    have e : m - k = m - (k + 1) + 1 := by omega
    have oc : O (m - k) c := by
      cases k with
      | zero => exact hc.2
      | succ k => exact hc.2.1
    have cn : c < n := by
      cases k with
      | zero => exact hc.1
      | succ k => exact hc.1
    rw [e] at t oc
    exact ⟨c :: w, .go (by omega) cn r oc t⟩
theorem ForthP.lt {i a : Nat} (h : ForthP n S R O i a) : a < n := by
  cases i with
  | zero => exact h.1
  | succ i => exact h.1
theorem ForthP.op {i a : Nat} (h : ForthP n S R O i a) : O i a := by
  cases i with
  | zero => exact h.2.2
  | succ i => exact h.2.1
theorem BackP.lt {k a : Nat} (h : BackP n m R O k a) : a < n := by
  cases k with
  | zero => exact h.1
  | succ i => exact h.1
/-- what a fitting walk passes is in the lots forth -/
theorem Tail.forth {i a : Nat} {w : List Nat} (h : Tail n m R O i a w) : ForthP n S R O i a → ∀ {j b : Nat}, (a :: w)[j]? = some b → ForthP n S R O (i + j) b ∧ BackP n m R O (m - (i + j)) b := by
  induction h with
  | stop a =>
    intro f j b e
    cases j with
    | zero =>
      simp at e
      subst e
      exact ⟨f, (Tail.stop (n := n) (m := m) (R := R) (O := O) _).back f.lt f.op⟩
    | succ j => simp at e
  | @go i a c w hi hb r o t ih =>
    intro f j b e
    cases j with
    | zero =>
      simp at e
      subst e
      exact ⟨f, (Tail.go hi hb r o t).back f.lt f.op⟩
    | succ j =>
      have := ih ⟨hb, o, a, f, r⟩ (j := j) (b := b) (by simpa using e)
      have e2 : i + (j + 1) = i + 1 + j := by omega
      rw [e2]
      exact this
/-- a walk to a place of the lot forth can be put before one that leads on -/
theorem ForthP.walk : ∀ {i a : Nat} {w : List Nat}, ForthP n S R O i a → Tail n m R O i a w → ∃ v, Fit n m S R O (v ++ a :: w) ∧ v.length = i
  | 0, a, w, f, t => ⟨[], ⟨f.1, f.2.1, f.2.2, t⟩, rfl⟩
  | i + 1, a, w, f, t => by
    obtain ⟨an, o, b, fb, r⟩ := f
    have hi : i < m := by
      have := t.len
      omega
    obtain ⟨v, fv, lv⟩ := fb.walk (.go hi an r o t)
    exact ⟨v ++ [b], by simpa using fv, by simp [lv]⟩
/-- known: where some fitting walk is; both forth and back -/
theorem known_iff {i b : Nat} (hi : i ≤ m) : (∃ w, Fit n m S R O w ∧ w[i]? = some b) ↔ ForthP n S R O i b ∧ BackP n m R O (m - i) b := by
  constructor
  · rintro ⟨w, f, e⟩
    cases w with
    | nil => exact f.elim
    | cons a w =>
      have := f.2.2.2.forth (S := S) (i := 0) ⟨f.1, f.2.1, f.2.2.1⟩ e
      simpa using this
  · rintro ⟨f, b'⟩
    obtain ⟨w, t⟩ := b'.tail (by omega)
    have e : m - (m - i) = i := by omega
    rw [e] at t
    obtain ⟨v, fv, lv⟩ := f.walk t
    refine ⟨_, fv, ?_⟩
    rw [List.getElem?_append_right (by omega), lv, Nat.sub_self]
    rfl
/-- no walk fits just where some lot forth is empty; where one is, all later ones are -/
theorem forth_none {i : Nat} (h : ∀ b, ¬ ForthP n S R O i b) : ∀ j, i ≤ j → ∀ b, ¬ ForthP n S R O j b
  | 0, hj, b => by
    have : i = 0 := by omega
    subst this
    exact h b
  | j + 1, hj, b => by
    rcases Nat.lt_or_ge j i with k | k
    · have : i = j + 1 := by omega
      subst this
      exact h b
    · rintro ⟨_, _, a, fa, _⟩
      exact forth_none h j k a fa
end RLM
namespace RL
open PySem PySem.Spec PyProof.Rows L2 RLM
/-- a comprehension in whose turns numbers are drawn -/
theorem lc_relK {J : It} {n : Nat} {G : Hp → Prop} {Y : Nat → Hp → V → Hp → Prop} {g : TG} {te : TE} {vs : List Nat} {σ : L2.St} {H : Hp} {D b c : Addr} {Qd : Hp → Prop} (w : Walk J n G Y) (R : Nat → V → Hp → Prop) (hn : n ≤ 100000) (B : Box b c H) (hD : H D = none) (tk : ∀ k v H1 H2, R k v H1 → TK H1 H2 → R k v H2) (hG : ∀ H1, Kc c H H1 → Box b c H1 → G H1)
    (hs : ∀ i x H1 H2 (Nx : V → Hp → Prop), i < n → Kc c H H1 → Box b c H1 → Y i H1 x H2 → (∀ y H4, R i y H4 → Kc c H1 H4 → Box b c H4 → Nx y H4) → g x (wipe σ vs) H2 fun σ2 H3 => wipe σ2 vs = wipe σ vs ∧ te σ2 H3 Nx)
    (hd : ∀ H1 ys, H1 D = some (.lst ys) → ys.length = n → (∀ k y, ys[k]? = some y → R k y H1) → Kc c H H1 → Box b c H1 → D ≠ c → Qd H1) :
    ∃ W : Nat → Nat → Hp → Prop, (∃ m, W 0 m (L2.upd H D (.lst []))) ∧ ∀ i m H, W i m H →
      (J.stop i H ∧ Qd H) ∨ (J.go i H ∧ ∃ Nx : Hp → Prop, (∀ H', Nx H' → ∃ m', m' < m ∧ W (i + 1) m' H') ∧ ∀ x H', J.yld i H x H' → g x (wipe σ vs) H' fun σ2 H2 => wipe σ2 vs = wipe σ vs ∧ tYes σ2 H2 fun b H3 =>
        if b = true then te σ2 H3 fun y H4 => ∃ acc, H4 D = some (.lst acc) ∧ acc.length < sizeLine ∧ Nx (L2.upd H4 D (.lst (acc ++ [y]))) else Nx H3) := by
  obtain ⟨Dc, Db⟩ := B.new hD
  have s0 : Same H (L2.upd H D (.lst [])) := same_upd hD
  refine lc_it w (fun i H1 => ∃ ys, H1 D = some (.lst ys) ∧ ys.length = i ∧ (∀ k y, ys[k]? = some y → R k y H1) ∧ Kc c H H1 ∧ Box b c H1) ⟨[], upd_same, rfl, fun k y e => (by simp at e), kc_same s0, B.same s0⟩ (fun i H1 _ ⟨_, _, _, _, k1, B1⟩ => hG H1 k1 B1) ?_ (fun H1 ⟨ys, h1, h2, h3, h4, h5⟩ => hd H1 ys h1 h2 h3 h4 h5 Dc)
  rintro i x H1 H2 hi ⟨ys, h1, h2, h3, k1, B1⟩ hY
  refine hs i x H1 H2 (fun y H4 => ∃ acc, H4 D = some (.lst acc) ∧ acc.length < sizeLine ∧ ∃ zs, (L2.upd H4 D (.lst (acc ++ [y]))) D = some (.lst zs) ∧ zs.length = i + 1 ∧ (∀ k y', zs[k]? = some y' → R k y' (L2.upd H4 D (.lst (acc ++ [y])))) ∧ Kc c H (L2.upd H4 D (.lst (acc ++ [y]))) ∧ Box b c (L2.upd H4 D (.lst (acc ++ [y])))) hi k1 B1 hY fun y H4 r k4 B4 => ?_
  have h4 := k4 _ _ Dc (fun _ z => by cases z) h1
  refine ⟨ys, h4, ?_, ys ++ [y], upd_same, by simp [h2], fun k y' e => ?_, (k1.trans k4).upd hD, B4.upd Dc Db⟩
  · rw [h2]
    exact Nat.lt_of_lt_of_le hi (Nat.le_trans hn (by decide))
  · by_cases hk : k < ys.length
    · rw [List.getElem?_append_left hk] at e
      exact tk _ _ _ _ (h3 k y' e) ((k4.tk B1.lst).trans (tk_lst h4))
    · rw [List.getElem?_append_right (by omega)] at e
      have ek : k = ys.length := by
        obtain ⟨z1, _⟩ := List.getElem?_eq_some_iff.mp e
        simp at z1
        omega
      rw [ek, Nat.sub_self] at e
      cases e
      rw [ek, h2]
      exact tk _ _ _ _ r (tk_lst h4)
/-- what each of a list is, as a list beside -/
theorem beside {α : Type} {R : Nat → V → α → Prop} : ∀ (ys : List V) (i : Nat), (∀ (k : Nat) (y : V), ys[k]? = some y → ∃ a, R (i + k) y a) → ∃ as : List α, as.length = ys.length ∧ ∀ (k : Nat) (y : V) (a : α), ys[k]? = some y → as[k]? = some a → R (i + k) y a
  | [], i, _ => ⟨[], rfl, fun k y a e => by simp at e⟩
  | y :: ys, i, h => by
    obtain ⟨a, ha⟩ := h 0 y rfl
    obtain ⟨as, l, h2⟩ := beside ys (i + 1) fun k y e => by
      have := h (k + 1) y e
      rw [← Nat.add_assoc, Nat.add_right_comm] at this
      exact this
    refine ⟨a :: as, by simp [l], fun k y' a' e1 e2 => ?_⟩
    cases k with
    | zero =>
      cases e1
      cases e2
      exact ha
    | succ k =>
      have := h2 k y' a' e1 e2
      rw [Nat.add_right_comm, Nat.add_assoc] at this
      exact this
theorem ys_of {α : Type} {f : α → V} {ys : List V} {as : List α} (l : as.length = ys.length) (h : ∀ (k : Nat) (y : V) (a : α), ys[k]? = some y → as[k]? = some a → y = f a) : ys = as.map f := by
  refine List.ext_getElem? fun k => ?_
  rw [List.getElem?_map]
  by_cases hk : k < ys.length
  · have e1 : ys[k]? = some ys[k] := List.getElem?_eq_getElem hk
    have e2 : as[k]? = some (as[k]'(by omega)) := List.getElem?_eq_getElem _
    rw [e1, e2, h k _ _ e1 e2]
    rfl
  · rw [List.getElem?_eq_none (by omega), List.getElem?_eq_none (by omega)]
    rfl
/-- the parts by signs -/
def signP (ss : List Nat) (z : Int) (b : Nat) : Prop := nI (ss.getD b 0) = z
theorem parts_ok {n : Nat} {ss : List Nat} {zs : List Int} (ls : ss.length = n) (nd : zs.Nodup) (hm : ∀ z, z ∈ zs ↔ z ∈ ss.map nI) (lz : zs.length ≤ n) : LookOk n (.parts (zs.map (signP ss))) := by
  refine ⟨by rw [List.length_map]; exact lz, fun b bn => ?_, fun i j p q b hp hq bn pb qb => ?_, fun p hp => ?_⟩
  · have hb : b < ss.length := by omega
    have hmem : nI (ss.getD b 0) ∈ zs := (hm _).2 (List.mem_map.mpr ⟨ss.getD b 0, by rw [List.getD_eq_getElem?_getD, List.getElem?_eq_getElem hb]; exact List.getElem_mem hb, rfl⟩)
    obtain ⟨k, hk, e⟩ := List.getElem_of_mem hmem
    exact ⟨k, signP ss zs[k], by rw [List.getElem?_map, List.getElem?_eq_getElem hk]; rfl, e.symm⟩
  · rw [List.getElem?_map] at hp hq
    cases e1 : zs[i]? with
    | none => rw [e1] at hp; cases hp
    | some z1 =>
      cases e2 : zs[j]? with
      | none => rw [e2] at hq; cases hq
      | some z2 =>
        rw [e1] at hp
        rw [e2] at hq
        cases hp
        cases hq
        have pb : nI (ss.getD b 0) = z1 := pb
        have qb : nI (ss.getD b 0) = z2 := qb
        rw [← pb] at e1
        rw [← qb] at e2
        exact (List.getElem?_inj (List.getElem?_eq_some_iff.mp e1).1 nd).mp (e1.trans e2.symm)
  · obtain ⟨z, hz, rfl⟩ := List.mem_map.mp hp
    obtain ⟨s, hs, e⟩ := List.mem_map.mp ((hm z).1 hz)
    obtain ⟨b, hb, e2⟩ := List.getElem_of_mem hs
    refine ⟨b, by omega, ?_⟩
    show nI (ss.getD b 0) = z
    rw [List.getD_eq_getElem?_getD, List.getElem?_eq_getElem hb]
    show nI ss[b] = z
    rw [e2, e]
section
variable {P : Program} {w : World} {K : PySem.W.Frag} {mg : Str → Option Value} {base : Heap}
def spLook : Sp := fun vs H Q _ => ∃ (b c : Addr) (n : Nat), vs = [.ref b, vI n] ∧ Box b c H ∧ 1 ≤ n ∧ n ≤ 8 ∧ ∀ H' v L, LookAt n H' v L → LookOk n L → Kc c H H' → Box b c H' → Q v H'
theorem sc__law_look : FnScope ["_law_box_here", "_law_many", "_law_kind", "_law_parts", "_law_signs", "_law_lots", "_law_place", "_law_sign"] ["_law_box_here", "_law_many"] (defScope s__law_look) := ⟨rfl, rfl, rfl, by decide +kernel, rfl, by decide +kernel, by decide +kernel⟩
theorem ok_look (T : Tx K mg) : Has P w K mg base (He.ga K "_law_look") 3 ["_law_box_here", "_law_many"] spLook := by
  obtain ⟨⟨fd_law_pick, F_law_pick, b_law_pick⟩, kp_law_pick⟩ := ok_pick (P := P) (w := w) (base := base) T
  obtain ⟨⟨fd_law_lot, F_law_lot, b_law_lot⟩, kp_law_lot⟩ := ok_lot (P := P) (w := w) (base := base) T
  obtain ⟨⟨fd_law_from, F_law_from, b_law_from⟩, kp_law_from⟩ := ok_from (P := P) (w := w) (base := base) T
  obtain ⟨⟨fd_law_mixed, F_law_mixed, b_law_mixed⟩, kp_law_mixed⟩ := ok_mixed (P := P) (w := w) (base := base) T
  obtain ⟨fd, F⟩ := T.d__law_look
  refine ⟨⟨fd, F.ok sc__law_look (fun vs H Q E h => ?_) (fun cdv A outer s H vs Q E hr h => ?_), F.bindsN fun _ _ _ _ _ _ us hl => match us, hl with | [_, _], _ => rfl⟩, F.kp⟩
  · obtain ⟨b, c, n, rfl, _⟩ := h
    rfl
  · obtain ⟨b, c, n, rfl, B, n1, n8, h⟩ := h
    have hr_law_pick : Room 1 _ := hr.mono (by decide)
    have hr_law_lot : Room 2 _ := hr.mono (by decide)
    have hr_law_from : Room 2 _ := hr.mono (by decide)
    have hr_law_mixed : Room 2 _ := hr.mono (by decide)
    refine ⟨_, PSs.nox (pss_cons (ps_set (i := 2) sc__law_look.nd rfl (Or.inl rfl) (pe_call F_law_pick hr_law_pick rfl T.glo_law_pick kp_law_pick b_law_pick .nil pass0 (pa_cons (pv 0) (pa_cons pe_int pa_nil))))
      (pss_cons (ps_if (pt_cmpR op_eq (pv 2) pe_int (nomark _)) (pss_one (ps_ret (pe_tup (pa_cons pe_str (pa_cons (pe_call F_law_lot hr_law_lot rfl T.glo_law_lot kp_law_lot b_law_lot .nil pass0 (pa_cons (pv 0) (pa_cons (pv 1) pa_nil))) pa_nil))))) pss_nil)
      (pss_cons (ps_if (pt_cmpR op_eq (pv 2) pe_int (nomark _)) (pss_cons (ps_set (i := 3) sc__law_look.nd rfl (Or.inr rfl) (pe_call F_law_from hr_law_from rfl T.glo_law_from kp_law_from b_law_from .nil pass0 (pa_cons (pv 0) (pa_cons (pe_lst (pa_cons pe_int (pa_cons pe_int (pa_cons pe_int (pa_cons pe_int (pa_cons pe_int pa_nil)))))) pa_nil))))
      (pss_cons (ps_set (i := 4) sc__law_look.nd rfl (Or.inr rfl) (pe_lc (own := [("_law_place", 6)]) (g := (gName 6)) (tt := tYes) rfl sc__law_look.nd (pi_range1 (by rfl) T.free_range (pa_cons (pv 1) pa_nil)) (blkOk_by (by kernel_rfl)) (fun _ _ _ _ _ => (pg_name (i := 6) sc__law_look.nd rfl (Or.inl rfl))) (fun _ _ _ _ _ => pts_nil) (fun _ _ _ _ _ => (pe_call F_law_pick hr_law_pick rfl T.glo_law_pick kp_law_pick b_law_pick .nil pass0 (pa_cons (pv 0) (pa_cons (pv 3) pa_nil))))))
      (pss_cons (ps_setLc (i := 5) (own := [("_law_sign", 7)]) (g := (gName 7)) (tt := tYes) rfl sc__law_look.nd rfl rfl (sw_true rfl rfl rfl (by decide +kernel)) (piL (K := K) (pe_callB (sortS (w := w)) (by rfl) T.free_sorted (by decide +kernel) (pa_cons (pe_callTy (setLK (K := K) (w := w)) (by rfl) T.free_set (by decide +kernel) (pa_cons (pv 4) pa_nil)) pa_nil))) (blkOk_by (by kernel_rfl)) (fun _ _ _ _ _ => (pg_name (i := 7) sc__law_look.nd rfl (Or.inr rfl))) (fun _ _ _ _ _ => pts_nil) (fun _ _ _ _ _ => (pe_callTy (tupK (K := K)) (by rfl) T.free_tuple (by decide +kernel) (pa_cons (pe_lc (own := [("_law_place", 6)]) (g := (gName 6)) rfl sc__law_look.nd (pi_range1 (by rfl) T.free_range (pa_cons (pv 1) pa_nil)) (blkOk_by (by kernel_rfl)) (fun _ _ _ _ _ => (pg_name (i := 6) sc__law_look.nd rfl (Or.inl rfl))) (fun _ _ _ _ _ => (pts_one (pt_cmpR op_eq (pe_ix (ixL (K := K)) (pv 4) (pv 6) (fun _ _ => rfl)) (pv 7) (nomark _)))) (fun _ _ _ _ _ => (pv 6))) pa_nil))))
      (pss_one (ps_ret (pe_tup (pa_cons pe_str (pa_cons (pe_callTy (tupK (K := K)) (by rfl) T.free_tuple (by decide +kernel) (pa_cons (pe_call F_law_mixed hr_law_mixed rfl T.glo_law_mixed kp_law_mixed b_law_mixed .nil pass0 (pa_cons (pv 0) (pa_cons (pv 5) pa_nil))) pa_nil)) pa_nil)))))))) pss_nil)
      (pss_one (ps_ret (pe_tup (pa_cons pe_str (pa_cons (pe_call F_law_pick hr_law_pick rfl T.glo_law_pick kp_law_pick b_law_pick .nil pass0 (pa_cons (pv 0) (pa_cons (pv 1) pa_nil))) (pa_cons (pe_call F_law_from hr_law_from rfl T.glo_law_from kp_law_from b_law_from .nil pass0 (pa_cons (pv 0) (pa_cons (pe_lst (pa_cons pe_int (pa_cons pe_int (pa_cons pe_int (pa_cons pe_int (pa_cons pe_int (pa_cons pe_int (pa_cons pe_int (pa_cons pe_int pa_nil))))))))) pa_nil))) pa_nil))))))))), ?_⟩
    refine ⟨_, rfl, b, c, _, rfl, B, by decide, by decide, fun H1 i k1 B1 i0 i1 => ?_⟩
    refine ⟨_, rfl, rfl, _, rfl, ?_⟩
    refine ite2 (fun _ => ?_) (fun _ => ?_)
    · refine ⟨_, rfl, _, rfl, b, c, n, rfl, B1, n1, n8, fun H2 t p ht k2 B2 => ?_⟩
      refine ⟨(by show 2 ≤ sizeLine; decide), fun u hu => ?_⟩
      have s3 := same_upd (o := HO.tup [V.str "in", .ref t]) hu
      exact h _ (.ref u) (.lot p) ⟨u, t, rfl, upd_same, s3 _ _ ht⟩ trivial ((k1.trans k2).trans (kc_same s3)) (B2.same s3)
    refine ⟨_, rfl, rfl, _, rfl, ?_⟩
    refine ite2 (fun _ => ?_) (fun _ => ?_)
    · refine ⟨_, rfl, (by show 5 ≤ sizeLine; decide), fun l hl => ?_⟩
      have s2 := same_upd (o := HO.lst [V.int 1, V.int 2, V.int 3, V.int 4, V.int 8]) hl
      refine ⟨b, c, l, _, rfl, B1.same s2, upd_same, (B1.new hl).1, by decide, by decide, fun H3 v k3 B3 hv => ?_⟩
      obtain ⟨m, rfl, m1, m8⟩ : ∃ m : Nat, v = vI m ∧ 1 ≤ m ∧ m ≤ 8 := by
        simp only [List.mem_cons, List.not_mem_nil, or_false] at hv
        rcases hv with e | e | e | e | e <;> subst e
        · exact ⟨1, rfl, by decide, by decide⟩
        · exact ⟨2, rfl, by decide, by decide⟩
        · exact ⟨3, rfl, by decide, by decide⟩
        · exact ⟨4, rfl, by decide, by decide⟩
        · exact ⟨8, rfl, by decide, by decide⟩
      have k13 := (k1.trans (kc_same s2)).trans k3
      refine ⟨_, rfl, (n : Int), rfl, by omega, by omega, fun D hD => ?_⟩
      refine lc_relK (walk_range (lo := 0) (n := ((n : Nat) : Int).toNat)) (fun _ v _ => ∃ s : Nat, v = vI s) (by omega) B3 hD (fun _ _ _ _ h _ => h) (fun _ _ _ => trivial) ?_ ?_
      · rintro i x H4 H5 Nx hi k4 B4 ⟨rfl, rfl⟩ kk
        refine ⟨rfl, _, rfl, _, rfl, b, c, _, rfl, B4, by omega, by omega, fun H6 j k6 B6 j0 j1 => ?_⟩
        exact kk _ _ ⟨j.toNat, by show V.int j = V.int _; congr 1; omega⟩ k6 B6
      · intro H4 ys h4 ly hy k4 B4 Dc
        rw [Int.toNat_natCast] at ly
        obtain ⟨ss, l5, h5⟩ := beside (R := fun _ v (s : Nat) => v = vI s) ys 0 fun k y e => hy k y e
        have ey : ys = ss.map vI := ys_of l5 h5
        have ls : ss.length = n := by omega
        subst ey
        have k14 := k13.trans k4
        refine ⟨_, rfl, D, ss.map nI, rfl, SqL.of (by rw [← vI_map]; exact h4), by rw [List.length_map]; omega, fun d cc hd hcc _ => ?_⟩
        have s5 := same_upd (o := SetO w d (fun j => decide (j ∈ ss.map nI)) cc) hd
        rw [List.length_map] at hcc
        refine ⟨d, _, cc, rfl, upd_same, by omega, fun zs q r1 r2 r3 hq => ?_⟩
        have s6 := same_upd (o := HO.lst (zs.map V.int)) hq
        have hq6 : (L2.upd (L2.upd H4 d (SetO w d (fun j => decide (j ∈ ss.map nI)) cc)) q (.lst (zs.map V.int))) q = some (.lst (zs.map V.int)) := upd_same
        have s46 := s5.trans s6
        generalize L2.upd (L2.upd H4 d (SetO w d (fun j => decide (j ∈ ss.map nI)) cc)) q (.lst (zs.map V.int)) = H6 at s46 hq6
        clear s5 s6
        have h6 := s46 _ _ h4
        have mz : ∀ z, z ∈ zs ↔ z ∈ ss.map nI := fun z => (r2 z).trans decide_eq_true_iff
        have nz : zs.Nodup := r1.imp fun z => Int.ne_of_lt z
        refine ⟨q, rfl, ⟨_, SqL.of hq6⟩, fun D2 hD2 => ?_⟩
        have B6 := B4.same s46
        have D2c := (B6.new hD2).1
        refine lc_rel (walk_list (K := K) (a := q) (xs := zs.map V.int)) (fun k v H' => ∃ t : Addr, v = .ref t ∧ ∀ z, zs[k]? = some z → H' t = some (.tup ((lotP n (signP ss z)).map vI))) (by rw [List.length_map]; omega) hD2 (fun k v Ha Hb ⟨t, e, h'⟩ tk => ⟨t, e, fun z ez => tk _ _ (h' z ez)⟩) (fun H7 s7 => SqL.of (s7 _ _ hq6)) ?_ ?_
        · rintro i x H7 H8 Nx hi s7 ⟨rfl, hx⟩ kk
          obtain ⟨z, hz, rfl⟩ := get_mapV hx
          refine ⟨rfl, _, rfl, (n : Int), rfl, by omega, by omega, fun D3 hD3 => ?_⟩
          refine lc_filt (walk_range (lo := 0) (n := ((n : Nat) : Int).toNat)) (List.range n) (fun b => decide (nI (ss.getD b 0) = z)) (by simp) (by omega) hD3 (fun _ _ => trivial) ?_ ?_
          · rintro j b' y Ha Hb N1 N0 hb' sa ⟨rfl, rfl⟩ k1' k0'
            obtain ⟨bn, rfl⟩ : j < n ∧ b' = j := by
              obtain ⟨z1, z2⟩ := List.getElem?_eq_some_iff.mp hb'
              rw [List.getElem_range] at z2
              rw [List.length_range] at z1
              exact ⟨z1, z2.symm⟩
            have hs : ss[b']? = some (ss.getD b' 0) := by
              rw [List.getD_eq_getElem?_getD, List.getElem?_eq_getElem (by omega)]
              rfl
            refine ⟨rfl, _, rfl, _, rfl, D, _, _, _, rfl, rfl, SqL.of (sa _ _ (s7 _ _ h6)), at0 (get_map hs), ?_⟩
            refine ⟨_, rfl, rfl, _, rfl, ?_⟩
            have eb : decide (vI (ss.getD b' 0) = V.int z) = decide (nI (ss.getD b' 0) = z) := by
              rw [decide_eq_decide]
              exact ⟨fun e => V.int.inj e, fun e => by rw [← e]; rfl⟩
            show if decide (vI (ss.getD b' 0) = V.int z) = true then _ else _
            rw [eb]
            refine ite2 (fun z' => ⟨_, rfl, ?_⟩) (fun z' => k0' _ (by simpa using z') fun _ _ e => e)
            have := k1' _ z' fun _ _ e => e
            show N1 (V.int (0 + ((b' : Nat) : Int))) _
            rw [Int.zero_add]
            exact this
          · intro Ha ha sa
            refine ⟨D3, _, rfl, .inl ⟨SqL.of ha, fun t ht => ?_⟩⟩
            refine kk _ _ ⟨t, rfl, fun z' ez => ?_⟩ (sa.trans (same_upd ht))
            rw [hz] at ez
            cases ez
            rw [upd_same, filter_lot (p := signP ss z) (range_sorted n) fun b => by
              rw [List.mem_range, decide_eq_true_iff]
              rfl]
        · intro H7 ys2 h7 ly2 hy2 s7
          rw [List.length_map] at ly2
          obtain ⟨ts, lt, ht⟩ := beside (R := fun k v (t : Addr) => v = .ref t ∧ ∀ z, zs[k]? = some z → H7 t = some (.tup ((lotP n (signP ss z)).map vI))) ys2 0 fun k y e => by
            rw [Nat.zero_add]
            exact hy2 k y e
          have e2 : ys2 = (ts.zip zs).map fun q => V.ref q.1 := by
            refine ys_of (by rw [List.length_zip]; omega) fun k y a e1 e2 => ?_
            obtain ⟨z1, z2⟩ := List.getElem?_zip_eq_some.mp e2
            exact (ht k y a.1 e1 z1).1
          have hz : ∀ q ∈ ts.zip zs, H7 q.1 = some (.tup ((lotP n (signP ss q.2)).map vI)) := fun q hq => by
            obtain ⟨k, hk, e⟩ := List.getElem_of_mem hq
            have ek : (ts.zip zs)[k]? = some q := by rw [List.getElem?_eq_getElem hk, e]
            obtain ⟨z1, z2⟩ := List.getElem?_zip_eq_some.mp ek
            have yk : ys2[k]? = some (ys2[k]'(by rw [List.length_zip] at hk; omega)) := List.getElem?_eq_getElem _
            exact (ht k _ q.1 yk z1).2 q.2 (by rw [Nat.zero_add]; exact z2)
          subst e2
          have B7 := B6.same s7
          have lzs : zs.length ≤ n := by omega
          refine ⟨_, rfl, _, rfl, b, c, D2, _, rfl, B7, h7, D2c, by rw [List.length_map, List.length_zip]; omega, fun H8 p ys' pm hp pc k8 B8 => ?_⟩
          obtain ⟨qs, rfl, pq⟩ := perm_map pm
          have mq : (qs.map (·.2)).Perm zs := by
            have := pq.map (·.2)
            rwa [show (ts.zip zs).map (·.2) = zs from List.map_snd_zip (by omega)] at this
          refine ⟨p, _, rfl, .inl ⟨SqL.of hp, fun u hu => ?_⟩⟩
          have s9 := same_upd (o := HO.tup (qs.map fun q => V.ref q.1)) hu
          have hu9 : (L2.upd H8 u (.tup (qs.map fun q => V.ref q.1))) u = some (.tup (qs.map fun q => V.ref q.1)) := upd_same
          generalize L2.upd H8 u (.tup (qs.map fun q => V.ref q.1)) = H9 at s9 hu9
          refine ⟨(by show 2 ≤ sizeLine; decide), fun t ht2 => ?_⟩
          have s10 := same_upd (o := HO.tup [V.str "parts", .ref u]) ht2
          have tks : TK H7 (L2.upd H9 t (.tup [V.str "parts", .ref u])) := (k8.tk B7.lst).trans (tk_same (s9.trans s10))
          refine h _ (.ref t) (.parts ((qs.map (·.2)).map (signP ss))) ⟨t, u, qs.map (·.1), rfl, upd_same, s10 _ _ (by rw [hu9, List.map_map]; rfl), by simp, fun k a p' e1 e2 => ?_⟩ (parts_ok ls (mq.nodup_iff.mpr nz) (fun z => mq.mem_iff.trans (mz z)) (by rw [mq.length_eq]; exact lzs))
            (((k14.trans (kc_same (s46.trans s7))).trans k8).trans (kc_same (s9.trans s10))) (B8.same (s9.trans s10))
          rw [List.getElem?_map] at e1
          rw [List.getElem?_map, List.getElem?_map] at e2
          cases e : qs[k]? with
          | none => rw [e] at e1; cases e1
          | some q' =>
            rw [e] at e1 e2
            cases e1
            cases e2
            exact tks _ _ (hz q' (pq.mem_iff.mp (List.mem_of_getElem? e)))
    · refine ⟨_, rfl, _, rfl, b, c, _, rfl, B1, by omega, by omega, fun H2 x k2 B2 x0 x1 => ?_⟩
      refine ⟨_, rfl, (by show 8 ≤ sizeLine; decide), fun l hl => ?_⟩
      have s3 := same_upd (o := HO.lst [V.int 0, V.int 1, V.int 2, V.int 7, V.int 3, V.int 4, V.int 5, V.int 6]) hl
      refine ⟨b, c, l, _, rfl, B2.same s3, upd_same, (B2.new hl).1, by decide, by decide, fun H4 v k4 B4 hv => ?_⟩
      obtain ⟨m, rfl, m7⟩ := menu_small hv (by decide)
      refine ⟨(by show 3 ≤ sizeLine; decide), fun t ht => ?_⟩
      have s5 := same_upd (o := HO.tup [V.str "near", .int x, vI m]) ht
      obtain ⟨d, rfl⟩ : ∃ d : Nat, x = (d : Nat) := ⟨x.toNat, by omega⟩
      exact h _ (.ref t) (.near d m) ⟨t, rfl, upd_same⟩ ⟨by omega, m7⟩ ((((k1.trans k2).trans (kc_same s3)).trans k4).trans (kc_same s5)) (B4.same s5)
end
end RL
namespace RL
open PySem PySem.Spec PyProof.Rows L2 RLM
theorem LookAt.tk {n : Nat} {H H' : Hp} {v : V} (k : TK H H') : ∀ {L : Look}, LookAt n H v L → LookAt n H' v L
  | .lot _, ⟨t, u, e, h1, h2⟩ => ⟨t, u, e, k _ _ h1, k _ _ h2⟩
  | .parts _, ⟨t, u, us, e, h1, h2, l, h3⟩ => ⟨t, u, us, e, k _ _ h1, k _ _ h2, l, fun i a p e1 e2 => k _ _ (h3 i a p e1 e2)⟩
  | .near _ _, ⟨t, e, h1⟩ => ⟨t, e, k _ _ h1⟩
theorem TripAt.tk {n : Nat} {H H' : Hp} {q : Addr × V × Triple} (k : TK H H') (h : TripAt n H q) : TripAt n H' q := ⟨k _ _ h.1, h.2.1.tk k, h.2.2⟩
theorem StoryAt.tk {n : Nat} {H H' : Hp} {a : Addr} {p : Nat → Prop} {PS : List (Addr × List Nat)} {SN : List (Addr × V × Triple)} (k : TK H H') (h : StoryAt n H a p PS SN) : StoryAt n H' a p PS SN := by
  obtain ⟨tl, tp, ts, h1, h2, h3, h4⟩ := h.ex
  exact ⟨⟨tl, tp, ts, k _ _ h1, k _ _ h2, k _ _ h3, k _ _ h4⟩, fun q hq => ⟨k _ _ (h.pc q hq).1, (h.pc q hq).2⟩, fun q hq => ⟨(h.sn q hq).1.tk k, (h.sn q hq).2⟩, h.lp, h.ls⟩
theorem kc_lst {c a : Addr} {H H' : Hp} {xs : List V} (k : Kc c H H') (n : a ≠ c) (h : H a = some (.lst xs)) : H' a = some (.lst xs) := k _ _ n (fun _ z => by cases z) h
section
variable {P : Program} {w : World} {K : PySem.W.Frag} {mg : Str → Option Value} {base : Heap}
def spSeen : Sp := fun vs H Q _ => ∃ (b c t l D wk : Addr) (n m : Nat) (rs : List Addr) (M : Nat → Nat → Nat) (ws : List Nat), vs = [.ref b, .ref t, .ref D, .ref wk, vI m] ∧ Box b c H ∧ H t = some (.tup [vI n, .ref l]) ∧ 1 ≤ n ∧ n ≤ 8 ∧ TabAt c H D n rs M ∧ H wk = some (.lst (ws.map vI)) ∧ wk ≠ c ∧ 1 ≤ ws.length ∧ ws.length ≤ 13 ∧ (∀ a ∈ ws, a < n) ∧ m ≤ 24 ∧
  ∀ (H' : Hp) (ts : Addr) (SN : List (Addr × V × Triple)), H' ts = some (.tup (SN.map fun q => V.ref q.1)) → (∀ q ∈ SN, TripAt n H' q ∧ q.2.2.beat < ws.length) → SN.length ≤ m → Kc c H H' → Box b c H' → Q (.ref ts) H'
end
end RL
namespace RL
open PySem PySem.Spec PyProof.Rows L2 RLM
/-- any turns over a walk, whatever is done in a turn -/
theorem it_any {J : It} {n : Nat} {G : Hp → Prop} {Y : Nat → Hp → V → Hp → Prop} (w : Walk J n G Y) {B : (Hp → Prop) → V → Hp → Prop} {H0 : Hp} {Qd : Hp → Prop} (Pv : Nat → Hp → Prop) (h0 : Pv 0 H0) (hG : ∀ i H, i ≤ n → Pv i H → G H)
    (hs : ∀ i x H H', i < n → Pv i H → Y i H x H' → B (Pv (i + 1)) x H') (hd : ∀ H, Pv n H → Qd H) :
    ∃ W : Nat → Nat → Hp → Prop, (∃ m, W 0 m H0) ∧ ∀ i m H, W i m H → (J.stop i H ∧ Qd H) ∨ (J.go i H ∧ ∃ Nx : Hp → Prop, (∀ H', Nx H' → ∃ m', m' < m ∧ W (i + 1) m' H') ∧ ∀ x H', J.yld i H x H' → B Nx x H') := by
  refine ⟨fun i m H => m = n - i ∧ i ≤ n ∧ Pv i H, ⟨n, by simp, Nat.zero_le _, h0⟩, ?_⟩
  rintro i m H ⟨rfl, hi, p⟩
  have q := hG i H hi p
  by_cases lt : i < n
  · exact .inr ⟨w.goes i H lt q, Pv (i + 1), fun H' p' => ⟨n - (i + 1), by omega, rfl, lt, p'⟩, fun x H' y => hs i x H H' lt p (w.yields i H x H' lt q y)⟩
  · have e : i = n := by omega
    subst e
    exact .inl ⟨w.stops H q, hd H p⟩
theorem bf_far (n : Nat) (lp ll lf : Addr) : (bf n lp ll lf).lookup ("far" : Str) = none := by rfl
/-- spans and how far are one up to 8 -/
theorem min_far {n : Nat} {E : List (Nat × Nat)} {M : Nat → Nat → Nat} (S : Spans n E M) {a b k : Nat} (ha : a < n) (hb : b < n) (k7 : k ≤ 7) {d : Option Nat} (h : ∀ m : Int, (∃ j : Nat, d = some j ∧ (j : Int) ≤ m) ↔ Near E m a b) :
    min (M a b) (k + 1) = match d with
      | none => k + 1
      | some j => min j (k + 1) := by
  have key : ∀ m : Nat, m < 99 → (M a b ≤ m ↔ ∃ j, d = some j ∧ j ≤ m) := fun m hm => by
    have h1 := h (m : Int)
    have h2 := S.nr a b m ha hb (by omega)
    constructor
    · intro z
      obtain ⟨j, e, q⟩ := h1.2 (h2.1 (by omega))
      exact ⟨j, e, by omega⟩
    · rintro ⟨j, e, q⟩
      have := h2.2 (h1.1 ⟨j, e, by omega⟩)
      omega
  cases d with
  | none =>
    have : ¬ M a b ≤ k := fun z => by
      obtain ⟨j, e, _⟩ := (key k (by omega)).1 z
      cases e
    show min (M a b) (k + 1) = k + 1
    omega
  | some j =>
    show min (M a b) (k + 1) = min j (k + 1)
    have key2 : ∀ m : Nat, m < 99 → (M a b ≤ m ↔ j ≤ m) := fun m hm => by
      rw [key m hm]
      constructor
      · rintro ⟨i, e, q⟩
        cases e
        exact q
      · exact fun q => ⟨j, rfl, q⟩
    by_cases z : j ≤ k
    · have h1 := (key2 j (by omega)).2 (Nat.le_refl _)
      have h2 := (key2 (M a b) (by omega)).1 (Nat.le_refl _)
      omega
    · have h1 : ¬ M a b ≤ k := fun y => z ((key2 k (by omega)).1 y)
      omega
section
variable {P : Program} {w : World} {K : PySem.W.Frag} {mg : Str → Option Value} {base : Heap}
def spFar (K : PySem.W.Frag) : Sp := fun vs H Q _ => ∃ (c x : Addr) (n a b : Nat) (E : List (Nat × Nat)), vs = [.ref x, vI a, vI b] ∧ BoardAt K c H x n E ∧ a < n ∧ b < n ∧ ∀ d : Option Nat, (∀ m : Int, (∃ j : Nat, d = some j ∧ (j : Int) ≤ m) ↔ Near E m a b) → Q (vO d) H
theorem sc_Board_far : FnScope ["self", "one", "other"] ["self", "one", "other"] (defScope s_Board_far) := ⟨rfl, rfl, rfl, by decide +kernel, rfl, by decide +kernel, by decide +kernel⟩
theorem ok_far (T : Tx K mg) : Has P w K mg base (mB K "far") 4 ["self", "one", "other"] (spFar K) := by
  obtain ⟨⟨fd_check_place, F_check_place, b_check_place⟩, kp_check_place⟩ := ok_check (P := P) (w := w) (base := base) T
  obtain ⟨fd, F⟩ := T.d_Board_far
  refine ⟨⟨fd, F.ok sc_Board_far (fun vs H Q E h => ?_) (fun cdv A outer s H vs Q E hr h => ?_), F.bindsN fun _ _ _ _ _ _ us hl => match us, hl with | [_, _, _], _ => rfl⟩, F.kp⟩
  · obtain ⟨c, x, n, a, b, E, rfl, _⟩ := h
    rfl
  · obtain ⟨c, x, n, a, b, E, rfl, B, an, bn, h⟩ := h
    have hr_check_place : Room 3 _ := hr.mono (by decide)
    refine ⟨_, PSs.nox (pss_cons (ps_expr (pe_meth (pv 0) T.cl T.m_check_place F_check_place hr_check_place b_check_place .nil pass0 (pa_cons (pv 1) pa_nil)))
      (pss_cons (ps_expr (pe_meth (pv 0) T.cl T.m_check_place F_check_place hr_check_place b_check_place .nil pass0 (pa_cons (pv 2) pa_nil)))
      (pss_one (ps_ret (pe_ix (ixL (K := K)) (pe_ix (ixL (K := K)) (fldK (K := K) (pv 0) rfl) (pv 1) (fun _ _ => rfl)) (pv 2) (fun _ _ => rfl)))))), ?_⟩
    obtain ⟨dx, lp, ll, lf, L, ls, U, hx, h2, h3, h4, h5, h6, hlf, lfc, lU, eU⟩ := B.ex
    refine ⟨_, rfl, x, dx, _, rfl, hx, bf_check _ _ _ _, _, rfl, c, x, n, a, E, rfl, B, an, ?_⟩
    refine ⟨_, rfl, x, dx, _, rfl, hx, bf_check _ _ _ _, _, rfl, c, x, n, b, E, rfl, B, bn, ?_⟩
    obtain ⟨u, hu⟩ : ∃ u, U[a]? = some u := ⟨_, List.getElem?_eq_getElem (by rw [lU]; exact an)⟩
    obtain ⟨hul, uc, FF⟩ := eU a u hu
    have hb : u.2[b]? = some (u.2[b]'(by rw [FF.1]; exact bn)) := List.getElem?_eq_getElem _
    refine ⟨_, rfl, x, _, dx, _, _, rfl, hx, T.cl, T.n_fars, bf_fars _ _ _ _, _, rfl, lf, _, _, _, rfl, rfl, SqL.of hlf, atI_nat (get_map hu), ?_⟩
    exact ⟨_, rfl, u.1, _, _, _, rfl, rfl, SqL.of hul, atI_nat (get_map hb), h _ fun m => FF.2 b _ hb m⟩
def spNear (K : PySem.W.Frag) : Sp := fun vs H Q _ => ∃ (c x : Addr) (n a b k : Nat) (E : List (Nat × Nat)) (M : Nat → Nat → Nat), vs = [.ref x, vI a, vI b, vI k] ∧ BoardAt K c H x n E ∧ Spans n E M ∧ a < n ∧ b < n ∧ k ≤ 7 ∧ Q (vI (min (M a b) (k + 1))) H
theorem sc_near_answer : FnScope ["board", "place", "goal", "most", "far"] ["board", "place", "goal", "most"] (defScope s_near_answer) := ⟨rfl, rfl, rfl, by decide +kernel, rfl, by decide +kernel, by decide +kernel⟩
theorem ok_near (T : Tx K mg) : Has P w K mg base (He.ga K "near_answer") 5 ["board", "place", "goal", "most"] (spNear K) := by
  obtain ⟨⟨fd_far, F_far, b_far⟩, kp_far⟩ := ok_far (P := P) (w := w) (base := base) T
  obtain ⟨fd, F⟩ := T.d_near_answer
  refine ⟨⟨fd, F.ok sc_near_answer (fun vs H Q E h => ?_) (fun cdv A outer s H vs Q E hr h => ?_), F.bindsN fun _ _ _ _ _ _ us hl => match us, hl with | [_, _, _, _], _ => rfl⟩, F.kp⟩
  · obtain ⟨c, x, n, a, b, k, E, M, rfl, _⟩ := h
    rfl
  · obtain ⟨c, x, n, a, b, k, E, M, rfl, B, S, an, bn, k7, h⟩ := h
    have hr_far : Room 4 _ := hr.mono (by decide)
    refine ⟨_, PSs.nox (pss_cons (ps_set (i := 4) sc_near_answer.nd rfl (Or.inl rfl) (pe_meth (pv 0) T.cl T.m_far F_far hr_far b_far .nil pass0 (pa_cons (pv 1) (pa_cons (pv 2) pa_nil))))
      (pss_one (ps_ret (pe_ifExp (pt_cmpR op_isN (pv 4) pe_non (nomark _)) (pe_op op_add (pv 3) pe_int) (pe_callB (call_min2 rfl) (by rfl) T.free_min (by decide +kernel) (pa_cons (pv 4) (pa_cons (pe_op op_add (pv 3) pe_int) pa_nil))))))), ?_⟩
    obtain ⟨dx, lp, ll, lf, hx⟩ := B.obj
    refine ⟨_, rfl, x, dx, _, rfl, hx, bf_far _ _ _ _, _, rfl, _, rfl, c, x, n, a, b, E, rfl, B, an, bn, fun d hd => ?_⟩
    have e := min_far S an bn k7 hd
    rw [e] at h
    cases d with
    | none =>
      refine ⟨_, rfl, rfl, _, rfl, iteT ?_⟩
      exact ⟨_, rfl, _, _, rfl, rfl, h⟩
    | some j =>
      refine ⟨_, rfl, rfl, _, rfl, iteF ?_⟩
      refine ⟨_, rfl, _, rfl, _, _, rfl, rfl, _, _, rfl, ?_⟩
      have e2 : V.int (if ((k : Nat) : Int) + 1 < ((j : Nat) : Int) then ((k : Nat) : Int) + 1 else ((j : Nat) : Int)) = vI (min j (k + 1)) := by
        unfold vI
        congr 1
        split <;> omega
      show Q (V.int (if ((k : Nat) : Int) + 1 < ((j : Nat) : Int) then ((k : Nat) : Int) + 1 else ((j : Nat) : Int))) H
      rw [e2]
      exact h
end
end RL
namespace RL
open PySem PySem.Spec PyProof.Rows L2 RLM
/-- the places of all parts, in a row -/
noncomputable def allP (n : Nat) (ps : List (Nat → Prop)) : List Nat := ps.flatMap (lotP n)
theorem allP_perm {n : Nat} {ps : List (Nat → Prop)} (h : LookOk n (.parts ps)) : (allP n ps).Perm (List.range n) := by
  obtain ⟨_, cov, dis, _⟩ := h
  have nd : (allP n ps).Nodup := by
    unfold allP
    refine List.pairwise_flatMap.mpr ⟨fun p _ => (lotP_sorted n p).imp fun z => Nat.ne_of_lt z, ?_⟩
    rw [List.pairwise_iff_getElem]
    intro i j hi hj ij a ha b hb e
    subst e
    have h1 := mem_lotP.mp ha
    have h2 := mem_lotP.mp hb
    have := dis i j _ _ a (List.getElem?_eq_getElem hi) (List.getElem?_eq_getElem hj) h1.1 h1.2 h2.2
    omega
  refine (List.perm_ext_iff_of_nodup nd List.nodup_range).mpr fun b => ?_
  rw [List.mem_range]
  unfold allP
  rw [List.mem_flatMap]
  constructor
  · rintro ⟨p, _, hb⟩
    exact (mem_lotP.mp hb).1
  · intro bn
    obtain ⟨k, p, e, pb⟩ := cov b bn
    exact ⟨p, List.mem_of_getElem? e, mem_lotP.mpr ⟨bn, pb⟩⟩
theorem allP_take {n : Nat} {ps : List (Nat → Prop)} {i : Nat} {p : Nat → Prop} (h : ps[i]? = some p) : allP n (ps.take (i + 1)) = allP n (ps.take i) ++ lotP n p := by
  rw [List.take_add_one, h]
  unfold allP
  rw [List.flatMap_append]
  simp
theorem allP_len {n : Nat} {ps : List (Nat → Prop)} (h : LookOk n (.parts ps)) (i : Nat) : (allP n (ps.take i)).length ≤ n := by
  have e := (allP_perm h).length_eq
  rw [List.length_range] at e
  have : allP n ps = allP n (ps.take i) ++ allP n (ps.drop i) := by
    unfold allP
    rw [← List.flatMap_append, List.take_append_drop]
  rw [this, List.length_append] at e
  omega
section
variable {P : Program} {w : World} {K : PySem.W.Frag} {mg : Str → Option Value} {base : Heap}
def spFilled (K : PySem.W.Frag) : Sp := fun vs H Q _ => ∃ (c x t : Addr) (n : Nat) (E : List (Nat × Nat)) (p : Nat → Prop), vs = [.ref x, .ref t] ∧ BoardAt K c H x n E ∧ H t = some (.tup ((lotP n p).map vI)) ∧ (∃ b, b < n ∧ p b) ∧ ∀ H', Same H H' → Q (.bl true) H'
theorem sc_is_filled_lot : FnScope ["board", "lot"] ["board", "lot"] (defScope s_is_filled_lot) := ⟨rfl, rfl, rfl, by decide +kernel, rfl, by decide +kernel, by decide +kernel⟩
theorem ok_filled (T : Tx K mg) : Has P w K mg base (He.ga K "is_filled_lot") 4 ["board", "lot"] (spFilled K) := by
  obtain ⟨⟨fd_is_lot, F_is_lot, b_is_lot⟩, kp_is_lot⟩ := ok_is_lot (P := P) (w := w) (base := base) T
  obtain ⟨fd, F⟩ := T.d_is_filled_lot
  refine ⟨⟨fd, F.ok sc_is_filled_lot (fun vs H Q E h => ?_) (fun cdv A outer s H vs Q E hr h => ?_), F.bindsN fun _ _ _ _ _ _ us hl => match us, hl with | [_, _], _ => rfl⟩, F.kp⟩
  · obtain ⟨c, x, t, n, E, p, rfl, _⟩ := h
    rfl
  · obtain ⟨c, x, t, n, E, p, rfl, B, ht, ⟨b, bn, pb⟩, h⟩ := h
    have hr_is_lot : Room 3 _ := hr.mono (by decide)
    refine ⟨_, PSs.nox (pss_one (ps_ret (pe_and (pe_call F_is_lot hr_is_lot rfl T.glo_is_lot kp_is_lot b_is_lot .nil pass0 (pa_cons (pv 0) (pa_cons (pv 1) pa_nil))) (pe_one (pe_cmpR op_gt (pe_callB (lenK (K := K)) (by rfl) T.free_len (by decide +kernel) (pa_cons (pv 1) pa_nil)) pe_int (nomark _)))))), ?_⟩
    refine ⟨_, rfl, _, rfl, c, x, t, n, E, p, rfl, B, ht, fun H1 s1 => ⟨true, rfl, iteT ?_⟩⟩
    refine ⟨_, rfl, t, _, rfl, .inr (SqT.of (s1 _ _ ht)), _, _, rfl, rfl, ?_⟩
    have pos : 0 < ((lotP n p).map vI).length := by
      rw [List.length_map]
      exact List.length_pos_of_mem (mem_lotP.mpr ⟨bn, pb⟩)
    show Q (V.bl (decide ((0 : Int) < _))) H1
    rw [decide_eq_true (by omega)]
    exact h _ s1
def spParts (K : PySem.W.Frag) : Sp := fun vs H Q _ => ∃ (c x u : Addr) (n : Nat) (E : List (Nat × Nat)) (us : List Addr) (ps : List (Nat → Prop)), vs = [.ref x, .ref u] ∧ BoardAt K c H x n E ∧ H u = some (.tup (us.map V.ref)) ∧ us.length = ps.length ∧ (∀ (k : Nat) (a : Addr) (p : Nat → Prop), us[k]? = some a → ps[k]? = some p → H a = some (.tup ((lotP n p).map vI))) ∧ LookOk n (.parts ps) ∧ ∀ H', Same H H' → Q (.bl true) H'
theorem sc_are_parts : FnScope ["board", "lots", "lot", "place"] ["board", "lots"] (defScope s_are_parts) := ⟨rfl, rfl, rfl, by decide +kernel, rfl, by decide +kernel, by decide +kernel⟩
theorem ok_parts (T : Tx K mg) : Has P w K mg base (He.ga K "are_parts") 5 ["board", "lots"] (spParts K) := by
  obtain ⟨⟨fd_is_filled_lot, F_is_filled_lot, b_is_filled_lot⟩, kp_is_filled_lot⟩ := ok_filled (P := P) (w := w) (base := base) T
  obtain ⟨⟨fd_len, F_len, b_len⟩, kp_len⟩ := ok_len (P := P) (w := w) (base := base) T
  obtain ⟨fd, F⟩ := T.d_are_parts
  refine ⟨⟨fd, F.ok sc_are_parts (fun vs H Q E h => ?_) (fun cdv A outer s H vs Q E hr h => ?_), F.bindsN fun _ _ _ _ _ _ us hl => match us, hl with | [_, _], _ => rfl⟩, F.kp⟩
  · obtain ⟨c, x, u, n, E, us, ps, rfl, _⟩ := h
    rfl
  · obtain ⟨c, x, u, n, E, us, ps, rfl, B, hu, lu, hus, LO, h⟩ := h
    have hr_is_filled_lot : Room 4 _ := hr.mono (by decide)
    have hr_len : Room 2 _ := hr.mono (by decide)
    refine ⟨_, PSs.nox (pss_cons (ps_if (pt_not (pt_val (pe_callB (isiK (K := K)) (by rfl) T.free_isinstance (by decide +kernel) (pa_cons (pv 1) (pa_cons (pe_bltn (v := .ty "tuple") (u := .type "tuple") (by rfl) T.free_tuple (by decide +kernel) rfl) pa_nil))))) (pss_one (ps_ret pe_bl)) pss_nil)
      (pss_cons (ps_if (pt_not (pt_val (pe_callB (allK (K := K)) (by rfl) T.free_all (by decide +kernel) (pa_cons (pe_lc (own := [("lot", 2)]) (g := (gName 2)) (tt := tYes) rfl sc_are_parts.nd (piT (K := K) (pv 1)) (blkOk_by (by kernel_rfl)) (fun _ _ _ _ _ => (pg_name (i := 2) sc_are_parts.nd rfl (Or.inl rfl))) (fun _ _ _ _ _ => pts_nil) (fun _ _ _ _ _ => (pe_call F_is_filled_lot hr_is_filled_lot rfl T.glo_is_filled_lot kp_is_filled_lot b_is_filled_lot .nil pass0 (pa_cons (pv 0) (pa_cons (pv 2) pa_nil))))) pa_nil)))) (pss_one (ps_ret pe_bl)) pss_nil)
      (pss_one (ps_ret (pe_cmpR (eqD (K := K) hr.units) (pe_callB (sortLK (K := K)) (by rfl) T.free_sorted (by decide +kernel) (pa_cons (pe_lc2 (own := [("lot", 2), ("place", 3)]) (vs1 := [3]) (g := (gName 2)) (tt := tYes) (g1 := (gName 3)) (tt1 := tYes) rfl sc_are_parts.nd (piT (K := K) (pv 1)) (blkOk_by (by kernel_rfl)) (by decide) (fun _ _ _ _ _ => (pg_name (i := 2) sc_are_parts.nd rfl (Or.inl rfl))) (fun _ _ _ _ _ => pts_nil) (fun _ _ _ _ _ => (piT (K := K) (pv 2))) (fun _ _ _ _ _ => (pg_name (i := 3) sc_are_parts.nd rfl (Or.inl rfl))) (fun _ _ _ _ _ => pts_nil) (fun _ _ _ _ _ => (pv 3))) pa_nil)) (pe_listRg rfl (by rfl) T.free_list (prg_1 (by rfl) T.free_range (pe_callB (call_lenOwn T.m_len F_len b_len hr_len) (by rfl) T.free_len (by decide +kernel) (pa_cons (pv 0) pa_nil)))) (nomark _)))))), ?_⟩
    have n8 := B.hi
    obtain ⟨lps, cov, dis, non⟩ := id LO
    refine ⟨_, rfl, _, _, _, _, true, rfl, .ty _, .base (.tup hu), kit_ty (by decide +kernel), true, rfl, iteF ?_⟩
    refine ⟨_, rfl, u, rfl, ⟨_, SqT.of hu⟩, fun D hD => ?_⟩
    refine lc_val (walk_tup (K := K) (a := u) (xs := us.map V.ref)) (fun _ => .bl true) (by rw [List.length_map]; omega) hD (fun H1 s1 => SqT.of (s1 _ _ hu)) ?_ ?_
    · rintro i y H1 H2 Nx hi s1 ⟨rfl, hy⟩ k
      obtain ⟨a, ha, rfl⟩ := get_mapV hy
      have il : i < ps.length := by
        have := (List.getElem?_eq_some_iff.mp ha).1
        omega
      have hp : ps[i]? = some ps[i] := List.getElem?_eq_getElem il
      have hl := s1 _ _ (hus i a _ ha hp)
      obtain ⟨b, bn, pb⟩ := non _ (List.mem_of_getElem? hp)
      exact ⟨rfl, _, rfl, _, rfl, c, x, a, n, E, _, rfl, B.same s1, hl, ⟨b, bn, pb⟩, fun H3 s3 => k _ s3⟩
    · intro H1 h1 s1
      refine ⟨D, (List.range (us.map V.ref).length).map fun _ => true, rfl, SqL.of (by rw [h1, List.map_map]; rfl), _, rfl, ?_⟩
      rw [all_true (by simp)]
      refine iteF ?_
      have hu1 := s1 _ _ hu
      refine ⟨_, rfl, u, rfl, ⟨_, SqT.of hu1⟩, fun D2 hD2 => ?_⟩
      refine it_any (walk_tup (K := K) (a := u) (xs := us.map V.ref)) (fun i H2 => H2 D2 = some (.lst ((allP n (ps.take i)).map vI)) ∧ Same H1 H2) ⟨upd_same, same_upd hD2⟩ (fun i H2 _ ⟨_, s2⟩ => SqT.of (s2 _ _ hu1)) ?_ ?_
      · rintro i y H2 _ hi ⟨h2, s2⟩ ⟨rfl, hy⟩
        obtain ⟨a, ha, rfl⟩ := get_mapV hy
        have il : i < ps.length := by
          have := (List.getElem?_eq_some_iff.mp ha).1
          omega
        have hp : ps[i]? = some ps[i] := List.getElem?_eq_getElem il
        have s12 := s1.trans s2
        have hl := s12 _ _ (hus i a _ ha hp)
        refine ⟨rfl, yesT ?_⟩
        refine ⟨_, rfl, a, rfl, ⟨_, SqT.of hl⟩, ?_⟩
        refine it_any (walk_tup (K := K) (a := a) (xs := (lotP n ps[i]).map vI)) (fun j H3 => H3 D2 = some (.lst ((allP n (ps.take i) ++ (lotP n ps[i]).take j).map vI)) ∧ Same H1 H3 ∧ H3 a = some (.tup ((lotP n ps[i]).map vI))) ⟨by rw [List.take_zero, List.append_nil]; exact h2, s2, hl⟩ (fun j H3 _ z => SqT.of z.2.2) ?_ ?_
        · rintro j z H3 _ hj ⟨h3, s3, ha3⟩ ⟨rfl, hz⟩
          obtain ⟨b, hb, rfl⟩ := get_vI hz
          refine ⟨rfl, yesT ?_⟩
          have le := allP_len LO (i + 1)
          rw [allP_take hp, List.length_append] at le
          refine ⟨_, rfl, _, h3, ?_, ?_, same_mut s3 hD2, ?_⟩
          · rw [List.length_map, List.length_append, List.length_take]
            exact Nat.lt_of_le_of_lt (show _ ≤ 16 by omega) (by decide)
          · rw [upd_same, List.take_add_one, hb, ← List.append_assoc, List.map_append (l₁ := allP n (ps.take i) ++ (lotP n ps[i]).take j)]
            rfl
          · rw [upd_ne (ne_of ha3 h3 (by intro z; cases z))]
            exact ha3
        · rintro H3 ⟨h3, s3, _⟩
          rw [List.length_map, List.take_length, ← allP_take hp] at h3
          exact ⟨h3, s3⟩
      · rintro H2 ⟨h2, s2⟩
        rw [List.length_map, lu, List.take_length] at h2
        have pm := allP_perm LO
        have lp : (allP n ps).length = n := by rw [pm.length_eq, List.length_range]
        refine ⟨D2, (allP n ps).map nI, rfl, SqL.of (by rw [← vI_map]; exact h2), by rw [List.length_map]; omega, fun ms q pm2 so hq => ?_⟩
        have em := sorted_order pm pm2 so
        subst em
        have s3 := same_upd (o := HO.lst (((List.range n).map nI).map V.int)) hq
        have hq3 : (upd H2 q (.lst (((List.range n).map nI).map V.int))) q = some (.lst (((List.range n).map nI).map V.int)) := upd_same
        generalize upd H2 q (.lst (((List.range n).map nI).map V.int)) = H3 at s3 hq3
        have s13 := (s1.trans s2).trans s3
        have B3 := B.same s13
        obtain ⟨dx, q1, q2, q3, hx⟩ := B3.obj
        refine ⟨_, rfl, x, dx, _, rfl, hx, c, x, n, E, rfl, B3, (n : Int), rfl, by omega, by omega, (n : Int), rfl, RgOk.of_le (by decide) (by omega) (by decide) (by omega), fun r hr => ?_⟩
        have s4 := same_upd (o := HO.lst (rgV 0 (n : Int))) hr
        have er : rgV 0 (n : Int) = ((List.range n).map nI).map V.int := by rw [rg_range, vI_map]
        refine ⟨.list (((List.range n).map nI).map .int), .list (((List.range n).map nI).map .int), .lst (SqL.of (s4 _ _ hq3)) (dp_ints _), .lst (SqL.of (by rw [upd_same, er])) (dp_ints _), shaped_ints _, shaped_ints _, ?_⟩
        rw [SeqAt.eqv_refl _ (SeqAt.canLay_of_shaped (shaped_ints _))]
        exact h _ (s13.trans s4)
end
end RL
namespace RL
open PySem PySem.Spec PyProof.Rows L2 RLM
section
variable {P : Program} {w : World} {K : PySem.W.Frag} {mg : Str → Option Value} {base : Heap}
def spIsLook (K : PySem.W.Frag) : Sp := fun vs H Q _ => ∃ (c x : Addr) (v : V) (n : Nat) (E : List (Nat × Nat)) (L : Look), vs = [.ref x, v] ∧ BoardAt K c H x n E ∧ LookAt n H v L ∧ LookOk n L ∧ ∀ H', Same H H' → Q (.bl true) H'
theorem sc_is_look : FnScope ["board", "look"] ["board", "look"] (defScope s_is_look) := ⟨rfl, rfl, rfl, by decide +kernel, rfl, by decide +kernel, by decide +kernel⟩
theorem ok_is_look (T : Tx K mg) : Has P w K mg base (He.ga K "is_look") 6 ["board", "look"] (spIsLook K) := by
  obtain ⟨⟨fd_is_lot, F_is_lot, b_is_lot⟩, kp_is_lot⟩ := ok_is_lot (P := P) (w := w) (base := base) T
  obtain ⟨⟨fd_are_parts, F_are_parts, b_are_parts⟩, kp_are_parts⟩ := ok_parts (P := P) (w := w) (base := base) T
  obtain ⟨⟨fd_is_between, F_is_between, b_is_between⟩, kp_is_between⟩ := ok_is_between (P := P) (w := w) (base := base) T
  obtain ⟨⟨fd_len, F_len, b_len⟩, kp_len⟩ := ok_len (P := P) (w := w) (base := base) T
  obtain ⟨fd, F⟩ := T.d_is_look
  refine ⟨⟨fd, F.ok sc_is_look (fun vs H Q E h => ?_) (fun cdv A outer s H vs Q E hr h => ?_), F.bindsN fun _ _ _ _ _ _ us hl => match us, hl with | [_, _], _ => rfl⟩, F.kp⟩
  · obtain ⟨c, x, v, n, E, L, rfl, _⟩ := h
    rfl
  · obtain ⟨c, x, v, n, E, L, rfl, B, LA, LO, h⟩ := h
    have hr_is_lot : Room 3 _ := hr.mono (by decide)
    have hr_are_parts : Room 5 _ := hr.mono (by decide)
    have hr_is_between : Room 2 _ := hr.mono (by decide)
    have hr_len : Room 2 _ := hr.mono (by decide)
    refine ⟨_, PSs.nox (pss_cons (ps_if (PW.pt (pw_or (pt_not (pt_val (pe_callB (isiK (K := K)) (by rfl) T.free_isinstance (by decide +kernel) (pa_cons (pv 1) (pa_cons (pe_bltn (v := .ty "tuple") (u := .type "tuple") (by rfl) T.free_tuple (by decide +kernel) rfl) pa_nil))))) (pw_or1 (pt_cmpR op_eq (pe_callB (lenK (K := K)) (by rfl) T.free_len (by decide +kernel) (pa_cons (pv 1) pa_nil)) pe_int (nomark _))))) (pss_one (ps_ret pe_bl)) pss_nil)
      (pss_cons (ps_if (pt_cmpR op_eq (pe_ix (ixT (K := K)) (pv 1) pe_int (fun _ _ => rfl)) pe_str (nomark _)) (pss_one (ps_ret (pe_and (pe_cmpR op_eq (pe_callB (lenK (K := K)) (by rfl) T.free_len (by decide +kernel) (pa_cons (pv 1) pa_nil)) pe_int (nomark _)) (pe_one (pe_call F_is_lot hr_is_lot rfl T.glo_is_lot kp_is_lot b_is_lot .nil pass0 (pa_cons (pv 0) (pa_cons (pe_ix (ixT (K := K)) (pv 1) pe_int (fun _ _ => rfl)) pa_nil))))))) pss_nil)
      (pss_cons (ps_if (pt_cmpR op_eq (pe_ix (ixT (K := K)) (pv 1) pe_int (fun _ _ => rfl)) pe_str (nomark _)) (pss_one (ps_ret (pe_and (pe_cmpR op_eq (pe_callB (lenK (K := K)) (by rfl) T.free_len (by decide +kernel) (pa_cons (pv 1) pa_nil)) pe_int (nomark _)) (pe_one (pe_call F_are_parts hr_are_parts rfl T.glo_are_parts kp_are_parts b_are_parts .nil pass0 (pa_cons (pv 0) (pa_cons (pe_ix (ixT (K := K)) (pv 1) pe_int (fun _ _ => rfl)) pa_nil))))))) pss_nil)
      (pss_cons (ps_if (pt_cmpR op_eq (pe_ix (ixT (K := K)) (pv 1) pe_int (fun _ _ => rfl)) pe_str (nomark _)) (pss_one (ps_ret (pe_and (pe_cmpR op_eq (pe_callB (lenK (K := K)) (by rfl) T.free_len (by decide +kernel) (pa_cons (pv 1) pa_nil)) pe_int (nomark _)) (pe_and (pe_call F_is_between hr_is_between rfl T.glo_is_between kp_is_between b_is_between .nil pass0 (pa_cons (pe_ix (ixT (K := K)) (pv 1) pe_int (fun _ _ => rfl)) (pa_cons pe_int (pa_cons (pe_op op_sub (pe_callB (call_lenOwn T.m_len F_len b_len hr_len) (by rfl) T.free_len (by decide +kernel) (pa_cons (pv 0) pa_nil)) pe_int) pa_nil)))) (pe_one (pe_call F_is_between hr_is_between rfl T.glo_is_between kp_is_between b_is_between .nil pass0 (pa_cons (pe_ix (ixT (K := K)) (pv 1) pe_int (fun _ _ => rfl)) (pa_cons pe_int (pa_cons (pe_glob (v := .int 7) rfl T.glob_MOST_NEAR.choose_spec ⟨_, rfl⟩) pa_nil))))))))) pss_nil)
      (pss_one (ps_ret pe_bl)))))), ?_⟩
    have n8 := B.hi
    have n1 := B.lo
    cases L with
    | lot p =>
      obtain ⟨t, u, rfl, ht, hu⟩ := LA
      refine ⟨_, rfl, _, _, _, _, true, rfl, .ty _, .base (.tup ht), kit_ty (by decide +kernel), true, rfl, iteF ?_⟩
      refine ⟨_, rfl, t, _, rfl, .inr (SqT.of ht), rfl, _, rfl, iteF ?_⟩
      refine ⟨_, rfl, t, _, 0, _, rfl, rfl, SqT.of ht, rfl, rfl, _, rfl, iteT ?_⟩
      refine ⟨_, rfl, t, _, rfl, .inr (SqT.of ht), rfl, _, rfl, iteT ?_⟩
      exact ⟨_, rfl, _, rfl, t, _, 1, _, rfl, rfl, SqT.of ht, rfl, c, x, u, n, E, p, rfl, B, hu, h⟩
    | parts ps =>
      obtain ⟨t, u, us, rfl, ht, hu, lu, hus⟩ := LA
      refine ⟨_, rfl, _, _, _, _, true, rfl, .ty _, .base (.tup ht), kit_ty (by decide +kernel), true, rfl, iteF ?_⟩
      refine ⟨_, rfl, t, _, rfl, .inr (SqT.of ht), rfl, _, rfl, iteF ?_⟩
      refine ⟨_, rfl, t, _, 0, _, rfl, rfl, SqT.of ht, rfl, rfl, _, rfl, iteF ?_⟩
      refine ⟨_, rfl, t, _, 0, _, rfl, rfl, SqT.of ht, rfl, rfl, _, rfl, iteT ?_⟩
      refine ⟨_, rfl, t, _, rfl, .inr (SqT.of ht), rfl, _, rfl, iteT ?_⟩
      exact ⟨_, rfl, _, rfl, t, _, 1, _, rfl, rfl, SqT.of ht, rfl, c, x, u, n, E, us, ps, rfl, B, hu, lu, hus, LO, h⟩
    | near d k =>
      obtain ⟨t, rfl, ht⟩ := LA
      refine ⟨_, rfl, _, _, _, _, true, rfl, .ty _, .base (.tup ht), kit_ty (by decide +kernel), true, rfl, iteF ?_⟩
      refine ⟨_, rfl, t, _, rfl, .inr (SqT.of ht), rfl, _, rfl, iteF ?_⟩
      refine ⟨_, rfl, t, _, 0, _, rfl, rfl, SqT.of ht, rfl, rfl, _, rfl, iteF ?_⟩
      refine ⟨_, rfl, t, _, 0, _, rfl, rfl, SqT.of ht, rfl, rfl, _, rfl, iteF ?_⟩
      refine ⟨_, rfl, t, _, 0, _, rfl, rfl, SqT.of ht, rfl, rfl, _, rfl, iteT ?_⟩
      refine ⟨_, rfl, t, _, rfl, .inr (SqT.of ht), rfl, _, rfl, iteT ?_⟩
      obtain ⟨dx, q1, q2, q3, hx⟩ := B.obj
      have k1 := LO.1
      have k2 := LO.2
      refine ⟨_, rfl, t, _, 1, _, rfl, rfl, SqT.of ht, rfl, _, rfl, x, dx, _, rfl, hx, c, x, n, E, rfl, B, (n : Int), rfl, by omega, by omega, _, _, rfl, rfl, _, _, _, rfl, _, rfl, ?_⟩
      show if decide ((0 : Int) ≤ (d : Nat) ∧ ((d : Nat) : Int) ≤ (n : Int) - 1) = true then _ else _
      rw [decide_eq_true (show (0 : Int) ≤ (d : Nat) ∧ ((d : Nat) : Int) ≤ (n : Int) - 1 from ⟨by omega, by omega⟩)]
      refine iteT ?_
      refine ⟨_, rfl, t, _, 2, _, rfl, rfl, SqT.of ht, rfl, _, _, _, rfl, ?_⟩
      rw [decide_eq_true (show (0 : Int) ≤ (k : Nat) ∧ ((k : Nat) : Int) ≤ 7 from ⟨by omega, by omega⟩)]
      exact h H fun _ _ e => e
def spAnswers (K : PySem.W.Frag) : Sp := fun vs H Q _ => ∃ (c x : Addr) (v : V) (n : Nat) (E : List (Nat × Nat)) (M : Nat → Nat → Nat) (L : Look), vs = [.ref x, v] ∧ BoardAt K c H x n E ∧ Spans n E M ∧ LookAt n H v L ∧ LookOk n L ∧ ∀ H' t, H' t = some (.tup (((List.range n).map (ans M L)).map vI)) → Same H H' → Q (.ref t) H'
theorem sc_answers : FnScope ["board", "look", "places", "place", "number", "lot"] ["board", "look"] (defScope s_answers) := ⟨rfl, rfl, rfl, by decide +kernel, rfl, by decide +kernel, by decide +kernel⟩
theorem ok_answers (T : Tx K mg) : Has P w K mg base (He.ga K "answers") 7 ["board", "look"] (spAnswers K) := by
  obtain ⟨⟨fd_is_look, F_is_look, b_is_look⟩, kp_is_look⟩ := ok_is_look (P := P) (w := w) (base := base) T
  obtain ⟨⟨fd_near_answer, F_near_answer, b_near_answer⟩, kp_near_answer⟩ := ok_near (P := P) (w := w) (base := base) T
  obtain ⟨⟨fd_len, F_len, b_len⟩, kp_len⟩ := ok_len (P := P) (w := w) (base := base) T
  obtain ⟨fd, F⟩ := T.d_answers
  refine ⟨⟨fd, F.ok sc_answers (fun vs H Q E h => ?_) (fun cdv A outer s H vs Q E hr h => ?_), F.bindsN fun _ _ _ _ _ _ us hl => match us, hl with | [_, _], _ => rfl⟩, F.kp⟩
  · obtain ⟨c, x, v, n, E, M, L, rfl, _⟩ := h
    rfl
  · obtain ⟨c, x, v, n, E, M, L, rfl, B0, S, LA0, LO, h0⟩ := h
    have hr_is_look : Room 6 _ := hr.mono (by decide)
    have hr_near_answer : Room 5 _ := hr.mono (by decide)
    have hr_len : Room 2 _ := hr.mono (by decide)
    refine ⟨_, PSs.nox (pss_cons (ps_if (pt_not (pt_val (pe_call F_is_look hr_is_look rfl T.glo_is_look kp_is_look b_is_look .nil pass0 (pa_cons (pv 0) (pa_cons (pv 1) pa_nil))))) (pss_one ps_never) pss_nil)
      (pss_cons (ps_set (i := 2) sc_answers.nd rfl (Or.inl rfl) (pe_listRg rfl (by rfl) T.free_list (prg_1 (by rfl) T.free_range (pe_callB (call_lenOwn T.m_len F_len b_len hr_len) (by rfl) T.free_len (by decide +kernel) (pa_cons (pv 0) pa_nil)))))
      (pss_cons (ps_if (pt_cmpR op_eq (pe_ix (ixT (K := K)) (pv 1) pe_int (fun _ _ => rfl)) pe_str (nomark _)) (pss_one (ps_ret (pe_callTy (tupK (K := K)) (by rfl) T.free_tuple (by decide +kernel) (pa_cons (pe_lc (own := [("place", 3)]) (g := (gName 3)) (tt := tYes) rfl sc_answers.nd (piL (K := K) (pv 2)) (blkOk_by (by kernel_rfl)) (fun _ _ _ _ _ => (pg_name (i := 3) sc_answers.nd rfl (Or.inl rfl))) (fun _ _ _ _ _ => pts_nil) (fun _ _ _ _ _ => (pe_ifExp (pt_cmpR (inSq (K := K)) (pv 3) (pe_ix (ixT (K := K)) (pv 1) pe_int (fun _ _ => rfl)) (by rfl)) pe_int pe_int))) pa_nil)))) pss_nil)
      (pss_cons (ps_if (pt_cmpR op_eq (pe_ix (ixT (K := K)) (pv 1) pe_int (fun _ _ => rfl)) pe_str (nomark _)) (pss_one (ps_ret (pe_callTy (tupK (K := K)) (by rfl) T.free_tuple (by decide +kernel) (pa_cons (pe_lc2 (own := [("place", 3), ("number", 4), ("lot", 5)]) (vs1 := [4, 5]) (g := (gName 3)) (tt := tYes) rfl sc_answers.nd (piL (K := K) (pv 2)) (blkOk_by (by kernel_rfl)) (by decide) (fun _ _ _ _ _ => (pg_name (i := 3) sc_answers.nd rfl (Or.inl rfl))) (fun _ _ _ _ _ => pts_nil) (fun _ _ _ _ _ => (piEnumT (K := K) (by rfl) T.free_enumerate (pa_cons (pe_ix (ixT (K := K)) (pv 1) pe_int (fun _ _ => rfl)) pa_nil))) (fun _ _ _ _ _ => (pgT (K := K) (n := 2) rfl (pgs_cons (pg_name (i := 4) sc_answers.nd rfl (Or.inl rfl)) (pgs_cons (pg_name (i := 5) sc_answers.nd rfl (Or.inl rfl)) pgs_nil)))) (fun _ _ _ _ _ => (pts_one (pt_cmpR (inSq (K := K)) (pv 3) (pv 5) (by rfl)))) (fun _ _ _ _ _ => (pv 4))) pa_nil)))) pss_nil)
      (pss_one (ps_ret (pe_callTy (tupK (K := K)) (by rfl) T.free_tuple (by decide +kernel) (pa_cons (pe_lc (own := [("place", 3)]) (g := (gName 3)) (tt := tYes) rfl sc_answers.nd (piL (K := K) (pv 2)) (blkOk_by (by kernel_rfl)) (fun _ _ _ _ _ => (pg_name (i := 3) sc_answers.nd rfl (Or.inl rfl))) (fun _ _ _ _ _ => pts_nil) (fun _ _ _ _ _ => (pe_call F_near_answer hr_near_answer rfl T.glo_near_answer kp_near_answer b_near_answer .nil pass0 (pa_cons (pv 0) (pa_cons (pv 3) (pa_cons (pe_ix (ixT (K := K)) (pv 1) pe_int (fun _ _ => rfl)) (pa_cons (pe_ix (ixT (K := K)) (pv 1) pe_int (fun _ _ => rfl)) pa_nil))))))) pa_nil)))))))), ?_⟩
    refine ⟨_, rfl, _, rfl, c, x, v, n, E, L, rfl, B0, LA0, LO, fun H1 s1 => ⟨_, rfl, iteF ?_⟩⟩
    have n8 := B0.hi
    have n1 := B0.lo
    have B1 := B0.same s1
    obtain ⟨dx, q1, q2, q3, hx⟩ := B1.obj
    refine ⟨_, rfl, x, dx, _, rfl, hx, c, x, n, E, rfl, B1, (n : Int), rfl, by omega, by omega, (n : Int), rfl, RgOk.of_le (by decide) (by omega) (by decide) (by omega), fun r hr => ?_⟩
    have s2 := same_upd (o := HO.lst (rgV 0 (n : Int))) hr
    have hr2 : (upd H1 r (.lst (rgV 0 (n : Int)))) r = some (.lst ((List.range n).map vI)) := by rw [upd_same, rg_range]
    generalize upd H1 r (.lst (rgV 0 (n : Int))) = H2 at s2 hr2
    have s12 := s1.trans s2
    have B := B0.same s12
    have LA := LA0.same s12
    have h : ∀ H' t, H' t = some (.tup (((List.range n).map (ans M L)).map vI)) → Same H2 H' → Q (.ref t) H' := fun H' t e s => h0 H' t e (s12.trans s)
    clear hx B1 h0
    cases L with
    | lot p =>
      obtain ⟨t, u, rfl, ht, hu⟩ := LA
      refine ⟨_, rfl, t, _, 0, _, rfl, rfl, SqT.of ht, rfl, rfl, _, rfl, iteT ?_⟩
      refine ⟨_, rfl, r, rfl, ⟨_, SqL.of hr2⟩, fun D hD => ?_⟩
      refine lc_val (walk_list (K := K) (a := r) (xs := (List.range n).map vI)) (fun i => vI (ans M (.lot p) i)) (by simp; omega) hD (fun H3 s3 => SqL.of (s3 _ _ hr2)) ?_ ?_
      · rintro i y H3 H4 Nx hi s3 ⟨rfl, hy⟩ k
        obtain ⟨b, hb, rfl⟩ := get_vI hy
        obtain ⟨bn, rfl⟩ : i < n ∧ b = i := by
          have := List.getElem?_eq_some_iff.mp hb
          obtain ⟨z1, z2⟩ := this
          rw [List.getElem_range] at z2
          rw [List.length_range] at z1
          exact ⟨z1, z2.symm⟩
        refine ⟨rfl, _, rfl, _, rfl, t, _, 1, _, rfl, rfl, SqT.of (s3 _ _ ht), rfl, u, _, rfl, .inr (SqT.of (s3 _ _ hu)), rfl, flat_vI _, _, rfl, ?_⟩
        show if inV (vI b) ((lotP n p).map vI) = true then _ else _
        rw [in_lot]
        refine ite2 (fun z => ?_) (fun z => ?_)
        · have := k H4 fun _ _ e => e
          rw [ans_in (mem_lotP.mp (of_decide_eq_true z)).2] at this
          exact this
        · have := k H4 fun _ _ e => e
          rw [ans_out fun pb => z (decide_eq_true (mem_lotP.mpr ⟨bn, pb⟩))] at this
          exact this
      · intro H3 h3 s3
        rw [List.length_map, List.length_range] at h3
        refine ⟨D, _, rfl, .inl ⟨SqL.of h3, fun q hq => ?_⟩⟩
        exact h _ q (by rw [upd_same, range_vI]) (s3.trans (same_upd hq))
    | parts ps =>
      obtain ⟨t, u, us, rfl, ht, hu, lu, hus⟩ := LA
      refine ⟨_, rfl, t, _, 0, _, rfl, rfl, SqT.of ht, rfl, rfl, _, rfl, iteF ?_⟩
      refine ⟨_, rfl, t, _, 0, _, rfl, rfl, SqT.of ht, rfl, rfl, _, rfl, iteT ?_⟩
      refine ⟨_, rfl, r, rfl, ⟨_, SqL.of hr2⟩, fun D hD => ?_⟩
      obtain ⟨lps, cov, dis, non⟩ := id LO
      refine it_any (walk_list (K := K) (a := r) (xs := (List.range n).map vI)) (fun i H3 => H3 D = some (.lst (((List.range i).map (ans M (.parts ps))).map vI)) ∧ Same H2 H3) ⟨upd_same, same_upd hD⟩ (fun i H3 _ ⟨_, s3⟩ => SqL.of (s3 _ _ hr2)) ?_ ?_
      · rintro i y H3 _ hi ⟨h3, s3⟩ ⟨rfl, hy⟩
        obtain ⟨b, hb, rfl⟩ := get_vI hy
        obtain ⟨bn, rfl⟩ : i < n ∧ b = i := by
          have := List.getElem?_eq_some_iff.mp hb
          obtain ⟨z1, z2⟩ := this
          rw [List.getElem_range] at z2
          rw [List.length_range] at z1
          exact ⟨z1, z2.symm⟩
        obtain ⟨k0, p0, e0, pb0⟩ := cov b bn
        have fe : ps.findIdx (fun p => decB (p b)) = k0 := by
          have k0l : k0 < ps.length := (List.getElem?_eq_some_iff.mp e0).1
          have fl : ps.findIdx (fun p => decB (p b)) < ps.length := List.findIdx_lt_length_of_exists ⟨p0, List.mem_of_getElem? e0, decB_true.mpr pb0⟩
          have ft := List.findIdx_getElem (p := fun p : Nat → Prop => decB (p b)) (w := fl)
          exact dis _ _ _ _ b (List.getElem?_eq_getElem fl) e0 bn (decB_true.mp ft) pb0
        refine ⟨rfl, yesT ?_⟩
        refine ⟨_, rfl, t, _, 1, _, rfl, rfl, SqT.of (s3 _ _ ht), rfl, u, _, rfl, SqT.of (s3 _ _ hu), ?_⟩
        refine it_any (walk_enumT (K := K) (a := u) (xs := us.map V.ref)) (fun j H4 => H4 D = some (.lst (((List.range b).map (ans M (.parts ps)) ++ (if k0 < j then [k0] else [])).map vI)) ∧ Same H2 H4) ⟨by rw [if_neg (Nat.not_lt_zero _), List.append_nil]; exact h3, s3⟩ (fun j H4 _ z => SqT.of (z.2 _ _ hu)) ?_ ?_
        · rintro j z H4 H5 hj ⟨h4, s4⟩ ⟨T1, y1, y2, rfl, hT, rfl, e1, e2⟩
          cases (Option.some.inj e1)
          obtain ⟨a, ha, rfl⟩ := get_mapV (show (us.map V.ref)[j]? = some y2 from e2)
          have jl : j < ps.length := by
            have := (List.getElem?_eq_some_iff.mp ha).1
            omega
          have hp : ps[j]? = some ps[j] := List.getElem?_eq_getElem jl
          have s5 : Same H4 (upd H4 T1 (.tup [.int (j : Nat), .ref a])) := same_upd hT
          have h5 := s5 _ _ h4
          have s25 := s4.trans s5
          have hT5 : (upd H4 T1 (.tup [.int (j : Nat), .ref a])) T1 = some (.tup [.int (j : Nat), .ref a]) := upd_same
          generalize upd H4 T1 (.tup [.int (j : Nat), .ref a]) = H5 at h5 s25 hT5
          refine ⟨T1, _, rfl, SqT.of hT5, rfl, _, _, rfl, _, _, rfl, rfl, rfl, ?_⟩
          refine ⟨_, rfl, _, rfl, a, _, rfl, .inr (SqT.of (s25 _ _ (hus j a _ ha hp))), rfl, flat_vI _, _, rfl, ?_⟩
          show if inV (vI b) ((lotP n ps[j]).map vI) = true then _ else _
          rw [in_lot]
          refine ite2 (fun z => ?_) (fun z => ?_)
          · have ej : j = k0 := dis _ _ _ _ b hp e0 bn (mem_lotP.mp (of_decide_eq_true z)).2 pb0
            subst ej
            rw [if_neg (Nat.lt_irrefl _), List.append_nil] at h5
            refine ⟨_, rfl, _, h5, ?_, ?_, same_mut s25 hD⟩
            · rw [List.length_map, List.length_map, List.length_range]
              exact Nat.lt_of_le_of_lt (show b ≤ 8 by omega) (by decide)
            · rw [upd_same, if_pos (Nat.lt_succ_self _), List.map_append]
              rfl
          · have nj : j ≠ k0 := fun e => z (decide_eq_true (mem_lotP.mpr ⟨bn, by
              subst e
              rw [hp] at e0
              cases e0
              exact pb0⟩))
            refine ⟨?_, s25⟩
            rw [h5]
            by_cases lt : k0 < j
            · rw [if_pos lt, if_pos (by omega)]
            · rw [if_neg lt, if_neg (by omega)]
        · rintro H4 ⟨h4, s4⟩
          have k0l : k0 < ps.length := (List.getElem?_eq_some_iff.mp e0).1
          rw [List.length_map, if_pos (by omega)] at h4
          refine ⟨?_, s4⟩
          rw [h4, List.range_succ, List.map_append (f := ans M (.parts ps)), ← fe]
          rfl
      · rintro H3 ⟨h3, s3⟩
        rw [List.length_map, List.length_range] at h3
        refine ⟨D, _, rfl, .inl ⟨SqL.of h3, fun q hq => ?_⟩⟩
        exact h _ q upd_same (s3.trans (same_upd hq))
    | near d k =>
      obtain ⟨t, rfl, ht⟩ := LA
      refine ⟨_, rfl, t, _, 0, _, rfl, rfl, SqT.of ht, rfl, rfl, _, rfl, iteF ?_⟩
      refine ⟨_, rfl, t, _, 0, _, rfl, rfl, SqT.of ht, rfl, rfl, _, rfl, iteF ?_⟩
      refine ⟨_, rfl, r, rfl, ⟨_, SqL.of hr2⟩, fun D hD => ?_⟩
      refine lc_val (walk_list (K := K) (a := r) (xs := (List.range n).map vI)) (fun i => vI (ans M (.near d k) i)) (by simp; omega) hD (fun H3 s3 => SqL.of (s3 _ _ hr2)) ?_ ?_
      · rintro i y H3 H4 Nx hi s3 ⟨rfl, hy⟩ kk
        obtain ⟨b, hb, rfl⟩ := get_vI hy
        obtain ⟨bn, rfl⟩ : i < n ∧ b = i := by
          have := List.getElem?_eq_some_iff.mp hb
          obtain ⟨z1, z2⟩ := this
          rw [List.getElem_range] at z2
          rw [List.length_range] at z1
          exact ⟨z1, z2.symm⟩
        refine ⟨rfl, _, rfl, _, rfl, _, rfl, t, _, 1, _, rfl, rfl, SqT.of (s3 _ _ ht), rfl, _, rfl, t, _, 2, _, rfl, rfl, SqT.of (s3 _ _ ht), rfl, ?_⟩
        exact ⟨c, x, n, b, d, k, E, M, rfl, B.same s3, S, bn, LO.1, LO.2, kk _ fun _ _ e => e⟩
      · intro H3 h3 s3
        rw [List.length_map, List.length_range] at h3
        refine ⟨D, _, rfl, .inl ⟨SqL.of h3, fun q hq => ?_⟩⟩
        exact h _ q (by rw [upd_same, range_vI]) (s3.trans (same_upd hq))
def spLotOf (K : PySem.W.Frag) : Sp := fun vs H Q _ => ∃ (c x : Addr) (v : V) (n a : Nat) (E : List (Nat × Nat)) (M : Nat → Nat → Nat) (L : Look), vs = [.ref x, v, vI a] ∧ BoardAt K c H x n E ∧ Spans n E M ∧ LookAt n H v L ∧ LookOk n L ∧ ∀ H' t, H' t = some (.tup ((lotP n fun b => ans M L b = a).map vI)) → Same H H' → Q (.ref t) H'
end
end RL
/-! Games: which look next, for how long, at what price: plain mathematics. -/
namespace RLM
/-- n places, the wish, where each place may lead, the hands: each look's answers by places, its price -/
structure Gm where
  n : Nat
  W : Nat
  ends : Nat → Nat → Bool
  hands : List (List ((Nat → Nat) × Nat))
abbrev Stt := Nat × List Nat
def nine : List Nat := [0, 1, 2, 3, 4, 5, 6, 7, 8]
/-- the places of a lot that answer so; the answers that some place gives -/
def cutA (g : Nat → Nat) (l : List Nat) (a : Nat) : List Nat := l.filter fun p => decide (g p = a)
def ansS (g : Nat → Nat) (l : List Nat) : List Nat := nine.filter fun a => l.any fun p => decide (g p = a)
namespace Gm
variable (G : Gm)
def opts (t : Nat) : List ((Nat → Nat) × Nat) := (fun _ => 0, 0) :: G.hands.getD t []
def after (t : Nat) : Nat := if t + 1 < G.hands.length then t + 1 else 0
def move (l : List Nat) : List Nat := (List.range G.n).filter fun e => l.any fun p => G.ends p e
def behind (t : Nat) (l : List Nat) : Stt := (G.after t, G.move l)
def nexts (s : Stt) (g : Nat → Nat) : List Stt := (ansS g s.2).map fun a => G.behind s.1 (cutA g s.2 a)
def fine (l : List Nat) (g : Nat → Nat) : Bool := (ansS g l).all fun a => decide ((cutA g l a).length ≤ G.W)
/-- the choices by which the wish isn't broken at once: their numbers, from none as 0, and what may come -/
def unb (s : Stt) : List (Nat × List Stt) := ((List.range (G.opts s.1).length).filter fun i => G.fine s.2 ((G.opts s.1).getD i (fun _ => 0, 0)).1).map fun i => (i, G.nexts s ((G.opts s.1).getD i (fun _ => 0, 0)).1)
def price (t i : Nat) : Nat := ((G.opts t).getD i (fun _ => 0, 0)).2
end Gm
def maxL : List Nat → Nat
  | [] => 0
  | x :: xs => max x (maxL xs)
def worst (f : Stt → Option Nat) (ns : List Stt) : Option Nat := if ns.all fun s => (f s).isSome then some (maxL (ns.map fun s => (f s).getD 0)) else none
def addO (w acc : Option Nat) (p : Nat) : Option Nat := match w with
  | none => acc
  | some v => some (match acc with | none => v + p | some d => min (v + p) d)
namespace Gm
variable (G : Gm)
/-- what so many beats cost -/
def cost : Nat → Stt → Option Nat
  | 0, _ => some 0
  | b + 1, s => (G.unb s).foldl (fun acc c => addO (worst (cost b) c.2) acc (G.price s.1 c.1)) none
/-- the wish is kept for so many beats -/
def ok : Nat → Stt → Bool
  | 0, _ => true
  | b + 1, s => (G.unb s).any fun c => c.2.all (ok b)
end Gm
theorem addO_some {w acc : Option Nat} {p : Nat} : (addO w acc p).isSome = (acc.isSome || w.isSome) := by
  cases w with
  | none => simp [addO]
  | some v => simp [addO]
theorem fold_some {α : Type} (f : α → Option Nat) (p : α → Nat) : ∀ (cs : List α) (acc : Option Nat), (cs.foldl (fun acc c => addO (f c) acc (p c)) acc).isSome = (acc.isSome || cs.any fun c => (f c).isSome)
  | [], acc => by simp
  | c :: cs, acc => by
    rw [List.foldl_cons, fold_some f p cs, addO_some, List.any_cons, Bool.or_assoc]
theorem worst_some {f : Stt → Option Nat} {ns : List Stt} : (worst f ns).isSome = ns.all fun s => (f s).isSome := by
  unfold worst
  split <;> simp_all
theorem cost_ok (G : Gm) : ∀ (b : Nat) (s : Stt), (G.cost b s).isSome = G.ok b s
  | 0, s => rfl
  | b + 1, s => by
    show ((G.unb s).foldl (fun acc c => addO (worst (G.cost b) c.2) acc (G.price s.1 c.1)) none).isSome = (G.unb s).any fun c => c.2.all (G.ok b)
    rw [fold_some (fun c : Nat × List Stt => worst (G.cost b) c.2) (fun c => G.price s.1 c.1)]
    rw [Option.isSome_none, Bool.false_or]
    have e : (fun c : Nat × List Stt => (worst (G.cost b) c.2).isSome) = fun c => c.2.all (G.ok b) := by
      funext c
      rw [worst_some]
      congr 1
      funext s'
      exact cost_ok G b s'
    rw [e]
theorem ok_le (G : Gm) : ∀ (b : Nat) (s : Stt), G.ok (b + 1) s = true → G.ok b s = true
  | 0, s, _ => rfl
  | b + 1, s, h => by
    obtain ⟨c, hc, hs⟩ := List.any_eq_true.mp h
    refine List.any_eq_true.mpr ⟨c, hc, List.all_eq_true.mpr fun s' hs' => ok_le G b s' (List.all_eq_true.mp hs s' hs')⟩
/-- how long it lasts, looked at to so many beats -/
def Gm.len (G : Gm) (b : Nat) (s : Stt) : Option Nat := (List.range b).find? fun i => !G.ok (i + 1) s
theorem len_zero (G : Gm) (s : Stt) : G.len 0 s = none := rfl
theorem len_succ (G : Gm) (b : Nat) (s : Stt) : G.len (b + 1) s = match G.len b s with
    | some i => some i
    | none => if G.ok (b + 1) s = true then none else some b := by
  unfold Gm.len
  rw [List.range_succ, List.find?_append]
  cases e : (List.range b).find? fun i => !G.ok (i + 1) s with
  | some i => simp
  | none =>
    cases h : G.ok (b + 1) s <;> simp [h]
theorem ok_down (G : Gm) {b : Nat} {s : Stt} : ∀ {d : Nat}, G.ok (b + d) s = true → G.ok b s = true
  | 0, h => h
  | d + 1, h => ok_down G (d := d) (ok_le G (b + d) s h)
theorem len_none (G : Gm) : ∀ (b : Nat) (s : Stt), G.len b s = none ↔ G.ok b s = true
  | 0, s => by simp [len_zero, Gm.ok]
  | b + 1, s => by
    rw [len_succ]
    have ih := len_none G b s
    cases e : G.len b s with
    | some i =>
      constructor
      · intro h; cases h
      · intro h
        rw [ih.mpr (ok_le G b s h)] at e
        cases e
    | none =>
      dsimp only
      constructor
      · intro h
        by_cases k : G.ok (b + 1) s = true
        · exact k
        · rw [if_neg k] at h; cases h
      · intro h; rw [if_pos h]
theorem len_some (G : Gm) {b : Nat} {s : Stt} {i : Nat} (h : G.len b s = some i) : G.ok i s = true ∧ G.ok (i + 1) s = false ∧ i < b := by
  unfold Gm.len at h
  have h1 := List.find?_some h
  have h2 := List.mem_of_find?_eq_some h
  rw [List.mem_range] at h2
  have n : G.ok (i + 1) s = false := by simpa using h1
  refine ⟨?_, n, h2⟩
  cases k : G.ok i s with
  | true => rfl
  | false =>
    exfalso
    cases i with
    | zero => cases k
    | succ j =>
      have hb : G.len (j + 1) s ≠ none := fun z => by
        have := (len_none G (j + 1) s).mp z
        rw [this] at k; cases k
      -- an earlier one would have been found
      obtain ⟨r, hr⟩ := Option.ne_none_iff_exists'.mp hb
      have hr' : (List.range (j + 1)).find? (fun i => !G.ok (i + 1) s) = some r := hr
      have e : List.range b = List.range (j + 1) ++ (List.range (b - (j + 1))).map (· + (j + 1)) := by
        conv => lhs; rw [show b = (j + 1) + (b - (j + 1)) by omega, List.range_add]
        congr 1
        exact List.map_congr_left fun x _ => by omega
      rw [e, List.find?_append, hr'] at h
      have e2 : r = j + 1 := by simpa using h
      have h3 := List.mem_of_find?_eq_some hr'
      rw [List.mem_range] at h3
      omega
/-- what lasting tells -/
def Lasts (G : Gm) (s : Stt) : Option Nat → Prop
  | some i => G.ok i s = true ∧ G.ok (i + 1) s = false
  | none => ∀ b, G.ok b s = true
theorem Lasts.uniq {G : Gm} {s : Stt} {r r' : Option Nat} (h : Lasts G s r) (h' : Lasts G s r') : r = r' := by
  have key : ∀ {i j : Nat}, G.ok (i + 1) s = false → G.ok j s = true → j ≤ i := fun {i j} h1 h2 => by
    refine Nat.le_of_not_lt fun hl => ?_
    have := ok_down G (b := i + 1) (d := j - (i + 1)) (s := s) (by rw [show i + 1 + (j - (i + 1)) = j by omega]; exact h2)
    rw [h1] at this
    cases this
  cases r with
  | none =>
    cases r' with
    | none => rfl
    | some j => have := h (j + 1); rw [h'.2] at this; cases this
  | some i =>
    cases r' with
    | none => have := h' (i + 1); rw [h.2] at this; cases this
    | some j =>
      have a := key h.2 h'.1
      have b := key h'.2 h.1
      rw [show i = j by omega]
/-- a set of states that nothing leaves -/
def Shut (G : Gm) (L : List Stt) : Prop := ∀ s ∈ L, ∀ c ∈ G.unb s, ∀ s' ∈ c.2, s' ∈ L
theorem shut_ok {G : Gm} {L : List Stt} (sh : Shut G L) {b : Nat} (h : ∀ s ∈ L, G.ok b s = true → G.ok (b + 1) s = true) : ∀ (d : Nat) (s : Stt), s ∈ L → G.ok b s = true → G.ok (b + d) s = true
  | 0, s, _, k => k
  | d + 1, s, hs, k => by
    have k1 := h s hs k
    obtain ⟨c, hc, hn⟩ := List.any_eq_true.mp k1
    exact List.any_eq_true.mpr ⟨c, hc, List.all_eq_true.mpr fun s' hs' => shut_ok sh h d s' (sh s hs c hc s' hs') (List.all_eq_true.mp hn s' hs')⟩
/-- behind the last turn of the walk -/
theorem len_lasts {G : Gm} {L : List Stt} (sh : Shut G L) {b : Nat} (h : ∀ s ∈ L, G.ok b s = true → G.ok (b + 1) s = true) {s : Stt} (hs : s ∈ L) : Lasts G s (G.len b s) := by
  cases e : G.len b s with
  | some i => exact ⟨(len_some G e).1, (len_some G e).2.1⟩
  | none =>
    intro d
    have k := (len_none G b s).mp e
    by_cases hd : d ≤ b
    · exact ok_down G (b := d) (d := b - d) (by rw [show d + (b - d) = b by omega]; exact k)
    · rw [show d = b + (d - b) by omega]
      exact shut_ok sh h _ s hs k
/-- which fall next -/
theorem falls (G : Gm) (b : Nat) (s : Stt) : (G.len b s = none ∧ ∀ c ∈ G.unb s, ∃ s' ∈ c.2, G.len b s' ≠ none) ↔ (G.ok b s = true ∧ G.ok (b + 1) s = false) := by
  rw [len_none]
  constructor
  · rintro ⟨h1, h2⟩
    refine ⟨h1, ?_⟩
    cases k : G.ok (b + 1) s with
    | false => rfl
    | true =>
      obtain ⟨c, hc, hn⟩ := List.any_eq_true.mp k
      obtain ⟨s', hs', ne⟩ := h2 c hc
      exact absurd ((len_none G b s').mpr (List.all_eq_true.mp hn s' hs')) ne
  · rintro ⟨h1, h2⟩
    refine ⟨h1, fun c hc => ?_⟩
    have : (G.unb s).any (fun c => c.2.all (G.ok b)) = false := h2
    have hc2 := List.any_eq_false.mp this c hc
    have ex : ∃ s' ∈ c.2, G.ok b s' = false := by
      have : ¬ (∀ s' ∈ c.2, G.ok b s' = true) := fun z => hc2 (List.all_eq_true.mpr z)
      obtain ⟨s', hs', ne⟩ : ∃ s' ∈ c.2, ¬ G.ok b s' = true := by
        refine Classical.byContradiction fun z => this fun s' hs' => ?_
        exact Classical.byContradiction fun y => z ⟨s', hs', y⟩
      exact ⟨s', hs', by simpa using ne⟩
    obtain ⟨s', hs', k⟩ := ex
    exact ⟨s', hs', fun z => by rw [(len_none G b s').mp z] at k; cases k⟩
/-! ### how many there are -/
theorem nodup_sub_len {α : Type} [DecidableEq α] : ∀ (xs ys : List α), xs.Nodup → (∀ x ∈ xs, x ∈ ys) → xs.length ≤ ys.length
  | [], _, _, _ => Nat.zero_le _
  | x :: xs, ys, nd, h => by
    have hx := h x (List.mem_cons_self ..)
    have nd' := List.nodup_cons.mp nd
    have ih := nodup_sub_len xs (ys.erase x) nd'.2 fun z hz => by
      refine (List.mem_erase_of_ne (fun e => nd'.1 (by rw [e] at hz; exact hz))).mpr (h z (List.mem_cons_of_mem _ hz))
    have l := List.length_erase_of_mem hx
    have p := List.length_pos_of_mem hx
    rw [List.length_cons]
    omega
def subsL : List Nat → List (List Nat)
  | [] => [[]]
  | a :: l => subsL l ++ (subsL l).map (a :: ·)
theorem subsL_len : ∀ l : List Nat, (subsL l).length = 2 ^ l.length
  | [] => rfl
  | a :: l => by
    unfold subsL
    rw [List.length_append, List.length_map, subsL_len l, List.length_cons, Nat.pow_succ]
    omega
theorem filter_subs (p : Nat → Bool) : ∀ l : List Nat, l.filter p ∈ subsL l
  | [] => List.mem_singleton.mpr rfl
  | a :: l => by
    unfold subsL
    rw [List.filter_cons]
    split
    · exact List.mem_append_right _ (List.mem_map.mpr ⟨_, filter_subs p l, rfl⟩)
    · exact List.mem_append_left _ (filter_subs p l)
/-- a state of the game: a hand's turn, a lot -/
def Gm.St (G : Gm) (s : Stt) : Prop := s.1 < G.hands.length ∧ s.2 ≠ [] ∧ ∃ p : Nat → Bool, s.2 = (List.range G.n).filter p
def allS (n m : Nat) : List Stt := (List.range m).flatMap fun t => (subsL (List.range n)).map fun l => (t, l)
theorem allS_mem {G : Gm} {s : Stt} (h : G.St s) : s ∈ allS G.n G.hands.length := by
  obtain ⟨h1, _, p, h2⟩ := h
  exact List.mem_flatMap.mpr ⟨s.1, List.mem_range.mpr h1, List.mem_map.mpr ⟨s.2, by rw [h2]; exact filter_subs p _, rfl⟩⟩
theorem flat_len {α β : Type} (f : α → List β) (k : Nat) (h : ∀ a, (f a).length = k) : ∀ l : List α, (l.flatMap f).length = l.length * k
  | [] => by simp
  | a :: l => by
    rw [List.flatMap_cons, List.length_append, h, flat_len f k h l, List.length_cons, Nat.succ_mul]
    omega
theorem allS_len (n m : Nat) : (allS n m).length = m * 2 ^ n := by
  unfold allS
  rw [flat_len _ (2 ^ n) (fun t => by rw [List.length_map, subsL_len, List.length_range]), List.length_range]
theorem states_few {G : Gm} {L : List Stt} (nd : L.Nodup) (h : ∀ s ∈ L, G.St s) (h8 : G.n ≤ 8) (h3 : G.hands.length ≤ 3) : L.length ≤ 768 := by
  have l := nodup_sub_len L (allS G.n G.hands.length) nd fun s hs => allS_mem (h s hs)
  rw [allS_len] at l
  have : 2 ^ G.n ≤ 2 ^ 8 := Nat.pow_le_pow_right (by decide) h8
  have : G.hands.length * 2 ^ G.n ≤ 3 * 2 ^ 8 := Nat.mul_le_mul h3 this
  omega
theorem cutA_St (g : Nat → Nat) {n : Nat} {l : List Nat} {p : Nat → Bool} (h : l = (List.range n).filter p) (a : Nat) : cutA g l a = (List.range n).filter fun q => p q && decide (g q = a) := by
  unfold cutA
  rw [h, List.filter_filter]
  congr 1
  funext q
  rw [Bool.and_comm]
theorem cutA_ne {g : Nat → Nat} {l : List Nat} {a : Nat} (h : a ∈ ansS g l) : cutA g l a ≠ [] := by
  obtain ⟨_, h2⟩ := List.mem_filter.mp h
  obtain ⟨p, hp, e⟩ := List.any_eq_true.mp h2
  intro z
  have : p ∈ cutA g l a := List.mem_filter.mpr ⟨hp, e⟩
  rw [z] at this
  cases this
theorem ansS_nodup (g : Nat → Nat) (l : List Nat) : (ansS g l).Nodup := (List.filter_sublist).nodup (by decide)
theorem getD_inj {xs : List Nat} (nd : xs.Nodup) {i j : Nat} (hi : i < xs.length) (hj : j < xs.length) (e : xs.getD i 0 = xs.getD j 0) : i = j := by
  rw [List.getD_eq_getElem?_getD, List.getD_eq_getElem?_getD, List.getElem?_eq_getElem hi, List.getElem?_eq_getElem hj] at e
  exact (List.getElem_inj nd).mp e
theorem range_getD (xs : List Nat) : (List.range xs.length).map (fun k => xs.getD k 0) = xs := by
  refine List.ext_getElem? fun k => ?_
  rw [List.getElem?_map]
  by_cases hk : k < xs.length
  · rw [List.getElem?_range hk, List.getElem?_eq_getElem hk]
    show some (xs.getD k 0) = _
    rw [List.getD_eq_getElem?_getD, List.getElem?_eq_getElem hk]
    rfl
  · rw [List.getElem?_eq_none (by simp; omega), List.getElem?_eq_none (by omega)]
    rfl
theorem ansS_len (g : Nat → Nat) (l : List Nat) : (ansS g l).length ≤ 9 := Nat.le_trans (List.length_filter_le _ _) (by decide)
/-- where each place may stay -/
def Gm.Stay (G : Gm) : Prop := ∀ p, p < G.n → G.ends p p = true
theorem move_St {G : Gm} (st : G.Stay) {l : List Nat} (hl : ∀ p ∈ l, p < G.n) (ne : l ≠ []) : G.move l ≠ [] := by
  cases l with
  | nil => exact absurd rfl ne
  | cons p l =>
    intro z
    have : p ∈ G.move (p :: l) := List.mem_filter.mpr ⟨List.mem_range.mpr (hl p (List.mem_cons_self ..)), List.any_eq_true.mpr ⟨p, List.mem_cons_self .., st p (hl p (List.mem_cons_self ..))⟩⟩
    rw [z] at this
    cases this
theorem after_lt {G : Gm} (h : 0 < G.hands.length) (t : Nat) : G.after t < G.hands.length := by
  unfold Gm.after
  split <;> omega
theorem behind_St {G : Gm} (st : G.Stay) (h0 : 0 < G.hands.length) (t : Nat) {l : List Nat} (hl : ∀ p ∈ l, p < G.n) (ne : l ≠ []) : G.St (G.behind t l) :=
  ⟨after_lt h0 t, move_St st hl ne, fun e => l.any fun p => G.ends p e, rfl⟩
theorem St_lt {G : Gm} {s : Stt} (h : G.St s) : ∀ p ∈ s.2, p < G.n := by
  obtain ⟨_, _, p, e⟩ := h
  intro q hq
  rw [e] at hq
  exact List.mem_range.mp (List.mem_filter.mp hq).1
theorem nexts_St {G : Gm} (st : G.Stay) (h0 : 0 < G.hands.length) {s : Stt} (h : G.St s) (g : Nat → Nat) : ∀ s' ∈ G.nexts s g, G.St s' := by
  intro s' hs
  obtain ⟨a, ha, rfl⟩ := List.mem_map.mp hs
  exact behind_St st h0 _ (fun p hp => St_lt h p (List.mem_filter.mp hp).1) (cutA_ne ha)
theorem unb_St {G : Gm} (st : G.Stay) (h0 : 0 < G.hands.length) {s : Stt} (h : G.St s) : ∀ c ∈ G.unb s, ∀ s' ∈ c.2, G.St s' := by
  intro c hc s' hs
  obtain ⟨i, _, rfl⟩ := List.mem_map.mp hc
  exact nexts_St st h0 h _ s' hs
end RLM
/-! Games compared: plain mathematics. -/
namespace RLM
/-- no dearer, none the dearest -/
def leO (a b : Option Nat) : Prop := ∀ v, b = some v → ∃ u, a = some u ∧ u ≤ v
theorem leO_refl (a : Option Nat) : leO a a := fun v h => ⟨v, h, Nat.le_refl _⟩
theorem fold_some_ge {α : Type} (f : α → Option Nat) (p : α → Nat) : ∀ (cs : List α) (acc : Nat), ∃ v, cs.foldl (fun acc c => addO (f c) acc (p c)) (some acc) = some v ∧ v ≤ acc
  | [], acc => ⟨acc, rfl, Nat.le_refl _⟩
  | c :: cs, acc => by
    rw [List.foldl_cons]
    cases e : f c with
    | none => exact fold_some_ge f p cs acc
    | some w =>
      show ∃ v, cs.foldl _ (some (min (w + p c) acc)) = some v ∧ v ≤ acc
      obtain ⟨v, h1, h2⟩ := fold_some_ge f p cs (min (w + p c) acc)
      exact ⟨v, h1, Nat.le_trans h2 (Nat.min_le_right _ _)⟩
theorem fold_le {α : Type} (f : α → Option Nat) (p : α → Nat) : ∀ (cs : List α) (acc : Option Nat) {c : α} {w : Nat}, c ∈ cs → f c = some w → ∃ v, cs.foldl (fun acc c => addO (f c) acc (p c)) acc = some v ∧ v ≤ w + p c
  | d :: cs, acc, c, w, hc, hw => by
    rw [List.foldl_cons]
    rcases List.mem_cons.mp hc with e | e
    · subst e
      rw [hw]
      cases acc with
      | none => exact fold_some_ge f p cs _
      | some a =>
        obtain ⟨v, h1, h2⟩ := fold_some_ge f p cs (min (w + p c) a)
        exact ⟨v, h1, Nat.le_trans h2 (Nat.min_le_left _ _)⟩
    · exact fold_le f p cs _ e hw
theorem fold_at {α : Type} (f : α → Option Nat) (p : α → Nat) : ∀ (cs : List α) (acc : Option Nat) {v : Nat}, cs.foldl (fun acc c => addO (f c) acc (p c)) acc = some v → acc = some v ∨ ∃ c ∈ cs, ∃ w, f c = some w ∧ v = w + p c
  | [], acc, v, h => .inl h
  | c :: cs, acc, v, h => by
    rw [List.foldl_cons] at h
    rcases fold_at f p cs _ h with e | ⟨d, hd, w, h1, h2⟩
    · cases ef : f c with
      | none =>
        rw [ef] at e
        exact .inl e
      | some w =>
        rw [ef] at e
        cases acc with
        | none =>
          exact .inr ⟨c, List.mem_cons_self .., w, ef, (Option.some.inj e).symm⟩
        | some a =>
          have e : some (min (w + p c) a) = some v := e
          have e := Option.some.inj e
          by_cases k : w + p c ≤ a
          · exact .inr ⟨c, List.mem_cons_self .., w, ef, by omega⟩
          · exact .inl (by rw [← e]; congr 1; omega)
    · exact .inr ⟨d, List.mem_cons_of_mem _ hd, w, h1, h2⟩
theorem maxL_le {xs : List Nat} {m : Nat} (h : ∀ x ∈ xs, x ≤ m) : maxL xs ≤ m := by
  induction xs with
  | nil => exact Nat.zero_le _
  | cons y ys ih =>
    show max y (maxL ys) ≤ m
    have := h y (List.mem_cons_self ..)
    have := ih fun x hx => h x (List.mem_cons_of_mem _ hx)
    omega
theorem le_maxL {xs : List Nat} {m : Nat} (h : m ∈ xs) : m ≤ maxL xs := by
  induction xs with
  | nil => cases h
  | cons y ys ih =>
    show m ≤ max y (maxL ys)
    rcases List.mem_cons.mp h with e | e
    · omega
    · have := ih e; omega
theorem worst_le {f g : Stt → Option Nat} {ns ms : List Stt} (h : ∀ t ∈ ns, ∃ t' ∈ ms, leO (f t) (g t')) : leO (worst f ns) (worst g ms) := by
  intro v hv
  unfold worst at hv
  split at hv
  · rename_i hall
    have hall := List.all_eq_true.mp hall
    have key : ∀ t ∈ ns, ∃ u, f t = some u ∧ u ≤ v := fun t ht => by
      obtain ⟨t', ht', l⟩ := h t ht
      obtain ⟨w, hw⟩ := Option.isSome_iff_exists.mp (hall t' ht')
      obtain ⟨u, hu, le⟩ := l w hw
      refine ⟨u, hu, Nat.le_trans le ?_⟩
      rw [← Option.some.inj hv]
      exact le_maxL (List.mem_map.mpr ⟨t', ht', by rw [hw]; rfl⟩)
    refine ⟨maxL (ns.map fun s => (f s).getD 0), ?_, maxL_le fun x hx => ?_⟩
    · unfold worst
      rw [if_pos (List.all_eq_true.mpr fun t ht => by obtain ⟨u, hu, _⟩ := key t ht; rw [hu]; rfl)]
    · obtain ⟨t, ht, rfl⟩ := List.mem_map.mp hx
      obtain ⟨u, hu, le⟩ := key t ht
      rw [hu]
      exact le
  · cases hv
/-- the one game is no dearer than the other -/
theorem sim (G G' : Gm) (R : Stt → Stt → Prop) (h : ∀ s s', R s s' → ∀ c' ∈ G'.unb s', ∃ c ∈ G.unb s, G.price s.1 c.1 ≤ G'.price s'.1 c'.1 ∧ ∀ t ∈ c.2, ∃ t' ∈ c'.2, R t t') : ∀ (b : Nat) (s s' : Stt), R s s' → leO (G.cost b s) (G'.cost b s')
  | 0, _, _, _ => leO_refl _
  | b + 1, s, s', r => by
    intro v hv
    have hv : (G'.unb s').foldl (fun acc c => addO (worst (G'.cost b) c.2) acc (G'.price s'.1 c.1)) none = some v := hv
    rcases fold_at (fun c : Nat × List Stt => worst (G'.cost b) c.2) (fun c => G'.price s'.1 c.1) _ _ hv with e | ⟨c', hc', w', h1, h2⟩
    · cases e
    · obtain ⟨c, hc, le, ht⟩ := h s s' r c' hc'
      obtain ⟨w, hw, lw⟩ := worst_le (f := G.cost b) (g := G'.cost b) (ns := c.2) (ms := c'.2) (fun t htc => by
        obtain ⟨t', ht', r'⟩ := ht t htc
        exact ⟨t', ht', sim G G' R h b t t' r'⟩) w' h1
      obtain ⟨u, hu, lu⟩ := fold_le (fun c : Nat × List Stt => worst (G.cost b) c.2) (fun c => G.price s.1 c.1) (G.unb s) none hc hw
      exact ⟨u, hu, by omega⟩
/-- more beats cost no less -/
theorem cost_more (G : Gm) : ∀ (b : Nat) (s : Stt), leO (G.cost b s) (G.cost (b + 1) s)
  | 0, s => fun v _ => ⟨0, rfl, Nat.zero_le _⟩
  | b + 1, s => by
    intro v hv
    have hv : (G.unb s).foldl (fun acc c => addO (worst (G.cost (b + 1)) c.2) acc (G.price s.1 c.1)) none = some v := hv
    rcases fold_at (fun c : Nat × List Stt => worst (G.cost (b + 1)) c.2) (fun c => G.price s.1 c.1) _ _ hv with e | ⟨c, hc, w', h1, h2⟩
    · cases e
    · obtain ⟨w, hw, lw⟩ := worst_le (f := G.cost b) (g := G.cost (b + 1)) (ns := c.2) (ms := c.2) (fun t ht => ⟨t, ht, cost_more G b t⟩) w' h1
      obtain ⟨u, hu, lu⟩ := fold_le (fun c : Nat × List Stt => worst (G.cost b) c.2) (fun c => G.price s.1 c.1) (G.unb s) none hc hw
      exact ⟨u, hu, by omega⟩
/-- each beat costs m at most -/
theorem cost_bound (G : Gm) (m : Nat) (hp : ∀ s, ∀ c ∈ G.unb s, G.price s.1 c.1 ≤ m) : ∀ (b : Nat) (s : Stt) (v : Nat), G.cost b s = some v → v ≤ m * b
  | 0, s, v, h => by
    have := Option.some.inj h
    omega
  | b + 1, s, v, h => by
    have h : (G.unb s).foldl (fun acc c => addO (worst (G.cost b) c.2) acc (G.price s.1 c.1)) none = some v := h
    rcases fold_at (fun c : Nat × List Stt => worst (G.cost b) c.2) (fun c => G.price s.1 c.1) _ _ h with e | ⟨c, hc, w, h1, h2⟩
    · cases e
    · have hw : w ≤ m * b := by
        unfold worst at h1
        split at h1
        · rename_i hall
          rw [← Option.some.inj h1]
          refine maxL_le fun x hx => ?_
          obtain ⟨t, ht, rfl⟩ := List.mem_map.mp hx
          obtain ⟨y, hy⟩ := Option.isSome_iff_exists.mp (List.all_eq_true.mp hall t ht)
          rw [hy]
          exact cost_bound G m hp b t y hy
        · cases h1
      have := hp s c hc
      rw [Nat.mul_succ]
      omega
theorem St_nodup {G : Gm} {s : Stt} (h : G.St s) : s.2.Nodup := by
  obtain ⟨_, _, p, e⟩ := h
  rw [e]
  exact (List.filter_sublist).nodup List.nodup_range
/-- fewer places -/
def Sub (G : Gm) (s s' : Stt) : Prop := s.1 = s'.1 ∧ G.St s ∧ G.St s' ∧ ∀ p ∈ s.2, p ∈ s'.2
theorem cut_sub {g : Nat → Nat} {l l' : List Nat} (h : ∀ p ∈ l, p ∈ l') (a : Nat) : ∀ p ∈ cutA g l a, p ∈ cutA g l' a := fun p hp => by
  obtain ⟨h1, h2⟩ := List.mem_filter.mp hp
  exact List.mem_filter.mpr ⟨h p h1, h2⟩
theorem ans_sub {g : Nat → Nat} {l l' : List Nat} (h : ∀ p ∈ l, p ∈ l') : ∀ a ∈ ansS g l, a ∈ ansS g l' := fun a ha => by
  obtain ⟨h1, h2⟩ := List.mem_filter.mp ha
  obtain ⟨p, hp, e⟩ := List.any_eq_true.mp h2
  exact List.mem_filter.mpr ⟨h1, List.any_eq_true.mpr ⟨p, h p hp, e⟩⟩
theorem move_sub {G : Gm} {l l' : List Nat} (h : ∀ p ∈ l, p ∈ l') : ∀ p ∈ G.move l, p ∈ G.move l' := fun p hp => by
  obtain ⟨h1, h2⟩ := List.mem_filter.mp hp
  obtain ⟨q, hq, e⟩ := List.any_eq_true.mp h2
  exact List.mem_filter.mpr ⟨h1, List.any_eq_true.mpr ⟨q, h q hq, e⟩⟩
theorem unb_mem {G : Gm} {s : Stt} {c : Nat × List Stt} : c ∈ G.unb s ↔ c.1 < (G.opts s.1).length ∧ G.fine s.2 ((G.opts s.1).getD c.1 (fun _ => 0, 0)).1 = true ∧ c.2 = G.nexts s ((G.opts s.1).getD c.1 (fun _ => 0, 0)).1 := by
  constructor
  · intro h
    obtain ⟨i, hi, rfl⟩ := List.mem_map.mp h
    obtain ⟨h1, h2⟩ := List.mem_filter.mp hi
    exact ⟨List.mem_range.mp h1, h2, rfl⟩
  · rintro ⟨h1, h2, h3⟩
    refine List.mem_map.mpr ⟨c.1, List.mem_filter.mpr ⟨List.mem_range.mpr h1, h2⟩, ?_⟩
    rw [← h3]
theorem fine_sub {G : Gm} {g : Nat → Nat} {l l' : List Nat} (nd : l.Nodup) (h : ∀ p ∈ l, p ∈ l') (f : G.fine l' g = true) : G.fine l g = true := by
  unfold Gm.fine at f ⊢
  rw [List.all_eq_true] at f ⊢
  intro a ha
  have k := of_decide_eq_true (f a (ans_sub h a ha))
  refine decide_eq_true (Nat.le_trans (nodup_sub_len _ _ ?_ (cut_sub h a)) k)
  exact (List.filter_sublist).nodup nd
theorem cost_sub {G : Gm} (st : G.Stay) (h0 : 0 < G.hands.length) (b : Nat) {s s' : Stt} (h : Sub G s s') : leO (G.cost b s) (G.cost b s') := by
  refine sim G G (Sub G) (fun s s' ⟨e, S, S', sub⟩ c' hc' => ?_) b s s' h
  obtain ⟨h1, h2, h3⟩ := unb_mem.mp hc'
  rw [← e] at h1 h2 h3
  refine ⟨(c'.1, G.nexts s ((G.opts s.1).getD c'.1 (fun _ => 0, 0)).1), unb_mem.mpr ⟨h1, fine_sub (St_nodup S) sub h2, rfl⟩, by rw [e]; exact Nat.le_refl _, fun t ht => ?_⟩
  obtain ⟨a, ha, rfl⟩ := List.mem_map.mp ht
  refine ⟨G.behind s'.1 (cutA ((G.opts s.1).getD c'.1 (fun _ => 0, 0)).1 s'.2 a), ?_, ?_, ?_, ?_, ?_⟩
  · rw [h3]
    exact List.mem_map.mpr ⟨a, ans_sub sub a ha, rfl⟩
  · show G.after s.1 = G.after s'.1
    rw [e]
  · exact behind_St st h0 _ (fun p hp => St_lt S p (List.mem_filter.mp hp).1) (cutA_ne ha)
  · exact behind_St st h0 _ (fun p hp => St_lt S' p (List.mem_filter.mp hp).1) (cutA_ne (ans_sub sub a ha))
  · exact move_sub (cut_sub sub a)
/-- two games on one board with hands as many, the one's choices among the other's, no dearer, the wish no less -/
structure Wider (G G' : Gm) : Prop where
  n : G.n = G'.n
  ends : G.ends = G'.ends
  many : G.hands.length = G'.hands.length
  W : G'.W ≤ G.W
  opt : ∀ t i, i < (G'.opts t).length → i < (G.opts t).length ∧ ((G.opts t).getD i (fun _ => 0, 0)).1 = ((G'.opts t).getD i (fun _ => 0, 0)).1 ∧ ((G.opts t).getD i (fun _ => 0, 0)).2 ≤ ((G'.opts t).getD i (fun _ => 0, 0)).2
theorem Wider.behind {G G' : Gm} (h : Wider G G') (t : Nat) (l : List Nat) : G.behind t l = G'.behind t l := by
  unfold Gm.behind Gm.after Gm.move
  rw [h.n, h.ends, h.many]
theorem Wider.nexts {G G' : Gm} (h : Wider G G') (s : Stt) (g : Nat → Nat) : G.nexts s g = G'.nexts s g := by
  unfold Gm.nexts
  exact List.map_congr_left fun a _ => h.behind _ _
theorem cost_wider {G G' : Gm} (h : Wider G G') (b : Nat) (s : Stt) : leO (G.cost b s) (G'.cost b s) := by
  refine sim G G' (fun s s' => s = s') (fun s s' e c' hc' => ?_) b s s rfl
  subst e
  obtain ⟨h1, h2, h3⟩ := unb_mem.mp hc'
  obtain ⟨k1, k2, k3⟩ := h.opt s.1 c'.1 h1
  refine ⟨c', unb_mem.mpr ⟨k1, ?_, by rw [h3, k2, h.nexts]⟩, k3, fun t ht => ⟨t, ht, rfl⟩⟩
  rw [k2]
  unfold Gm.fine at h2 ⊢
  rw [List.all_eq_true] at h2 ⊢
  exact fun a ha => decide_eq_true (Nat.le_trans (of_decide_eq_true (h2 a ha)) h.W)
/-- the same but for prices -/
structure Alike (G G' : Gm) : Prop where
  n : G.n = G'.n
  ends : G.ends = G'.ends
  many : G.hands.length = G'.hands.length
  W : G.W = G'.W
  len : ∀ t, (G.opts t).length = (G'.opts t).length
  opt : ∀ t i, ((G.opts t).getD i (fun _ => 0, 0)).1 = ((G'.opts t).getD i (fun _ => 0, 0)).1
theorem Alike.unb {G G' : Gm} (h : Alike G G') (s : Stt) : G.unb s = G'.unb s := by
  unfold Gm.unb
  rw [h.len]
  have e1 : ∀ i, G.fine s.2 ((G.opts s.1).getD i (fun _ => 0, 0)).1 = G'.fine s.2 ((G'.opts s.1).getD i (fun _ => 0, 0)).1 := fun i => by
    unfold Gm.fine
    rw [h.opt, h.W]
  have e2 : ∀ i, G.nexts s ((G.opts s.1).getD i (fun _ => 0, 0)).1 = G'.nexts s ((G'.opts s.1).getD i (fun _ => 0, 0)).1 := fun i => by
    unfold Gm.nexts
    rw [h.opt]
    refine List.map_congr_left fun a _ => ?_
    unfold Gm.behind Gm.after Gm.move
    rw [h.n, h.ends, h.many]
  rw [List.filter_congr fun i _ => e1 i]
  exact List.map_congr_left fun i _ => by rw [e2]
theorem Alike.ok {G G' : Gm} (h : Alike G G') : ∀ (b : Nat) (s : Stt), G.ok b s = G'.ok b s
  | 0, _ => rfl
  | b + 1, s => by
    show (G.unb s).any _ = (G'.unb s).any _
    rw [h.unb]
    congr 1
    funext c
    congr 1
    funext t
    exact h.ok b t
theorem Alike.lasts {G G' : Gm} (h : Alike G G') {s : Stt} {r : Option Nat} (l : Lasts G s r) : Lasts G' s r := by
  cases r with
  | none => exact fun b => by rw [← h.ok]; exact l b
  | some i => exact ⟨by rw [← h.ok]; exact l.1, by rw [← h.ok]; exact l.2⟩
/-- free of charge -/
theorem cost_free {G : Gm} (h : ∀ s, ∀ c ∈ G.unb s, G.price s.1 c.1 ≤ 0) (b : Nat) (s : Stt) : G.cost b s = if G.ok b s = true then some 0 else none := by
  have k := cost_ok G b s
  cases e : G.cost b s with
  | none =>
    rw [e] at k
    rw [← k]
    rfl
  | some v =>
    have := cost_bound G 0 h b s v e
    rw [e] at k
    rw [← k, show v = 0 by omega]
    rfl
end RLM
namespace RL
open PySem PySem.Spec PyProof.Rows L2 RLM
theorem isiTK {X : Cx} {K : PySem.W.Frag} (h : X.K = K := by rfl) : CallR X (.builtin "isinstance") (rIsiT K) := h ▸ call_isiT
/-! ### things that are alike, to a depth -/
def ScalV (x y : V) : Prop := x = y ∧ ((∃ i, x = .int i) ∨ (∃ b, x = .bl b) ∨ x = .non ∨ ∃ s, x = .str s)
def SameV : Nat → Hp → V → V → Prop
  | 0, _, x, y => ScalV x y
  | d + 1, H, x, y => ScalV x y ∨ ∃ (a b : Addr) (xs ys : List V), x = .ref a ∧ y = .ref b ∧ ((Rd H a (.lst xs) ∧ Rd H b (.lst ys)) ∨ (Rd H a (.tup xs) ∧ Rd H b (.tup ys))) ∧ xs.length = ys.length ∧ xs.length ≤ 1000 ∧ ∀ (k : Nat) (u v : V), xs[k]? = some u → ys[k]? = some v → SameV d H u v
theorem rd_same {H H' : Hp} {a : Addr} {o : HO} (s : Same H H') (h : Rd H a o) : Rd H' a o := by
  rcases h with h | ⟨u, h⟩
  · exact .inl (s _ _ h)
  · exact .inr ⟨u, s _ _ h⟩
theorem SameV.same {H H' : Hp} (s : Same H H') : ∀ {d : Nat} {x y : V}, SameV d H x y → SameV d H' x y
  | 0, _, _, h => h
  | d + 1, x, y, h => by
    rcases h with h | ⟨a, b, xs, ys, rfl, rfl, ab, l1, l2, each⟩
    · exact .inl h
    · refine .inr ⟨a, b, xs, ys, rfl, rfl, ?_, l1, l2, fun k u v h1 h2 => SameV.same s (each k u v h1 h2)⟩
      rcases ab with ⟨h1, h2⟩ | ⟨h1, h2⟩
      · exact .inl ⟨rd_same s h1, rd_same s h2⟩
      · exact .inr ⟨rd_same s h1, rd_same s h2⟩
theorem SameV.of0 {H : Hp} : ∀ {d : Nat} {x y : V}, ScalV x y → SameV d H x y
  | 0, _, _, h => h
  | _ + 1, _, _, h => .inl h
theorem ty_lst {K : PySem.W.Frag} {H : Hp} {a : Addr} {xs : List V} (h : Rd H a (.lst xs)) : TyX K H (.ref a) (.type "list") := by
  rcases h with h | ⟨o, h⟩
  · exact .base (.lst h)
  · exact .base (.frz h)
theorem ty_tup {K : PySem.W.Frag} {H : Hp} {a : Addr} {xs : List V} (h : Rd H a (.tup xs)) : TyX K H (.ref a) (.type "tuple") := by
  rcases h with h | ⟨o, h⟩
  · exact .base (.tup h)
  · exact .fTuple h
section
variable {P : Program} {w : World} {K : PySem.W.Frag} {mg : Str → Option Value} {base : Heap}
def spSame : Nat → Sp
  | 0 => fun _ _ _ _ => False
  | d + 1 => fun vs H Q _ => ∃ x y : V, vs = [x, y] ∧ SameV d H x y ∧ ∀ H', Same H H' → Q (.bl true) H'
end
end RL
/-! rows of any numbers as data, for == and != -/
namespace RL
open PySem PySem.Spec PyProof.Rows L2 RLM
def lotD (ns : List Int) : PyData := .tuple (ns.map PyData.int)
theorem lots_lay : ∀ dss : List (List Int), PyData.canLayAll0 (dss.map lotD) = true
  | [] => by simp [PyData.canLayAll0]
  | ns :: dss => by
    have h := SeqAt.canLay_of_shaped (shaped_tup ns)
    rw [List.map_cons]
    unfold PyData.canLayAll0
    rw [lots_lay dss]
    show ((lotD ns).canLay0 && true) = true
    rw [Bool.and_true]
    exact h
theorem lots_depth : ∀ dss : List (List Int), PyData.depthAll (dss.map lotD) ≤ 60
  | [] => by simp [PyData.depthAll]
  | ns :: dss => by
    have ih := lots_depth dss
    have h : (lotD ns).depth ≤ 60 := by
      unfold lotD
      simp [PyData.depth, PySem.W.ke_depthAll]
      try omega
    rw [List.map_cons]
    unfold PyData.depthAll
    omega
theorem lots_shaped (dss : List (List Int)) : SeqAt.shaped (.list (dss.map lotD)) = true := by
  unfold SeqAt.shaped
  rw [Bool.and_eq_true]
  constructor
  · unfold PyData.canLay0
    exact lots_lay dss
  · refine decide_eq_true ?_
    unfold PyData.depth
    have := lots_depth dss
    omega
theorem lots_eqvA : ∀ xs ys : List (List Int), PyData.eqvAll (xs.map lotD) (ys.map lotD) = decide (xs = ys)
  | [], [] => by simp [PyData.eqvAll]
  | [], _ :: _ => by simp [PyData.eqvAll]
  | _ :: _, [] => by simp [PyData.eqvAll]
  | x :: xs, y :: ys => by
    rw [List.map_cons, List.map_cons, PyData.eqvAll, lots_eqvA xs ys]
    have e : PyData.eqv (lotD x) (lotD y) = decide (x = y) := by
      unfold lotD
      rw [PyData.eqv]
      exact PySem.W.ked_eqvAll x y
    rw [e]
    by_cases h1 : x = y
    · by_cases h2 : xs = ys <;> simp [h1, h2]
    · simp [h1]
theorem dp_rowsA {K : PySem.W.Frag} {H : Hp} : ∀ {L : List (Addr × List Int)}, (∀ q ∈ L, H q.1 = some (.tup (q.2.map V.int))) → DpAll K H (L.map fun q => V.ref q.1) ((L.map (·.2)).map lotD)
  | [], _ => .nil
  | q :: L, h => .cons (.tup (SqT.of (h q (List.mem_cons_self ..))) (dp_ints _)) (dp_rowsA fun y hy => h y (List.mem_cons_of_mem _ hy))
theorem dp_rowsZ {K : PySem.W.Frag} {H : Hp} {l : Addr} {L : List (Addr × List Int)} (hl : H l = some (.lst (L.map fun q => V.ref q.1))) (h : ∀ q ∈ L, H q.1 = some (.tup (q.2.map V.int))) : Dp K H (.ref l) (.list ((L.map (·.2)).map lotD)) := .lst (SqL.of hl) (dp_rowsA h)
theorem rowsZ_eqv {xs ys : List (List Int)} : PyData.eqv (.list (xs.map lotD)) (.list (ys.map lotD)) = decide (xs = ys) := by
  rw [PyData.eqv, lots_eqvA]
end RL
/-! pairs of any numbers; slices, triples, repeated things -/
namespace RL
open PySem PySem.Spec PyProof.Rows L2 RLM
/-- pairs of any numbers, in a list -/
structure PairsZ (H : Hp) (l : Addr) (L : List (Addr × Int × Int)) : Prop where
  at_ : H l = some (.lst (L.map fun q => V.ref q.1))
  row : ∀ q ∈ L, H q.1 = some (.tup [.int q.2.1, .int q.2.2])
theorem PairsZ.same {H H' : Hp} {l : Addr} {L : List (Addr × Int × Int)} (h : PairsZ H l L) (s : Same H H') : PairsZ H' l L := ⟨s _ _ h.at_, fun q hq => s _ _ (h.row q hq)⟩
theorem list_choose {α β : Type} {Pr : β → α → Prop} : ∀ {ys : List β}, (∀ y ∈ ys, ∃ q, Pr y q) → ∃ L : List α, L.length = ys.length ∧ ∀ (k : Nat) (y : β) (q : α), ys[k]? = some y → L[k]? = some q → Pr y q
  | [], _ => ⟨[], rfl, fun k y q h => by simp at h⟩
  | y :: ys, h => by
    obtain ⟨q, hq⟩ := h y (List.mem_cons_self ..)
    obtain ⟨L, l, hL⟩ := list_choose (ys := ys) fun z hz => h z (List.mem_cons_of_mem _ hz)
    refine ⟨q :: L, by simp [l], fun k z r e1 e2 => ?_⟩
    cases k with
    | zero =>
      cases e1
      cases e2
      exact hq
    | succ k => exact hL k z r e1 e2
theorem SameV.up {H : Hp} : ∀ {d : Nat} {x y : V}, SameV d H x y → SameV (d + 1) H x y
  | 0, _, _, h => .inl h
  | d + 1, x, y, h => by
    rcases h with h | ⟨a, b, xs, ys, e1, e2, ab, l1, l2, each⟩
    · exact .inl h
    · exact .inr ⟨a, b, xs, ys, e1, e2, ab, l1, l2, fun k u v h1 h2 => SameV.up (each k u v h1 h2)⟩
theorem cut_to7 (k : Nat) {xs : List V} : cutV xs none (some (k : Int)) = xs.take k := by
  unfold cutV
  rw [HT.sIx_nat]
  show (xs.drop 0).take (min k xs.length - 0) = _
  rw [List.drop_zero, Nat.sub_zero]
  rcases Nat.le_total k xs.length with h | h
  · rw [Nat.min_eq_left h]
  · rw [Nat.min_eq_right h, List.take_of_length_le (Nat.le_refl _), List.take_of_length_le h]
theorem cut_from7 (k : Nat) {xs : List V} : cutV xs (some (k : Int)) none = xs.drop k := by
  unfold cutV
  rw [HT.sIx_nat]
  show (xs.drop (min k xs.length)).take (xs.length - min k xs.length) = _
  rcases Nat.le_total k xs.length with h | h
  · rw [Nat.min_eq_left h, List.take_of_length_le (by rw [List.length_drop]; omega)]
  · rw [Nat.min_eq_right h, List.drop_of_length_le h, List.drop_of_length_le (Nat.le_refl _)]
    simp
theorem dp_pairs {K : PySem.W.Frag} {H : Hp} {l : Addr} {L : List (Addr × Int × Int)} (h : PairsZ H l L) : Dp K H (.ref l) (.list ((L.map fun q => [q.2.1, q.2.2]).map lotD)) := by
  have := dp_rowsZ (K := K) (H := H) (l := l) (L := L.map fun q => (q.1, [q.2.1, q.2.2])) (by rw [h.at_, List.map_map]; rfl) fun q hq => by
    obtain ⟨r, hr, rfl⟩ := List.mem_map.mp hq
    exact h.row r hr
  rw [show (L.map fun q => (q.1, [q.2.1, q.2.2])).map (·.2) = L.map fun q => [q.2.1, q.2.2] by rw [List.map_map]; rfl] at this
  exact this
theorem tri_same {H : Hp} {a b : Addr} {x y z x' : V} (ha : H a = some (.tup [x, y, z])) (hb : H b = some (.tup [x', y, z])) (h1 : SameV 1 H x x') (h2 : ∃ s, y = .str s) (h3 : z = .non ∨ ∃ i, z = .int i) : SameV 2 H (.ref a) (.ref b) := by
  refine .inr ⟨a, b, _, _, rfl, rfl, .inr ⟨.inl ha, .inl hb⟩, rfl, (by show 3 ≤ 1000; decide), fun j u v e1 e2 => ?_⟩
  match j, e1, e2 with
  | 0, rfl, rfl => exact h1
  | 1, rfl, rfl => exact .inl ⟨rfl, .inr (.inr (.inr h2))⟩
  | 2, rfl, rfl =>
    rcases h3 with h | h
    · exact .inl ⟨rfl, .inr (.inr (.inl h))⟩
    · exact .inl ⟨rfl, .inl h⟩
theorem rep_one {K : PySem.W.Frag} {H : Hp} {l : Addr} {v : V} {k : Int} {Q : VK} (hl : H l = some (.tup [v])) (h1 : 1 ≤ k) (h2 : k ≤ 1000) (key : ∀ t H', Same H H' → H' t = some (.tup (List.replicate k.toNat v)) → Q (.ref t) H') : rRepT1 K (.ref l) (.int k) H Q :=
  ⟨l, k, [v], rfl, rfl, SqT.of hl, List.cons_ne_nil _ _, h1, h2, (by show 1 ≤ 1000; decide), fun e => key l H (Same.refl _) (by rw [hl, e]; rfl), fun q hq => key q _ (same_upd hq) (by rw [upd_same, rep_flat])⟩
end RL
/-! games: priced looks, hands -/
namespace RL
open PySem PySem.Spec PyProof.Rows L2 RLM
abbrev Plk := Addr × V × Look × Nat
def PlkAt (n : Nat) (H : Hp) (q : Plk) : Prop := H q.1 = some (.tup [q.2.1, vI q.2.2.2]) ∧ LookAt n H q.2.1 q.2.2.1 ∧ LookOk n q.2.2.1 ∧ q.2.2.2 ≤ 99
abbrev Hnd := Addr × List Plk
def HndAt (n : Nat) (H : Hp) (h : Hnd) : Prop := H h.1 = some (.tup (h.2.map fun q => V.ref q.1)) ∧ (∀ q ∈ h.2, PlkAt n H q) ∧ h.2.length ≤ 4
def HndsAt (n : Nat) (H : Hp) (a : Addr) (hs : List Hnd) : Prop := H a = some (.tup (hs.map fun h => V.ref h.1)) ∧ (∀ h ∈ hs, HndAt n H h) ∧ 1 ≤ hs.length ∧ hs.length ≤ 3
theorem PlkAt.same {n : Nat} {H H' : Hp} {q : Plk} (s : Same H H') (h : PlkAt n H q) : PlkAt n H' q := ⟨s _ _ h.1, h.2.1.same s, h.2.2⟩
theorem HndAt.same {n : Nat} {H H' : Hp} {q : Hnd} (s : Same H H') (h : HndAt n H q) : HndAt n H' q := ⟨s _ _ h.1, fun q hq => (h.2.1 q hq).same s, h.2.2⟩
theorem HndsAt.same {n : Nat} {H H' : Hp} {a : Addr} {hs : List Hnd} (s : Same H H') (h : HndsAt n H a hs) : HndsAt n H' a hs := ⟨s _ _ h.1, fun q hq => (h.2.1 q hq).same s, h.2.2⟩
section
variable {P : Program} {w : World} {K : PySem.W.Frag} {mg : Str → Option Value} {base : Heap}
def spChkFilled (K : PySem.W.Frag) : Sp := fun vs H Q _ => ∃ (c x t : Addr) (n : Nat) (E : List (Nat × Nat)) (p : Nat → Prop), vs = [.ref x, .ref t] ∧ BoardAt K c H x n E ∧ H t = some (.tup ((lotP n p).map vI)) ∧ (∃ b, b < n ∧ p b) ∧ ∀ H', Same H H' → Q .non H'
theorem sc_check_filled_lot : FnScope ["board", "lot"] ["board", "lot"] (defScope s_check_filled_lot) := ⟨rfl, rfl, rfl, by decide +kernel, rfl, by decide +kernel, by decide +kernel⟩
theorem ok_chkFilled (T : Tx K mg) : Has P w K mg base (He.ga K "check_filled_lot") 5 ["board", "lot"] (spChkFilled K) := by
  obtain ⟨⟨fd_is_filled_lot, F_is_filled_lot, b_is_filled_lot⟩, kp_is_filled_lot⟩ := ok_filled (P := P) (w := w) (base := base) T
  obtain ⟨fd, F⟩ := T.d_check_filled_lot
  refine ⟨⟨fd, F.ok sc_check_filled_lot (fun vs H Q E h => ?_) (fun cdv A outer s H vs Q E hr h => ?_), F.bindsN fun _ _ _ _ _ _ us hl => match us, hl with | [_, _], _ => rfl⟩, F.kp⟩
  · obtain ⟨c, x, t, n, E, p, rfl, _⟩ := h
    rfl
  · obtain ⟨c, x, t, n, E, p, rfl, B, ht, ne, h⟩ := h
    have hr_is_filled_lot : Room 4 _ := hr.mono (by decide)
    refine ⟨_, PSs.nox (pss_one (ps_if (pt_not (pt_val (pe_call F_is_filled_lot hr_is_filled_lot rfl T.glo_is_filled_lot kp_is_filled_lot b_is_filled_lot .nil pass0 (pa_cons (pv 0) (pa_cons (pv 1) pa_nil))))) (pss_one ps_never) pss_nil)), ?_⟩
    exact ⟨_, rfl, _, rfl, c, x, t, n, E, p, rfl, B, ht, ne, fun H1 s1 => ⟨true, rfl, iteF (h _ s1)⟩⟩
def spPriced (K : PySem.W.Frag) : Sp := fun vs H Q _ => ∃ (c x : Addr) (n : Nat) (E : List (Nat × Nat)) (q : Plk), vs = [.ref x, .ref q.1] ∧ BoardAt K c H x n E ∧ PlkAt n H q ∧ ∀ H', Same H H' → Q (.bl true) H'
theorem sc_is_priced_look : FnScope ["board", "pair"] ["board", "pair"] (defScope s_is_priced_look) := ⟨rfl, rfl, rfl, by decide +kernel, rfl, by decide +kernel, by decide +kernel⟩
theorem ok_priced (T : Tx K mg) : Has P w K mg base (He.ga K "is_priced_look") 7 ["board", "pair"] (spPriced K) := by
  obtain ⟨⟨fd_is_look, F_is_look, b_is_look⟩, kp_is_look⟩ := ok_is_look (P := P) (w := w) (base := base) T
  obtain ⟨⟨fd_is_between, F_is_between, b_is_between⟩, kp_is_between⟩ := ok_is_between (P := P) (w := w) (base := base) T
  obtain ⟨fd, F⟩ := T.d_is_priced_look
  refine ⟨⟨fd, F.ok sc_is_priced_look (fun vs H Q E h => ?_) (fun cdv A outer s H vs Q E hr h => ?_), F.bindsN fun _ _ _ _ _ _ us hl => match us, hl with | [_, _], _ => rfl⟩, F.kp⟩
  · obtain ⟨c, x, n, E, q, rfl, _⟩ := h
    rfl
  · obtain ⟨c, x, n, E, q, rfl, B, PL, h⟩ := h
    have hr_is_look : Room 6 _ := hr.mono (by decide)
    have hr_is_between : Room 2 _ := hr.mono (by decide)
    refine ⟨_, PSs.nox (pss_cons (ps_if (PW.pt (pw_or (pt_not (pt_val (pe_callB (isiK (K := K)) (by rfl) T.free_isinstance (by decide +kernel) (pa_cons (pv 1) (pa_cons (pe_bltn (v := .ty "tuple") (u := .type "tuple") (by rfl) T.free_tuple (by decide +kernel) rfl) pa_nil))))) (pw_or1 (pt_cmpR op_ne (pe_callB (lenK (K := K)) (by rfl) T.free_len (by decide +kernel) (pa_cons (pv 1) pa_nil)) pe_int (nomark _))))) (pss_one (ps_ret pe_bl)) pss_nil)
      (pss_one (ps_ret (pe_and (pe_call F_is_look hr_is_look rfl T.glo_is_look kp_is_look b_is_look .nil pass0 (pa_cons (pv 0) (pa_cons (pe_ix (ixT (K := K)) (pv 1) pe_int (fun _ _ => rfl)) pa_nil))) (pe_one (pe_call F_is_between hr_is_between rfl T.glo_is_between kp_is_between b_is_between .nil pass0 (pa_cons (pe_ix (ixT (K := K)) (pv 1) pe_int (fun _ _ => rfl)) (pa_cons pe_int (pa_cons (pe_glob (v := .int 99) rfl T.glob_MOST_PRICE.choose_spec ⟨_, rfl⟩) pa_nil))))))))), ?_⟩
    obtain ⟨ht, LA, LO, le⟩ := PL
    refine ⟨_, rfl, _, _, _, _, true, rfl, .ty _, .base (.tup ht), kit_ty (by decide +kernel), true, rfl, iteF ?_⟩
    refine ⟨_, rfl, q.1, _, rfl, .inr (SqT.of ht), rfl, _, rfl, iteF ?_⟩
    refine ⟨_, rfl, _, rfl, q.1, _, 0, _, rfl, rfl, SqT.of ht, rfl, c, x, _, n, E, _, rfl, B, LA, LO, fun H1 s1 => ?_⟩
    refine ⟨true, rfl, iteT ⟨_, rfl, q.1, _, 1, _, rfl, rfl, SqT.of (s1 _ _ ht), rfl, _, _, _, rfl, ?_⟩⟩
    rw [decide_eq_true (show (0 : Int) ≤ (q.2.2.2 : Nat) ∧ ((q.2.2.2 : Nat) : Int) ≤ 99 from ⟨by omega, by omega⟩)]
    exact h H1 s1
def spHand (K : PySem.W.Frag) : Sp := fun vs H Q _ => ∃ (c x : Addr) (n : Nat) (E : List (Nat × Nat)) (q : Hnd), vs = [.ref x, .ref q.1] ∧ BoardAt K c H x n E ∧ HndAt n H q ∧ ∀ H', Same H H' → Q (.bl true) H'
theorem sc_is_hand : FnScope ["board", "hand", "pair"] ["board", "hand"] (defScope s_is_hand) := ⟨rfl, rfl, rfl, by decide +kernel, rfl, by decide +kernel, by decide +kernel⟩
theorem ok_hand (T : Tx K mg) : Has P w K mg base (He.ga K "is_hand") 8 ["board", "hand"] (spHand K) := by
  obtain ⟨⟨fd_is_priced_look, F_is_priced_look, b_is_priced_look⟩, kp_is_priced_look⟩ := ok_priced (P := P) (w := w) (base := base) T
  obtain ⟨fd, F⟩ := T.d_is_hand
  refine ⟨⟨fd, F.ok sc_is_hand (fun vs H Q E h => ?_) (fun cdv A outer s H vs Q E hr h => ?_), F.bindsN fun _ _ _ _ _ _ us hl => match us, hl with | [_, _], _ => rfl⟩, F.kp⟩
  · obtain ⟨c, x, n, E, q, rfl, _⟩ := h
    rfl
  · obtain ⟨c, x, n, E, q, rfl, B, HA, h⟩ := h
    have hr_is_priced_look : Room 7 _ := hr.mono (by decide)
    refine ⟨_, PSs.nox (pss_cons (ps_if (PW.pt (pw_or (pt_not (pt_val (pe_callB (isiK (K := K)) (by rfl) T.free_isinstance (by decide +kernel) (pa_cons (pv 1) (pa_cons (pe_bltn (v := .ty "tuple") (u := .type "tuple") (by rfl) T.free_tuple (by decide +kernel) rfl) pa_nil))))) (pw_or1 (pt_cmpR op_gt (pe_callB (lenK (K := K)) (by rfl) T.free_len (by decide +kernel) (pa_cons (pv 1) pa_nil)) (pe_glob (v := .int 4) rfl T.glob_MOST_CHOICES.choose_spec ⟨_, rfl⟩) (nomark _))))) (pss_one (ps_ret pe_bl)) pss_nil)
      (pss_one (ps_ret (pe_callB (allK (K := K)) (by rfl) T.free_all (by decide +kernel) (pa_cons (pe_lc (own := [("pair", 2)]) (g := (gName 2)) (tt := tYes) rfl sc_is_hand.nd (piT (K := K) (pv 1)) (blkOk_by (by kernel_rfl)) (fun _ _ _ _ _ => (pg_name (i := 2) sc_is_hand.nd rfl (Or.inl rfl))) (fun _ _ _ _ _ => pts_nil) (fun _ _ _ _ _ => (pe_call F_is_priced_look hr_is_priced_look rfl T.glo_is_priced_look kp_is_priced_look b_is_priced_look .nil pass0 (pa_cons (pv 0) (pa_cons (pv 2) pa_nil))))) pa_nil))))), ?_⟩
    obtain ⟨ht, each, l4⟩ := HA
    refine ⟨_, rfl, _, _, _, _, true, rfl, .ty _, .base (.tup ht), kit_ty (by decide +kernel), true, rfl, iteF ?_⟩
    refine ⟨_, rfl, q.1, _, rfl, .inr (SqT.of ht), _, _, rfl, rfl, false, ?_, iteF ?_⟩
    · show V.bl (decide _) = _
      rw [List.length_map, decide_eq_false (by omega)]
    refine ⟨_, rfl, q.1, rfl, ⟨_, SqT.of ht⟩, fun D hD => ?_⟩
    refine lc_val (walk_tup (K := K) (a := q.1) (xs := q.2.map fun q => V.ref q.1)) (fun _ => .bl true) (by rw [List.length_map]; omega) hD (fun H1 s1 => SqT.of (s1 _ _ ht)) ?_ ?_
    · rintro i y H1 H2 Nx hi s1 ⟨rfl, hy⟩ k
      rw [List.getElem?_map] at hy
      obtain ⟨z, hz, rfl⟩ := Option.map_eq_some_iff.mp hy
      exact ⟨rfl, _, rfl, _, rfl, c, x, n, E, z, rfl, B.same s1, (each z (List.mem_of_getElem? hz)).same s1, fun H3 s3 => k _ s3⟩
    · intro H1 h1 s1
      refine ⟨D, (List.range (q.2.map fun q => V.ref q.1).length).map fun _ => true, rfl, SqL.of (by rw [h1, List.map_map]; rfl), ?_⟩
      rw [all_true (by simp)]
      exact h H1 s1
def spChkHands (K : PySem.W.Frag) : Sp := fun vs H Q _ => ∃ (c x a : Addr) (n : Nat) (E : List (Nat × Nat)) (hs : List Hnd), vs = [.ref x, .ref a] ∧ BoardAt K c H x n E ∧ HndsAt n H a hs ∧ ∀ H', Same H H' → Q .non H'
theorem sc_check_hands : FnScope ["board", "hands", "number", "hand"] ["board", "hands"] (defScope s_check_hands) := ⟨rfl, rfl, rfl, by decide +kernel, rfl, by decide +kernel, by decide +kernel⟩
theorem ok_chkHands (T : Tx K mg) : Has P w K mg base (He.ga K "check_hands") 9 ["board", "hands"] (spChkHands K) := by
  obtain ⟨⟨fd_is_hand, F_is_hand, b_is_hand⟩, kp_is_hand⟩ := ok_hand (P := P) (w := w) (base := base) T
  obtain ⟨⟨fd_is_between, F_is_between, b_is_between⟩, kp_is_between⟩ := ok_is_between (P := P) (w := w) (base := base) T
  obtain ⟨fd, F⟩ := T.d_check_hands
  refine ⟨⟨fd, F.ok sc_check_hands (fun vs H Q E h => ?_) (fun cdv A outer s H vs Q E hr h => ?_), F.bindsN fun _ _ _ _ _ _ us hl => match us, hl with | [_, _], _ => rfl⟩, F.kp⟩
  · obtain ⟨c, x, a, n, E, hs, rfl, _⟩ := h
    rfl
  · obtain ⟨c, x, a, n, E, hs, rfl, B, HA, h⟩ := h
    have hr_is_hand : Room 8 _ := hr.mono (by decide)
    have hr_is_between : Room 2 _ := hr.mono (by decide)
    refine ⟨_, PSs.nox (pss_cons (ps_if (pt_not (pt_val (pe_call F_is_between hr_is_between rfl T.glo_is_between kp_is_between b_is_between .nil pass0 (pa_cons (pe_callB (lenK (K := K)) (by rfl) T.free_len (by decide +kernel) (pa_cons (pv 1) pa_nil)) (pa_cons pe_int (pa_cons (pe_glob (v := .int 3) rfl T.glob_MOST_HANDS.choose_spec ⟨_, rfl⟩) pa_nil)))))) (pss_one ps_never) pss_nil)
      (pss_one (ps_for PassesOwn.never rfl (piEnumT (K := K) (by rfl) T.free_enumerate (pa_cons (pv 1) pa_nil)) (pgT (K := K) (n := 2) rfl (pgs_cons (pg_name (i := 2) sc_check_hands.nd rfl (Or.inl rfl)) (pgs_cons (pg_name (i := 3) sc_check_hands.nd rfl (Or.inl rfl)) pgs_nil))) (pss_one (ps_if (pt_not (pt_val (pe_call F_is_hand hr_is_hand rfl T.glo_is_hand kp_is_hand b_is_hand .nil pass0 (pa_cons (pv 0) (pa_cons (pv 3) pa_nil))))) (pss_one ps_never) pss_nil))))), ?_⟩
    obtain ⟨ha, each, l1, l3⟩ := HA
    refine ⟨_, rfl, a, _, rfl, .inr (SqT.of ha), _, _, _, rfl, true, ?_, iteF ?_⟩
    · show V.bl (decide _) = _
      rw [List.length_map, decide_eq_true ⟨by omega, by omega⟩]
    refine ⟨_, rfl, a, _, rfl, SqT.of ha, ?_⟩
    refine for_it (walk_enumT (K := K) (a := a) (xs := hs.map fun h => V.ref h.1)) (fun i σ H1 => (∃ v2 v3 : Option V, σ = [some (.ref x), some (.ref a), v2, v3]) ∧ Same H H1) ⟨⟨_, _, rfl⟩, fun _ _ e => e⟩ (fun i σ H1 _ ⟨_, s1⟩ => SqT.of (s1 _ _ ha)) ?_ ?_
    · rintro i y σ H1 H2 hi ⟨⟨v2, v3, rfl⟩, s1⟩ ⟨t, y1, y2, rfl, ht, rfl, e1, e2⟩
      cases Option.some.inj e1
      obtain ⟨z, hz, rfl⟩ := Option.map_eq_some_iff.mp (List.getElem?_map ▸ e2 : Option.map (fun h : Hnd => V.ref h.1) hs[i]? = some y2)
      have s2 : Same H1 (upd H1 t (.tup [.int (i : Nat), .ref z.1])) := same_upd ht
      have s12 := s1.trans s2
      exact ⟨t, _, rfl, SqT.of upd_same, rfl, _, _, rfl, _, _, rfl, rfl, _, rfl, _, rfl, c, x, n, E, z, rfl, B.same s12, (each z (List.mem_of_getElem? hz)).same s12, fun H3 s3 => ⟨true, rfl, iteF ⟨⟨_, _, rfl⟩, s12.trans s3⟩⟩⟩
    · exact fun σ H1 ⟨_, s1⟩ => h H1 s1
theorem zip_refs {α : Type} (R : Addr → α → Prop) : ∀ (ys : List V) (zs : List α), ys.length = zs.length → (∀ (k : Nat) (y : V) (z : α), ys[k]? = some y → zs[k]? = some z → ∃ a : Addr, y = V.ref a ∧ R a z) → ∃ os : List (Addr × α), ys = os.map (fun o => V.ref o.1) ∧ os.map (·.2) = zs ∧ ∀ o ∈ os, R o.1 o.2
  | [], [], _, _ => ⟨[], rfl, rfl, fun _ h => nomatch h⟩
  | y :: ys, z :: zs, l, h => by
    obtain ⟨a, rfl, r⟩ := h 0 y z rfl rfl
    obtain ⟨os, e1, e2, e3⟩ := zip_refs R ys zs (Nat.succ.inj l) fun k y' z' h1 h2 => h (k + 1) y' z' h1 h2
    refine ⟨(a, z) :: os, by rw [e1]; rfl, by rw [← e2]; rfl, fun o ho => ?_⟩
    rcases List.mem_cons.mp ho with e | e
    · rw [e]; exact r
    · exact e3 o e
  | [], _ :: _, l, _ => nomatch l
  | _ :: _, [], l, _ => nomatch l
/-- one choice of a hand as it stands: the answers of all places, the price -/
def OptAt (n : Nat) (H : Hp) (q : Addr × (Nat → Nat) × Nat) : Prop := ∃ u, H q.1 = some (.tup [.ref u, vI q.2.2]) ∧ H u = some (.tup ((List.range n).map fun p => vI (q.2.1 p)))
theorem OptAt.same {n : Nat} {H H' : Hp} {q : Addr × (Nat → Nat) × Nat} (s : Same H H') (h : OptAt n H q) : OptAt n H' q := let ⟨u, a, b⟩ := h; ⟨u, s _ _ a, s _ _ b⟩
/-- the looks' answers and prices -/
noncomputable def optsL (M : Nat → Nat → Nat) (ls : List Plk) : List ((Nat → Nat) × Nat) := ls.map fun q => (ans M q.2.2.1, q.2.2.2)
def spOptions (K : PySem.W.Frag) : Sp := fun vs H Q _ => ∃ (c x : Addr) (n : Nat) (E : List (Nat × Nat)) (M : Nat → Nat → Nat) (q : Hnd), vs = [.ref x, .ref q.1] ∧ BoardAt K c H x n E ∧ Spans n E M ∧ HndAt n H q ∧
  ∀ H' l (os : List (Addr × (Nat → Nat) × Nat)), H' l = some (.lst (os.map fun o => V.ref o.1)) → os.map (·.2) = (fun _ => 0, 0) :: optsL M q.2 → (∀ o ∈ os, OptAt n H' o) → H l = none → Same H H' → Q (.ref l) H'
theorem sc_hand_options : FnScope ["board", "hand", "look", "price"] ["board", "hand"] (defScope s_hand_options) := ⟨rfl, rfl, rfl, by decide +kernel, rfl, by decide +kernel, by decide +kernel⟩
theorem ok_options (T : Tx K mg) : Has P w K mg base (He.ga K "hand_options") 8 ["board", "hand"] (spOptions K) := by
  obtain ⟨⟨fd_answers, F_answers, b_answers⟩, kp_answers⟩ := ok_answers (P := P) (w := w) (base := base) T
  obtain ⟨⟨fd_len, F_len, b_len⟩, kp_len⟩ := ok_len (P := P) (w := w) (base := base) T
  obtain ⟨fd, F⟩ := T.d_hand_options
  refine ⟨⟨fd, F.ok sc_hand_options (fun vs H Q E h => ?_) (fun cdv A outer s H vs Q E hr h => ?_), F.bindsN fun _ _ _ _ _ _ us hl => match us, hl with | [_, _], _ => rfl⟩, F.kp⟩
  · obtain ⟨c, x, n, E, M, q, rfl, _⟩ := h
    rfl
  · obtain ⟨c, x, n, E, M, q, rfl, B, S, HA, h⟩ := h
    have hr_answers : Room 7 _ := hr.mono (by decide)
    have hr_len : Room 2 _ := hr.mono (by decide)
    refine ⟨_, PSs.nox (pss_one (ps_ret (pe_op op_cat (pe_lst (pa_cons (pe_tup (pa_cons (pe_op (repTK (K := K)) (pe_tup (pa_cons pe_int pa_nil)) (pe_callB (call_lenOwn T.m_len F_len b_len hr_len) (by rfl) T.free_len (by decide +kernel) (pa_cons (pv 0) pa_nil))) (pa_cons pe_int pa_nil))) pa_nil)) (pe_lc (own := [("look", 2), ("price", 3)]) (tt := tYes) rfl sc_hand_options.nd (piT (K := K) (pv 1)) (blkOk_by (by kernel_rfl)) (fun _ _ _ _ _ => (pgT (K := K) (n := 2) rfl (pgs_cons (pg_name (i := 2) sc_hand_options.nd rfl (Or.inl rfl)) (pgs_cons (pg_name (i := 3) sc_hand_options.nd rfl (Or.inl rfl)) pgs_nil)))) (fun _ _ _ _ _ => pts_nil) (fun _ _ _ _ _ => (pe_tup (pa_cons (pe_call F_answers hr_answers rfl T.glo_answers kp_answers b_answers .nil pass0 (pa_cons (pv 0) (pa_cons (pv 2) pa_nil))) (pa_cons (pv 3) pa_nil)))))))), ?_⟩
    obtain ⟨ht, each, l4⟩ := HA
    obtain ⟨dx, q1, q2, q3, hx⟩ := B.obj
    have n8 := B.hi
    have n1 := B.lo
    refine ⟨(by show 1 ≤ sizeLine; decide), fun p0 hp0 => ?_⟩
    have s0 : Same H (upd H p0 (.tup [V.int 0])) := same_upd hp0
    refine ⟨_, rfl, x, dx, _, rfl, s0 _ _ hx, c, x, n, E, rfl, B.same s0, ?_⟩
    refine ⟨(n : Int), rfl, by omega, by omega, rep_one (k := (n : Int)) upd_same (by omega) (by omega) fun u H1 s1 hu => ?_⟩
    refine ⟨(by show 2 ≤ sizeLine; decide), fun p1 hp1 => ⟨(by show 1 ≤ sizeLine; decide), fun l1 hl1 => ?_⟩⟩
    have s2 : Same H1 (upd H1 p1 (.tup [.ref u, V.int 0])) := same_upd hp1
    have s3 : Same (upd H1 p1 (.tup [.ref u, V.int 0])) (upd (upd H1 p1 (.tup [.ref u, V.int 0])) l1 (.lst [.ref p1])) := same_upd hl1
    have o0 : OptAt n (upd (upd H1 p1 (.tup [.ref u, V.int 0])) l1 (.lst [.ref p1])) (p1, fun _ => 0, 0) := ⟨u, s3 _ _ upd_same, by
      rw [(s2.trans s3) _ _ hu, Int.toNat_natCast]
      show some (HO.tup (List.replicate n (V.int 0))) = some (HO.tup ((List.range n).map fun _ => V.int 0))
      rw [List.map_const', List.length_range]⟩
    have hl1' : (upd (upd H1 p1 (.tup [.ref u, V.int 0])) l1 (.lst [.ref p1])) l1 = some (.lst [.ref p1]) := upd_same
    have s03 : Same H (upd (upd H1 p1 (.tup [.ref u, V.int 0])) l1 (.lst [.ref p1])) := ((s0.trans s1).trans s2).trans s3
    generalize (upd (upd H1 p1 (.tup [.ref u, V.int 0])) l1 (.lst [.ref p1])) = H3 at o0 hl1' s03
    refine ⟨_, rfl, q.1, rfl, ⟨_, SqT.of (s03 _ _ ht)⟩, fun D hD => ?_⟩
    refine lc_rel (walk_tup (K := K) (a := q.1) (xs := q.2.map fun q => V.ref q.1)) (fun i v H' => ∃ a, v = .ref a ∧ ∀ z, (optsL M q.2)[i]? = some z → OptAt n H' (a, z)) (by rw [List.length_map]; omega) hD (fun i v H1 H2 ⟨a, e, r⟩ tk => ⟨a, e, fun z hz => let ⟨u, x1, x2⟩ := r z hz; ⟨u, tk _ _ x1, tk _ _ x2⟩⟩) (fun H1 s1 => SqT.of (s1 _ _ (s03 _ _ ht))) ?_ ?_
    · rintro i y H4 H5 Nx hi s4 ⟨rfl, hy⟩ k
      obtain ⟨z, hz, rfl⟩ := Option.map_eq_some_iff.mp (List.getElem?_map ▸ hy : Option.map (fun h : Plk => V.ref h.1) q.2[i]? = some y)
      obtain ⟨hz1, LA, LO, le⟩ := (each z (List.mem_of_getElem? hz)).same (s03.trans s4)
      refine ⟨z.1, _, rfl, SqT.of hz1, rfl, _, _, rfl, _, _, rfl, rfl, rfl, ?_⟩
      refine ⟨_, rfl, _, rfl, c, x, _, n, E, M, _, rfl, B.same (s03.trans s4), S, LA, LO, fun H6 t ht6 s6 => ⟨_, rfl, (by show 2 ≤ sizeLine; decide), fun p hp => k _ _ ⟨p, rfl, fun y hy => ?_⟩ (s6.trans (same_upd hp))⟩⟩
      have ey : (ans M z.2.2.1, z.2.2.2) = y := by
        unfold optsL at hy
        rw [List.getElem?_map, hz] at hy
        exact Option.some.inj hy
      subst ey
      exact ⟨t, upd_same, by rw [upd_ne (ne_of_none ht6 hp), ht6, List.map_map]; rfl⟩
    · intro H4 ys h4 ly each4 s4
      rw [List.length_map] at ly
      obtain ⟨os, e1, e2, e3⟩ := zip_refs (fun a z => OptAt n H4 (a, z)) ys (optsL M q.2) (by unfold optsL; rw [List.length_map]; exact ly) fun k y z hy hz => let ⟨a, e, r⟩ := each4 k y hy; ⟨a, e, r z hz⟩
      refine ⟨l1, D, _, _, rfl, rfl, s4 _ _ hl1', h4, ?_, fun g hg => ?_⟩
      · have : ([V.ref p1].length + ys.length) ≤ 100 := by rw [ly]; show 1 + q.2.length ≤ 100; omega
        exact Nat.le_trans this (by decide)
      · have s5 := same_upd (o := HO.lst ([V.ref p1] ++ ys)) hg
        refine h _ g ((p1, fun _ => 0, 0) :: os) (by rw [upd_same, e1]; rfl) (by rw [← e2]; rfl) (fun o ho => ?_) ?_ ((s03.trans s4).trans s5)
        · rcases List.mem_cons.mp ho with e | e
          · rw [e]
            exact o0.same (s4.trans s5)
          · exact OptAt.same s5 (e3 o e)
        · cases eg : H g with
          | none => rfl
          | some u => rw [s4 _ _ (s03 _ _ eg)] at hg; cases hg
end
end RL
/-! A comprehension whose elements are lists. -/
namespace RL
open PySem PySem.Spec PyProof.Rows L2 RLM
/-- all but D stays -/
def KX (D : Addr) (H H' : Hp) : Prop := ∀ (a : Addr) (o : HO), a ≠ D → H a = some o → H' a = some o
section
variable {J : It} {n : Nat} {G : Hp → Prop} {Y : Nat → Hp → V → Hp → Prop} {g : TG} {tt : TT} {te : TE} {vs : List Nat} {σ : L2.St} {H : Hp} {D : Addr} {Qd : Hp → Prop}
/-- [e for x in ..]: what R says of each, where R may speak of lists too -/
theorem lc_relD (w : Walk J n G Y) (R : Nat → V → Hp → Prop) (hn : n ≤ 100000) (hD : H D = none) (tk : ∀ k v H1 H2, R k v H1 → (∃ zs, H1 D = some (.lst zs)) → KX D H1 H2 → R k v H2) (hG : ∀ H1, Same H H1 → G H1)
    (hs : ∀ i x H1 H2 (Nx : V → Hp → Prop), i < n → (∃ zs, H1 D = some (.lst zs)) → Same H H1 → Y i H1 x H2 → (∀ y H4, R i y H4 → Same H1 H4 → Nx y H4) → g x (wipe σ vs) H2 fun σ2 H3 => wipe σ2 vs = wipe σ vs ∧ te σ2 H3 Nx)
    (hd : ∀ H1 ys, H1 D = some (.lst ys) → ys.length = n → (∀ k y, ys[k]? = some y → R k y H1) → Same H H1 → Qd H1) :
    ∃ W : Nat → Nat → Hp → Prop, (∃ m, W 0 m (upd H D (.lst []))) ∧ ∀ i m H, W i m H →
      (J.stop i H ∧ Qd H) ∨ (J.go i H ∧ ∃ Nx : Hp → Prop, (∀ H', Nx H' → ∃ m', m' < m ∧ W (i + 1) m' H') ∧ ∀ x H', J.yld i H x H' → g x (wipe σ vs) H' fun σ2 H2 => wipe σ2 vs = wipe σ vs ∧ tYes σ2 H2 fun b H3 =>
        if b = true then te σ2 H3 fun y H4 => ∃ acc, H4 D = some (.lst acc) ∧ acc.length < sizeLine ∧ Nx (upd H4 D (.lst (acc ++ [y]))) else Nx H3) := by
  refine lc_it w (fun i H1 => ∃ ys, H1 D = some (.lst ys) ∧ ys.length = i ∧ (∀ k y, ys[k]? = some y → R k y H1) ∧ Same H H1) ⟨[], upd_same, rfl, fun k y e => (by simp at e), same_upd hD⟩ (fun i H1 _ ⟨_, _, _, _, s1⟩ => hG H1 s1) ?_ (fun H1 ⟨ys, h1, h2, h3, h4⟩ => hd H1 ys h1 h2 h3 h4)
  rintro i x H1 H2 hi ⟨ys, h1, h2, h3, s1⟩ hY
  refine hs i x H1 H2 (fun y H4 => ∃ acc, H4 D = some (.lst acc) ∧ acc.length < sizeLine ∧ ∃ zs, (upd H4 D (.lst (acc ++ [y]))) D = some (.lst zs) ∧ zs.length = i + 1 ∧ (∀ k y', zs[k]? = some y' → R k y' (upd H4 D (.lst (acc ++ [y])))) ∧ Same H (upd H4 D (.lst (acc ++ [y])))) hi ⟨ys, h1⟩ s1 hY fun y H4 r s4 => ?_
  have h4 := s4 _ _ h1
  refine ⟨ys, h4, ?_, ys ++ [y], upd_same, by simp [h2], fun k y' e => ?_, same_mut (s1.trans s4) hD⟩
  · rw [h2]
    exact Nat.lt_of_lt_of_le hi (Nat.le_trans hn (by decide))
  · by_cases hk : k < ys.length
    · rw [List.getElem?_append_left hk] at e
      refine tk _ _ _ _ (h3 k y' e) ⟨_, h1⟩ fun a o na ha => ?_
      rw [upd_ne na]
      exact s4 _ _ ha
    · rw [List.getElem?_append_right (by omega)] at e
      have ek : k = ys.length := by
        obtain ⟨z1, _⟩ := List.getElem?_eq_some_iff.mp e
        simp at z1
        omega
      rw [ek, Nat.sub_self] at e
      cases e
      rw [ek, h2]
      refine tk _ _ _ _ r ⟨_, h4⟩ fun a o na ha => ?_
      rw [upd_ne na]
      exact ha
end
/-- lots stay where only a list that is none of theirs changes -/
theorem LotsAt.kx {n m : Nat} {H H' : Hp} {l D : Addr} {q : Nat → Nat → Prop} (k : KX D H H') (ne : l ≠ D) (hD : ∃ zs, H D = some (.lst zs)) (h : LotsAt n H l m q) : LotsAt n H' l m q := by
  obtain ⟨us, h1, h2, h3⟩ := h.ex
  obtain ⟨zs, hD⟩ := hD
  exact ⟨⟨us, k _ _ ne h1, h2, fun i u e => k _ _ (ne_of (h3 i u e) hD (by intro z; cases z)) (h3 i u e)⟩⟩
end RL
/-! defs with keywords -/
namespace RL
open PySem PySem.Spec PyProof.Rows L2
/-- no defaults: positional values, the rest by keywords in the parameters' order -/
theorem kbindsA {K : PySem.W.Frag} {x qual : Str} {params : Arguments} {body : List Stmt} {scope : Scope} {kws : List (Str × V)} {f : Addr} {fd : FuncData} {ps : List Str} (F : FunD K x qual params body scope [] kws f fd) (n : Nat) (ks : List Str)
    (h : ∀ (kV doc pm : Value) (an : Option Addr) (cdv ct : Value) (us ws : List Value), us.length = n → ws.length = ks.length → bindArgs (PySem.W.fnOf x qual params body scope .none kV doc pm an cdv ct) ⟨us, ks.zip ws⟩ = pure (ps.zip (us ++ ws))) : KBn K fd ps n ks (fun us ws => us ++ ws) (fun vs zs => vs ++ zs) := by
  obtain ⟨oc, od, dV, kV, doc, pm, an, cdv, ct, osl, rfl, lk, hcd, hD, hK⟩ := F.ex
  rcases hD with ⟨_, rfl⟩ | ⟨e, _⟩
  · exact ⟨fun s us ws _ l1 l2 => .of_eq (h kV doc pm an cdv ct us ws l1 l2), fun r1 r2 => r1.append r2⟩
  · exact absurd rfl e
/-- a def with keywords keeps its promise -/
structure HasK (P : Program) (w : World) (K : PySem.W.Frag) (mg : Str → Option Value) (base : Heap) (f : Addr) (k : Nat) (ps : List Str) (n : Nat) (ks : List Str) (sp : Sp) : Prop where
  ex : ∃ fd, FnOk P w K mg base CX0 k f fd ps sp ∧ KBn K fd ps n ks (fun us ws => us ++ ws) (fun vs zs => vs ++ zs)
  kp : PySem.W.keepIn K (.ref f) = true
end RL
/-! sorted pairs; repr by an own __repr__; f-strings -/
namespace RL
open PySem PySem.Spec PyProof.Rows L2
section
variable {X : Cx} {K : PySem.W.Frag}
theorem sortPK (h : X.K = K := by rfl) : CallR X (.builtin "sorted") (rSortedPO K) := h ▸ cr_sortedPO
/-- repr(x), x of an own class with its own __repr__ -/
def rReprOwn (C : Addr) (sp : Sp) : List V → Hp → VK → Prop := fun vs H Q => ∃ (a dx : Addr) (fs : List (Str × V)), vs = [.ref a] ∧ H a = some (.ins C dx fs) ∧ sp [.ref a] H (fun v H1 => ∃ t : Str, v = .str t ∧ Q (.str t) H1) E0
theorem call_reprOwn {C f : Addr} {fd : FuncData} {ps : List Str} {sp : Sp} {k : Nat} (hm : Meth X.K C "__repr__" f) (F : FnOk X.prog X.w X.K X.mg X.base CX0 k f fd ps sp) (hb : Binds X.K fd ps []) (hr : Room (k + 1) X.A) : CallR X (.builtin "repr") (rReprOwn C sp) := by
  intro pins s σ H vs us Q I r h
  obtain ⟨a, dx, fs, rfl, ha, q⟩ := h
  rw [Vals.ref1 r]
  obtain ⟨mA, O, _⟩ := ins_get I.hok ha
  obtain ⟨od, J, _⟩ := O.look
  obtain ⟨m, hF⟩ := I.fr
  refine PySem.W.repr_K ?_ hF I.ok.mod.kin J hm.at_ hm.fn ?_
  · have := hr.un
    show X.A.units + 1 < cLine
    omega
  refine wpAny_call (codeAny_mono (F.run X.A.in1 X.stack s H ⟨[.ref a], []⟩ [.ref a] [.ref a] _ _ hr.in1 I.env0.in1 (hb s [.ref a] I.kIn (F.len _ _ _ _ q)) (.cons rfl .nil) q) fun rr s1 hq => ?_)
  cases rr with
  | error e => exact hq.elim
  | ok fl =>
    cases fl with
    | ret u =>
      obtain ⟨v, H1, I1, rv, t, e, qq⟩ := I.after hq
      subst e
      obtain ⟨tk, rfl⟩ := rv
      exact ⟨.str t, H1, I1, ⟨_, rfl⟩, qq⟩
    | next => exact hq.elim
    | brk => exact hq.elim
    | cont => exact hq.elim
end
/-! ### lengths of texts -/
theorem len_app (x y : Str) : (x ++ y).length = x.length + y.length := by
  rw [TL.len_tl, TL.len_tl, TL.len_tl, TL.tl_append, List.length_append]
theorem app_empty (x : Str) : Str.empty ++ x = x := TL.ext_tl (by rw [TL.tl_append]; rfl)
theorem len_int : ∀ k < 100, (toString ((k : Nat) : Int) : Str).length ≤ 10 := by decide +kernel
end RL
/-! games made -/
namespace RL
open PySem PySem.Spec PyProof.Rows L2 RLM
abbrev cG (K : PySem.W.Frag) : Addr := He.ga K "Game"
def gf (b : Addr) (W : Nat) (e o : Addr) : List (Str × V) := putF "options" (.ref o) (putF "ends" (.ref e) (putF "most" (vI W) (putF "ground" (.ref b) [])))
theorem gf_ground (b e o : Addr) (W : Nat) : (gf b W e o).lookup ("ground" : Str) = some (.ref b) := by rfl
theorem gf_most (b e o : Addr) (W : Nat) : (gf b W e o).lookup ("most" : Str) = some (vI W) := by rfl
theorem gf_ends (b e o : Addr) (W : Nat) : (gf b W e o).lookup ("ends" : Str) = some (.ref e) := by rfl
theorem gf_options (b e o : Addr) (W : Nat) : (gf b W e o).lookup ("options" : Str) = some (.ref o) := by rfl
abbrev Ops := Addr × List (Addr × (Nat → Nat) × Nat)
/-- the choices of a hand as they stand -/
def OpsAt (n : Nat) (H : Hp) (u : Ops) : Prop := H u.1 = some (.lst (u.2.map fun o => V.ref o.1)) ∧ ∀ o ∈ u.2, OptAt n H o
theorem OpsAt.same {n : Nat} {H H' : Hp} {u : Ops} (s : Same H H') (h : OpsAt n H u) : OpsAt n H' u := ⟨s _ _ h.1, fun o ho => (h.2 o ho).same s⟩
/-- a game -/
structure GmOk (G : Gm) : Prop where
  n1 : 1 ≤ G.n
  n8 : G.n ≤ 8
  W1 : 1 ≤ G.W
  W8 : G.W ≤ 8
  stay : G.Stay
  h1 : 1 ≤ G.hands.length
  h3 : G.hands.length ≤ 3
  each : ∀ h ∈ G.hands, h.length ≤ 4 ∧ ∀ o ∈ h, o.2 ≤ 99 ∧ ∀ p, p < G.n → o.1 p ≤ 8
theorem gf_inj {b e o b' e' o' : Addr} {W W' : Nat} (h : gf b W e o = gf b' W' e' o') : e = e' ∧ o = o' := by
  have h1 := congrArg (fun l : List (Str × V) => l.lookup ("ends" : Str)) h
  have h2 := congrArg (fun l : List (Str × V) => l.lookup ("options" : Str)) h
  have h1 : (gf b W e o).lookup ("ends" : Str) = (gf b' W' e' o').lookup ("ends" : Str) := h1
  have h2 : (gf b W e o).lookup ("options" : Str) = (gf b' W' e' o').lookup ("options" : Str) := h2
  rw [gf_ends, gf_ends] at h1
  rw [gf_options, gf_options] at h2
  injection h1 with h1
  injection h1 with h1
  injection h2 with h2
  injection h2 with h2
  exact ⟨h1, h2⟩
structure GameAt (K : PySem.W.Frag) (c : Addr) (H : Hp) (x : Addr) (G : Gm) : Prop where
  ex : ∃ (dx b e o : Addr) (es : List Addr) (us : List Ops) (E : List (Nat × Nat)), H x = some (.ins (cG K) dx (gf b G.W e o)) ∧ BoardAt K c H b G.n E ∧ H e = some (.lst (es.map V.ref)) ∧ es.length = G.n ∧
    (∀ (i : Nat) (a : Addr), es[i]? = some a → H a = some (.tup (((List.range G.n).filter (G.ends i)).map vI))) ∧ H o = some (.lst (us.map fun u => V.ref u.1)) ∧ us.length = G.hands.length ∧
    (∀ u ∈ us, OpsAt G.n H u) ∧ ∀ (i : Nat) (u : Ops), us[i]? = some u → u.2.map (·.2) = G.opts i
  ok : GmOk G
  off : ∀ (dx b e o : Addr), H x = some (.ins (cG K) dx (gf b G.W e o)) → e ≠ c ∧ o ≠ c ∧ ∀ us : List Addr, H o = some (.lst (us.map V.ref)) → c ∉ us
theorem GameAt.same {K : PySem.W.Frag} {c : Addr} {H H' : Hp} {x : Addr} {G : Gm} (s : Same H H') (h : GameAt K c H x G) : GameAt K c H' x G := by
  obtain ⟨dx, b, e, o, es, us, E, h1, h2, h3, h4, h5, h6, h7, h8, h9⟩ := h.ex
  refine ⟨⟨dx, b, e, o, es, us, E, s _ _ h1, h2.same s, s _ _ h3, h4, fun i a ha => s _ _ (h5 i a ha), s _ _ h6, h7, fun u hu => (h8 u hu).same s, h9⟩, h.ok, fun dx' b' e' o' h' => ?_⟩
  have q := s _ _ h1
  rw [h'] at q
  injection q with q
  injection q with _ _ q
  obtain ⟨rfl, rfl⟩ := gf_inj q
  obtain ⟨o1, o2, o3⟩ := h.off _ _ _ _ h1
  refine ⟨o1, o2, fun vs hv => ?_⟩
  have q2 := s _ _ h6
  rw [hv] at q2
  injection q2 with q2
  injection q2 with q2
  exact o3 vs (by rw [h6, q2])
theorem GameAt.keep {K : PySem.W.Frag} {c : Addr} {H H' : Hp} {x : Addr} {G : Gm} (k : Kc c H H') (hc : ∃ ys, H c = some (.lst ys)) (h : GameAt K c H x G) : GameAt K c H' x G := by
  obtain ⟨dx, b, e, o, es, us, E, h1, h2, h3, h4, h5, h6, h7, h8, h9⟩ := h.ex
  obtain ⟨o1, o2, o3⟩ := h.off _ _ _ _ h1
  have xc : x ≠ c := fun z => by
    obtain ⟨ys, hc⟩ := hc
    rw [z, hc] at h1
    cases h1
  have h1' := k _ _ xc (fun _ z => by cases z) h1
  have h6' := k _ _ o2 (fun _ z => by cases z) h6
  have nu : ∀ u ∈ us, u.1 ≠ c := fun u hu z => o3 (us.map (·.1)) (by rw [h6, List.map_map]; rfl) (z ▸ List.mem_map.mpr ⟨u, hu, rfl⟩)
  refine ⟨⟨dx, b, e, o, es, us, E, h1', h2.keep k hc, k _ _ o1 (fun _ z => by cases z) h3, h4, fun i a ha => k.tup hc (h5 i a ha), h6', h7, fun u hu => ?_, h9⟩, h.ok, fun dx' b' e' o' h' => ?_⟩
  · obtain ⟨p1, p2⟩ := h8 u hu
    refine ⟨k _ _ (nu u hu) (fun _ z => by cases z) p1, fun q hq => ?_⟩
    obtain ⟨v, v1, v2⟩ := p2 q hq
    exact ⟨v, k.tup hc v1, k.tup hc v2⟩
  · rw [h'] at h1'
    injection h1' with q
    injection q with _ _ q
    obtain ⟨rfl, rfl⟩ := gf_inj q
    refine ⟨o1, o2, fun vs hv => ?_⟩
    rw [hv] at h6'
    injection h6' with q2
    injection q2 with q2
    exact o3 vs (by rw [h6, q2])
/-- the game of a board, paces, hands, a wish -/
noncomputable def gmOf (n W : Nat) (E : List (Nat × Nat)) (ps : List Nat) (M : Nat → Nat → Nat) (hs : List Hnd) : Gm := ⟨n, W, fun p q => decB (Near E ((ps.getD p 0 : Nat) : Int) p q), hs.map fun h => optsL M h.2⟩
theorem ans_le {n : Nat} {M : Nat → Nat → Nat} {L : Look} (n8 : n ≤ 8) (LO : LookOk n L) {p : Nat} (hp : p < n) : ans M L p ≤ 8 := by
  cases L with
  | lot q =>
    by_cases h : q p
    · rw [ans_in h]; omega
    · rw [ans_out h]; omega
  | parts ps =>
    show ps.findIdx _ ≤ 8
    exact Nat.le_trans List.findIdx_le_length (Nat.le_trans LO.1 n8)
  | near b k =>
    have := LO.2
    rw [ans_near]
    omega
theorem gmOf_ok {n W : Nat} {E : List (Nat × Nat)} {ps : List Nat} {M : Nat → Nat → Nat} {hs : List Hnd} {H : Hp} {a : Addr} (n1 : 1 ≤ n) (n8 : n ≤ 8) (W1 : 1 ≤ W) (W8 : W ≤ 8) (ho : HndsAt n H a hs) : GmOk (gmOf n W E ps M hs) where
  n1 := n1
  n8 := n8
  W1 := W1
  W8 := W8
  stay := fun p hp => decB_true.mpr (near_refl (by omega))
  h1 := by show 1 ≤ (hs.map _).length; rw [List.length_map]; exact ho.2.2.1
  h3 := by show (hs.map _).length ≤ 3; rw [List.length_map]; exact ho.2.2.2
  each := fun h hh => by
    obtain ⟨y, hy, rfl⟩ := List.mem_map.mp hh
    obtain ⟨_, e2, e3⟩ := ho.2.1 y hy
    refine ⟨by unfold optsL; rw [List.length_map]; exact e3, fun o ho' => ?_⟩
    obtain ⟨z, hz, rfl⟩ := List.mem_map.mp ho'
    obtain ⟨_, _, LO, le⟩ := e2 z hz
    exact ⟨le, fun p hp => ans_le n8 LO hp⟩
theorem zip_V {α β : Type} (F : β → V) (R : β → α → Prop) : ∀ (ys : List V) (zs : List α), ys.length = zs.length → (∀ (k : Nat) (y : V) (z : α), ys[k]? = some y → zs[k]? = some z → ∃ b, y = F b ∧ R b z) → ∃ bs : List β, ys = bs.map F ∧ bs.length = zs.length ∧ ∀ (k : Nat) (b : β) (z : α), bs[k]? = some b → zs[k]? = some z → R b z
  | [], [], _, _ => ⟨[], rfl, rfl, fun k b z h => by simp at h⟩
  | y :: ys, z :: zs, l, h => by
    obtain ⟨a, rfl, r⟩ := h 0 y z rfl rfl
    obtain ⟨os, e1, e2, e3⟩ := zip_V F R ys zs (Nat.succ.inj l) fun k y' z' h1 h2 => h (k + 1) y' z' h1 h2
    refine ⟨a :: os, by rw [e1]; rfl, by rw [List.length_cons, e2]; rfl, fun k b z' hb hz => ?_⟩
    cases k with
    | zero =>
      cases Option.some.inj hb
      cases Option.some.inj hz
      exact r
    | succ k => exact e3 k b z' hb hz
  | [], _ :: _, l, _ => nomatch l
  | _ :: _, [], l, _ => nomatch l
section
variable {P : Program} {w : World} {K : PySem.W.Frag} {mg : Str → Option Value} {base : Heap}
def spGameInit (K : PySem.W.Frag) : Sp := fun vs H Q _ => ∃ (H0 : Hp) (c x dx b tp hd : Addr) (n W : Nat) (E : List (Nat × Nat)) (ps : List Nat) (M : Nat → Nat → Nat) (hs : List Hnd), vs = [.ref x, .ref b, .ref tp, .ref hd, vI W] ∧ Same H0 H ∧ H0 x = none ∧ H x = some (.ins (cG K) dx []) ∧
  BoardAt K c H0 b n E ∧ Spans n E M ∧ H0 tp = some (.tup (ps.map vI)) ∧ PaceOk n ps ∧ HndsAt n H0 hd hs ∧ (∃ ys, H0 c = some (.lst ys)) ∧ 1 ≤ W ∧ W ≤ 8 ∧
  ∀ H', GameAt K c H' x (gmOf n W E ps M hs) → Same H0 H' → Q .non H'
theorem sc_Game_init : FnScope ["self", "board", "pace", "hands", "wish", "place", "number", "hand"] ["self", "board", "pace", "hands", "wish"] (defScope s_Game_init) := ⟨rfl, rfl, rfl, by decide +kernel, rfl, by decide +kernel, by decide +kernel⟩
theorem okf_ginit (T : Tx K mg) {kws : List (Str × V)} {fd : FuncData} (F : FunD K "__init__" "Game.__init__" (defArgs s_Game_init) (defBody s_Game_init) (defScope s_Game_init) [] kws (mC K "Game" "__init__") fd) : FnOk P w K mg base CX0 10 (mC K "Game" "__init__") fd ["self", "board", "pace", "hands", "wish"] (spGameInit K) := by
  obtain ⟨⟨fd_check_pace, F_check_pace, b_check_pace⟩, kp_check_pace⟩ := ok_chk_pace (P := P) (w := w) (base := base) T
  obtain ⟨⟨fd_check_hands, F_check_hands, b_check_hands⟩, kp_check_hands⟩ := ok_chkHands (P := P) (w := w) (base := base) T
  obtain ⟨⟨fd_is_between, F_is_between, b_is_between⟩, kp_is_between⟩ := ok_is_between (P := P) (w := w) (base := base) T
  obtain ⟨⟨fd_within, F_within, b_within⟩, kp_within⟩ := ok_within (P := P) (w := w) (base := base) T
  obtain ⟨⟨fd_hand_options, F_hand_options, b_hand_options⟩, kp_hand_options⟩ := ok_options (P := P) (w := w) (base := base) T
  refine F.ok sc_Game_init (fun vs H Q E h => ?_) (fun cdv A outer s H vs Q E hr h => ?_)
  · obtain ⟨H0, c, x, dx, b, tp, hd, n, W, E, ps, M, hs, rfl, _⟩ := h
    rfl
  · obtain ⟨H0, c, x, dx, b, tp, hd, n, W, E, ps, M, hs, rfl, s0, x0, hx, B, S, hp, PO, HS, hcc, W1, W8, h⟩ := h
    have hr_check_pace : Room 4 _ := hr.mono (by decide)
    have hr_check_hands : Room 9 _ := hr.mono (by decide)
    have hr_is_between : Room 2 _ := hr.mono (by decide)
    have hr_within : Room 4 _ := hr.mono (by decide)
    have hr_hand_options : Room 8 _ := hr.mono (by decide)
    refine ⟨_, PSs.nox (pss_cons (ps_expr (pe_call F_check_pace hr_check_pace rfl T.glo_check_pace kp_check_pace b_check_pace .nil pass0 (pa_cons (pv 1) (pa_cons (pv 2) pa_nil))))
      (pss_cons (ps_expr (pe_call F_check_hands hr_check_hands rfl T.glo_check_hands kp_check_hands b_check_hands .nil pass0 (pa_cons (pv 1) (pa_cons (pv 3) pa_nil))))
      (pss_cons (ps_if (pt_not (pt_val (pe_call F_is_between hr_is_between rfl T.glo_is_between kp_is_between b_is_between .nil pass0 (pa_cons (pv 4) (pa_cons pe_int (pa_cons (pe_glob (v := .int 8) rfl T.glob_MOST_PLACES.choose_spec ⟨_, rfl⟩) pa_nil)))))) (pss_one ps_never) pss_nil)
      (pss_cons (ps_fld (pv 0) (pv 1) rfl)
      (pss_cons (ps_fld (pv 0) (pv 4) rfl)
      (pss_cons (ps_fld (pv 0) (pe_lc (own := [("place", 5), ("number", 6)]) (tt := tYes) rfl sc_Game_init.nd (piEnumT (K := K) (by rfl) T.free_enumerate (pa_cons (pv 2) pa_nil)) (blkOk_by (by kernel_rfl)) (fun _ _ _ _ _ => (pgT (K := K) (n := 2) rfl (pgs_cons (pg_name (i := 5) sc_Game_init.nd rfl (Or.inl rfl)) (pgs_cons (pg_name (i := 6) sc_Game_init.nd rfl (Or.inl rfl)) pgs_nil)))) (fun _ _ _ _ _ => pts_nil) (fun _ _ _ _ _ => (pe_meth (pv 1) T.cl T.m_within F_within hr_within b_within .nil pass0 (pa_cons (pv 5) (pa_cons (pv 6) pa_nil))))) rfl)
      (pss_one (ps_fld (pv 0) (pe_lc (own := [("hand", 7)]) (g := (gName 7)) (tt := tYes) rfl sc_Game_init.nd (piT (K := K) (pv 3)) (blkOk_by (by kernel_rfl)) (fun _ _ _ _ _ => (pg_name (i := 7) sc_Game_init.nd rfl (Or.inl rfl))) (fun _ _ _ _ _ => pts_nil) (fun _ _ _ _ _ => (pe_call F_hand_options hr_hand_options rfl T.glo_hand_options kp_hand_options b_hand_options .nil pass0 (pa_cons (pv 1) (pa_cons (pv 7) pa_nil))))) rfl)))))))), ?_⟩
    have HS0 := HS
    obtain ⟨ha, each, l1, l3⟩ := HS
    refine ⟨_, rfl, _, rfl, c, b, tp, n, E, ps, rfl, B.same s0, s0 _ _ hp, PO, fun H1 s1 => ?_⟩
    have s01 := s0.trans s1
    refine ⟨_, rfl, _, rfl, c, b, hd, n, E, hs, rfl, B.same s01, HS0.same s01, fun H2 s2 => ?_⟩
    have s02 := s01.trans s2
    refine ⟨_, rfl, _, _, _, rfl, true, ?_, iteF ?_⟩
    · show V.bl (decide _) = _
      rw [decide_eq_true ⟨by omega, by omega⟩]
    have hx2 := s2 _ _ (s1 _ _ hx)
    refine ⟨_, rfl, _, rfl, x, _, dx, _, rfl, hx2, T.cl_Game, T.n_Game_ground, (by show 0 < 1000; decide), ?_⟩
    have s3 : Same H0 (upd H2 x (.ins (cG K) dx (putF "ground" (.ref b) []))) := same_mut s02 x0
    have hx3 : (upd H2 x (.ins (cG K) dx (putF "ground" (.ref b) []))) x = some (.ins (cG K) dx (putF "ground" (.ref b) [])) := upd_same
    generalize upd H2 x (.ins (cG K) dx (putF "ground" (.ref b) [])) = H3 at s3 hx3
    refine ⟨_, rfl, _, rfl, x, _, dx, _, rfl, hx3, T.cl_Game, T.n_Game_most, (by show 1 < 1000; decide), ?_⟩
    have s4 : Same H0 (upd H3 x (.ins (cG K) dx (putF "most" (vI W) (putF "ground" (.ref b) [])))) := same_mut s3 x0
    have hx4 : (upd H3 x (.ins (cG K) dx (putF "most" (vI W) (putF "ground" (.ref b) [])))) x = some (.ins (cG K) dx (putF "most" (vI W) (putF "ground" (.ref b) []))) := upd_same
    generalize upd H3 x (.ins (cG K) dx (putF "most" (vI W) (putF "ground" (.ref b) []))) = H4 at s4 hx4
    have n8 := B.hi
    refine ⟨_, rfl, tp, _, rfl, SqT.of (s4 _ _ hp), fun D hD => ?_⟩
    refine lc_rel (walk_enumT (K := K) (a := tp) (xs := ps.map vI)) (fun i v H' => ∃ a, v = .ref a ∧ H' a = some (.tup (((List.range n).filter fun q => decB (Near E ((ps.getD i 0 : Nat) : Int) i q)).map vI))) (by rw [List.length_map, PO.1]; omega) hD (fun i v H1 H2 ⟨a, e, r⟩ tk => ⟨a, e, tk _ _ r⟩) (fun H1 s1 => SqT.of (s1 _ _ (s4 _ _ hp))) ?_ ?_
    · rintro i y H5 H6 Nx hi s5 ⟨t, y1, y2, rfl, ht, rfl, e1, e2⟩ k
      cases Option.some.inj e1
      rw [List.length_map, PO.1] at hi
      have hpi : ps[i]? = some (ps.getD i 0) := by rw [List.getD_eq_getElem?_getD, List.getElem?_eq_getElem (by rw [PO.1]; exact hi)]; rfl
      have ey : y2 = vI (ps.getD i 0) := by
        have e3 : (ps.map vI)[i]? = some y2 := e2
        rw [List.getElem?_map, hpi] at e3
        exact (Option.some.inj e3).symm
      subst ey
      have s6 : Same H5 (upd H5 t (.tup [.int (i : Nat), vI (ps.getD i 0)])) := same_upd ht
      have B6 := B.same ((s4.trans s5).trans s6)
      obtain ⟨dxb, q1, q2, q3, hb⟩ := B6.obj
      refine ⟨t, _, rfl, SqT.of upd_same, rfl, _, _, rfl, _, _, rfl, rfl, rfl, ?_⟩
      exact ⟨_, rfl, b, dxb, _, rfl, hb, (by rfl), _, rfl, _, rfl, c, b, n, i, _, E, rfl, B6, hi, fun H7 t7 ht7 s7 => k _ _ ⟨t7, rfl, ht7⟩ (s6.trans s7)⟩
    · intro H5 es h5 les each5 s5
      rw [List.length_map, PO.1] at les
      have hx5 := s5 _ _ hx4
      have nDx : D ≠ x := ne_of h5 hx5 (by intro z; cases z)
      refine ⟨_, rfl, x, _, dx, _, rfl, hx5, T.cl_Game, T.n_Game_ends, (by show 2 < 1000; decide), ?_⟩
      have s6 : Same H0 (upd H5 x (.ins (cG K) dx (putF "ends" (.ref D) (putF "most" (vI W) (putF "ground" (.ref b) []))))) := same_mut (s4.trans s5) x0
      have hx6 : (upd H5 x (.ins (cG K) dx (putF "ends" (.ref D) (putF "most" (vI W) (putF "ground" (.ref b) []))))) x = some (.ins (cG K) dx (putF "ends" (.ref D) (putF "most" (vI W) (putF "ground" (.ref b) [])))) := upd_same
      have h6 : (upd H5 x (.ins (cG K) dx (putF "ends" (.ref D) (putF "most" (vI W) (putF "ground" (.ref b) []))))) D = some (.lst es) := by rw [upd_ne nDx]; exact h5
      have each6 : ∀ (k : Nat) (y : V), es[k]? = some y → ∃ a, y = .ref a ∧ (upd H5 x (.ins (cG K) dx (putF "ends" (.ref D) (putF "most" (vI W) (putF "ground" (.ref b) []))))) a = some (.tup (((List.range n).filter fun q => decB (Near E ((ps.getD k 0 : Nat) : Int) k q)).map vI)) := fun k y hy => by
        obtain ⟨a, e, r⟩ := each5 k y hy
        exact ⟨a, e, by rw [upd_ne (ne_of r hx5 (by intro z; cases z))]; exact r⟩
      generalize upd H5 x (.ins (cG K) dx (putF "ends" (.ref D) (putF "most" (vI W) (putF "ground" (.ref b) [])))) = H6 at s6 hx6 h6 each6
      refine ⟨_, rfl, hd, rfl, ⟨_, SqT.of (s6 _ _ ha)⟩, fun D2 hD2 => ?_⟩
      refine lc_relD (walk_tup (K := K) (a := hd) (xs := hs.map fun h => V.ref h.1)) (fun i v H' => ∃ u : Ops, v = .ref u.1 ∧ u.1 ≠ D2 ∧ u.1 ≠ c ∧ OpsAt n H' u ∧ ∀ z, hs[i]? = some z → u.2.map (·.2) = (fun _ => 0, 0) :: optsL M z.2) (by rw [List.length_map]; omega) hD2 ?_ (fun H1 s1 => SqT.of (s1 _ _ (s6 _ _ ha))) ?_ ?_
      · rintro i v H1 H2 ⟨u, e, ne, nc, ⟨o1, o2⟩, r⟩ ⟨zs, hz⟩ kx
        refine ⟨u, e, ne, nc, ⟨kx _ _ ne o1, fun o ho => ?_⟩, r⟩
        obtain ⟨a, a1, a2⟩ := o2 o ho
        exact ⟨a, kx _ _ (ne_of a1 hz (by intro z; cases z)) a1, kx _ _ (ne_of a2 hz (by intro z; cases z)) a2⟩
      · rintro i y H7 H8 Nx hi ⟨zs, hz⟩ s7 ⟨rfl, hy⟩ k
        obtain ⟨z, hz1, rfl⟩ := Option.map_eq_some_iff.mp (List.getElem?_map ▸ hy : Option.map (fun h : Hnd => V.ref h.1) hs[i]? = some y)
        refine ⟨rfl, _, rfl, _, rfl, c, b, n, E, M, z, rfl, B.same (s6.trans s7), S, (each z (List.mem_of_getElem? hz1)).same (s6.trans s7), fun H9 l os hl eo oo ln s9 => ?_⟩
        refine k _ _ ⟨(l, os), rfl, fun e => ?_, fun e => ?_, ⟨hl, oo⟩, fun z' hz' => ?_⟩ s9
        · rw [show D2 = l from e.symm, ln] at hz
          cases hz
        · obtain ⟨ys, hcc⟩ := hcc
          have hc8 := s7 _ _ (s6 _ _ hcc)
          rw [show c = l from e.symm, ln] at hc8
          cases hc8
        · rw [hz1] at hz'
          cases hz'
          exact eo
      · intro H7 us h7 lus each7 s7
        rw [List.length_map] at lus
        obtain ⟨As, ea, la, ra⟩ := zip_V V.ref (fun a k => H6 a = some (.tup (((List.range n).filter fun q => decB (Near E ((ps.getD k 0 : Nat) : Int) k q)).map vI))) es (List.range n) (by rw [List.length_range]; exact les) fun k y z hy hz => by
          obtain ⟨e1, rfl⟩ := List.getElem?_eq_some_iff.mp hz
          rw [List.getElem_range]
          exact each6 k y hy
        obtain ⟨Us, eu, lu, ru⟩ := zip_V (fun u : Ops => V.ref u.1) (fun u z => u.1 ≠ D2 ∧ u.1 ≠ c ∧ OpsAt n H7 u ∧ u.2.map (·.2) = (fun _ => 0, 0) :: optsL M z.2) us hs lus fun k y z hy hz => by
          obtain ⟨u, e, ne, nc, o, r⟩ := each7 k y hy
          exact ⟨u, e, ne, nc, o, r z hz⟩
        subst ea eu
        have hx7 := s7 _ _ hx6
        refine ⟨_, rfl, x, _, dx, _, rfl, hx7, T.cl_Game, T.n_Game_options, (by show 3 < 1000; decide), ?_⟩
        have s8 : Same H0 (upd H7 x (.ins (cG K) dx (gf b W D D2))) := same_mut (s6.trans s7) x0
        have off : ∀ {a : Addr} {o : HO}, H7 a = some o → (∀ C dx fs, o ≠ .ins C dx fs) → (upd H7 x (.ins (cG K) dx (gf b W D D2))) a = some o := fun {a o} e ne => by
          rw [upd_ne (ne_of e hx7 (ne _ _ _))]
          exact e
        have eachU : ∀ u ∈ Us, OpsAt n H7 u := fun u hu => by
          obtain ⟨k, hk⟩ := List.mem_iff_getElem?.mp hu
          have kl := (List.getElem?_eq_some_iff.mp hk).1
          exact (ru k u (hs[k]'(by omega)) hk (List.getElem?_eq_getElem _)).2.2.1
        refine h _ ⟨⟨dx, b, D, D2, As, Us, E, upd_same, B.same s8, off (s7 _ _ h6) (fun _ _ _ z => nomatch z), by rw [la, List.length_range]; rfl, fun i a hi => ?_, off h7 (fun _ _ _ z => nomatch z), by rw [lu]; show _ = (hs.map _).length; rw [List.length_map], fun u hu => ?_, fun i u hu => ?_⟩, gmOf_ok B.lo n8 W1 W8 HS0, fun dx' b' e' o' h' => ?_⟩ s8
        · have il := (List.getElem?_eq_some_iff.mp hi).1
          rw [la, List.length_range] at il
          exact off (s7 _ _ (ra i a i hi (List.getElem?_range il))) (fun _ _ _ z => nomatch z)
        · obtain ⟨o1, o2⟩ := eachU u hu
          refine ⟨off o1 (fun _ _ _ z => nomatch z), fun o ho => ?_⟩
          obtain ⟨a, a1, a2⟩ := o2 o ho
          exact ⟨a, off a1 (fun _ _ _ z => nomatch z), off a2 (fun _ _ _ z => nomatch z)⟩
        · have il := (List.getElem?_eq_some_iff.mp hu).1
          rw [lu] at il
          have q := (ru i u hs[i] hu (List.getElem?_eq_getElem il)).2.2.2
          rw [q]
          show _ = (fun _ => 0, 0) :: (hs.map fun h => optsL M h.2).getD i []
          rw [List.getD_eq_getElem?_getD, List.getElem?_map, List.getElem?_eq_getElem il]
          rfl
        · rw [upd_same] at h'
          injection h' with q
          injection q with _ _ q
          obtain ⟨rfl, rfl⟩ := gf_inj q
          obtain ⟨ys, hcc⟩ := hcc
          have hc4 := s4 _ _ hcc
          have hc6 := s6 _ _ hcc
          refine ⟨(fun z => by rw [z, hc4] at hD; cases hD), (fun z => by rw [z, hc6] at hD2; cases hD2), fun vs hv => ?_⟩
          rw [upd_ne (ne_of h7 hx7 (fun z => nomatch z)), h7] at hv
          injection hv with q2
          injection q2 with q2
          intro hm
          have hm2 : V.ref c ∈ Us.map fun u => V.ref u.1 := by rw [q2]; exact List.mem_map.mpr ⟨c, hm, rfl⟩
          obtain ⟨u, hu, e⟩ := List.mem_map.mp hm2
          obtain ⟨k, hk⟩ := List.mem_iff_getElem?.mp hu
          have kl := (List.getElem?_eq_some_iff.mp hk).1
          exact (ru k u (hs[k]'(by omega)) hk (List.getElem?_eq_getElem _)).2.1 (V.ref.inj e)
theorem ok_ginit (T : Tx K mg) : HasK P w K mg base (mC K "Game" "__init__") 10 ["self", "board", "pace", "hands", "wish"] 4 ["wish"] (spGameInit K) := by
  obtain ⟨fd, F⟩ := T.d_Game_init
  exact ⟨⟨fd, okf_ginit T F, kbindsA F 4 ["wish"] fun _ _ _ _ _ _ us ws h1 h2 => match us, ws, h1, h2 with | [_, _, _, _], [_], _, _ => rfl⟩, F.kp⟩
end
end RL
/-! A set comprehension with one clause whose items are ints. -/
namespace RL
open PySem PySem.Spec PyProof.Rows L2
section
variable {X : Cx}
/-- the reading: D the new set, its members told by S -/
def tSc1 (w : World) (wa : TI) (ga : TG) (fa : TT) (te : TE) (vs : List Nat) : TE := fun σ H Q => wa σ H fun J H1 => ∀ D, H1 D = none → ∃ W : Nat → Nat → Hp → Prop, (∃ m, W 0 m (upd H1 D (SetO w D (fun _ => false) 0))) ∧ ∀ i m H, W i m H →
  (J.stop i H ∧ Q (.ref D) H) ∨ (J.go i H ∧ ∃ Nx : Hp → Prop, (∀ H', Nx H' → ∃ m', m' < m ∧ W (i + 1) m' H') ∧ ∀ x H', J.yld i H x H' → ga x (wipe σ vs) H' fun σ2 H2 => wipe σ2 vs = wipe σ vs ∧ fa σ2 H2 fun b H3 =>
    if b = true then te σ2 H3 fun y H4 => ∃ (c : Int) (S : Int → Bool) (n : Nat), y = .int c ∧ H4 D = some (SetO w D S n) ∧ n + 1 < scanBound ∧ Nx (upd H4 D (SetO w D (fun j => S j || decide (j = c)) (if S c = true then n else n + 1))) else Nx H3)
theorem pe_sc1 {el ta ia : Expr} {ea : List Expr} {sc : Scope} {own : List (Str × Nat)} {pos : Pos} {wa : TI} {ga : TG} {fa : TT} {te : TE} (hc : X.calm = true) (hN : X.N.Nodup) (hi : PI X ta ia wa) (ok : BlkOk X.N X.env.scope sc own)
    (hg : ∀ (s : Shared) (H : Hp) (C : Addr) (cl : List (Str × Addr)) (fp : List Addr), PG (X.blk s H sc (compEnvC sc cl C X.env) fp) ta ga) (ht : ∀ (s : Shared) (H : Hp) (C : Addr) (cl : List (Str × Addr)) (fp : List Addr), PTs (X.blk s H sc (compEnvC sc cl C X.env) fp) ea fa)
    (he : ∀ (s : Shared) (H : Hp) (C : Addr) (cl : List (Str × Addr)) (fp : List Addr), PE (X.blk s H sc (compEnvC sc cl C X.env) fp) el te) (hs : ∀ x, foldedSetIterable ia X.env x = pure x := by intro _; rfl) :
    PE X (.SetComp el [⟨ta, ia, ea, 0⟩] sc pos) (tSc1 X.w wa ga fa te (own.map (·.2))) := by
  refine ⟨fun pins s σ H Q I h => ?_⟩
  rw [PpSet.eval_SetComp]
  have cells : ∀ y ∈ sc.names, y.2 = .free → ∃ c, X.env.cells.lookup y.1 = some c := fun y hy e => (ok.free y hy e).elim (fun k => I.ok.has _ (.inl k)) fun k => I.ok.has _ (.inr k)
  refine wpAny_comprehension_free (use := none) rfl hs (closure_ok cells) ok.kind (fun y hy e => by rw [ok.uniq y hy, e]) (thn (hi.run pins s σ H _ I h) fun xv s1 hx => thn hx fun itv s2 h2 => ?_)
  obtain ⟨it, fp, tn, J, H2, e, I2, T, st2, f2, q⟩ := h2
  subst e
  refine newSet_at (newEnv_comp ?_)
  generalize hD : s2.heap.objs.size = D
  obtain ⟨W, ⟨m0, w0⟩, turn⟩ := q D (I2.hok.fresh (Nat.le_of_eq hD))
  generalize ho : ({ cls := .type "set", dict := none, data := .set #[] 0 (.fresh 0 0 (!X.w.params.followText "set-order")) } : Obj) = oS
  generalize hs3 : ({ s2 with heap := s2.heap.push oS } : Shared) = s3
  have hp3 : s3.heap = s2.heap.push oS := by rw [← hs3]
  have I3 : L2.Inv X pins σ (upd H2 D (SetO X.w D (fun _ => false) 0)) s3 := by
    rw [← hs3]
    refine I2.laid (t' := s2.toks) (fun b o e => Heap.get?_push_of_some _ e) (Nat.le_of_eq hD) ?_
    have g : (s2.heap.push oS).get? D = some oS := by
      rw [← hD]
      exact Heap.get?_push_size _ (by rw [← ho]; rfl)
    rw [← ho] at g ⊢
    exact setO_new (by simpa using setR_new_at (ns := []) g)
  have small : ∀ b ∈ fp, b < s2.heap.objs.size := fun b hb => (T.obj _ _ st2 b hb).elim fun o e => Heap.lt_size e.1
  have f3 : ∀ b ∈ fp, FpOk X pins (upd H2 D (SetO X.w D (fun _ => false) 0)) b ∧ b < s3.heap.objs.size := fun b hb => by
    refine ⟨⟨?_, (f2 b hb).2⟩, by rw [hp3, Heap.size_push]; exact Nat.lt_succ_of_lt (small b hb)⟩
    rw [upd_ne (by rw [← hD]; exact Nat.ne_of_lt (small b hb))]
    exact (f2 b hb).1
  have st3 : tn 0 s3.heap := T.keep _ _ _ st2 fun b _ o e => by rw [hp3]; exact Heap.get?_push_of_some _ e
  have I4 := block_start I3 ok hN f3
  generalize hcs : cellsFrom (s3.heap.objs.size + 1) sc.names (cloFrom X.env.cells sc.names []) = cs at I4
  have pg := hg s3 (upd H2 D (SetO X.w D (fun _ => false) 0)) s3.heap.objs.size cs fp
  have pt := ht s3 (upd H2 D (SetO X.w D (fun _ => false) 0)) s3.heap.objs.size cs fp
  have pe := he s3 (upd H2 D (SetO X.w D (fun _ => false) 0)) s3.heap.objs.size cs fp
  show codeAny _ _ (.compStart (.SetComp el [⟨ta, ia, ea, 0⟩] sc pos) 0 (.ref it) (.ref D) (compEnvC sc cs s3.heap.objs.size X.env)) (compPost (model X.prog X.w) X.A X.xe none (EP X pins σ Q) (.ref D) s3.heap.objs.size) { s3 with heap := pushCells (s3.heap.push { cls := .type "dict", data := .dict #[] }) sc.names }
  have nfp : ∀ b ∈ fp, (upd H2 D (SetO X.w D (fun _ => false) 0)) b = none := fun b hb => (f3 b hb).1.1
  generalize hce : compEnvC sc cs s3.heap.objs.size X.env = ce at I4 pg pt pe ⊢
  have cL : ce.locals = s3.heap.objs.size := by subst hce; rfl
  generalize hH3 : upd H2 D (SetO X.w D (fun _ => false) 0) = H3 at I3 I4 pg pt pe w0 nfp f3
  generalize hs4 : ({ s3 with heap := pushCells (s3.heap.push { cls := .type "dict", data := .dict #[] }) sc.names } : Shared) = s4 at I4 ⊢
  have st4 : tn 0 s4.heap := T.keep _ _ _ st3 fun b _ o e => by rw [← hs4]; exact pushCells_keeps _ _ _ _ (Heap.get?_push_of_some _ e)
  generalize hv0 : wipe σ (own.map (·.2)) = σ0 at I4 turn
  have len0 : σ0.length = σ.length := by rw [← hv0, wipe_length]
  have stat : ∀ {τ : L2.St} {H' : Hp} {s' : Shared}, L2.Inv (X.blk s3 H3 sc ce fp) [] τ H' s' → (∀ b ∈ fp, H' b = none) → ∀ b ∈ fp, FpOk (X.blk s3 H3 sc ce fp) [] H' b := fun {τ H' s'} I' hn b hb =>
    ⟨hn b hb, (I'.ok.exf b hb).1, I'.ok.exfs b hb, .inl hb, fun x c e => (I'.ok.exf b hb).2 x c e, fun p hp => absurd (show p ∈ ([] : List (Addr × Obj)) ++ [] from hp) (by simp)⟩
  -- between the turns of the first clause
  let Jo : Nat → Shared → Prop := fun n s' => ∃ i H', L2.Inv (X.blk s3 H3 sc ce fp) [] σ0 H' s' ∧ tn i s'.heap ∧ (∀ b ∈ fp, H' b = none) ∧ W i n H'
  have main : codeAny (model X.prog X.w) X.A (.compLoop (.SetComp el [⟨ta, ia, ea, 0⟩] sc pos) 0 (.ref it) (.ref D) ce) (compPost (model X.prog X.w) X.A X.xe none (EP X pins σ Q) (.ref D) s3.heap.objs.size) s4 := by
    refine PpSet.compLoopS_any Jo ?_ m0 ⟨0, H3, I4, st4, nfp, w0⟩
    rintro n s5 ⟨i, H5, I5, st5, n5, w5⟩
    rcases turn i n H5 w5 with ⟨stop, qq⟩ | ⟨go, Nx, hNx, step⟩
    · refine thnF (T.done (X.blk s3 H3 sc ce fp) rfl rfl rfl hc i [] s5 _ H5 (fun _ _ => False) I5 (stat I5 n5) st5 stop) fun r s6 ⟨hr, I6⟩ => ?_
      subst hr
      have I7 : L2.Inv X pins σ H5 s6 := I3.call' (ch := fp) I6.os I6.base I6.hok I6.bare fun b hb => ⟨(f3 b hb).1.2.2.2.1, (f3 b hb).1.2.1, (f3 b hb).1.2.2.2.2.1, (f3 b hb).1.2.2.2.2.2⟩
      have nC : H5 s3.heap.objs.size = none := by
        rw [← cL]
        exact I6.free
      obtain ⟨m, hn, _⟩ := I6.loc
      have hn : s6.heap.Ns ce.locals m := hn
      rw [cL] at hn
      refine ⟨m, hn, fun h'' sb => ?_⟩
      obtain ⟨g0, g1, g2, g3, g4, g5⟩ := I3.fpOk (Nat.le_refl _) nC
      exact ⟨.ref D, H5, I7.turned (t' := s6.toks) (fun b o hb e => (sb.2 b hb).trans e) g0 g1 g3 g4 g5, rfl, qq⟩
    · refine thnF (T.item (X.blk s3 H3 sc ce fp) rfl rfl rfl hc i [] s5 _ H5 (fun _ _ => False) I5 (stat I5 n5) st5 go) fun r s6 ⟨u, hr, h6⟩ => ?_
      subst hr
      refine thnF h6 fun _ s7 ⟨x, H7, I7, r7, y7, st7, n7⟩ => ?_
      have I7p := I7.pinned (stat I7 n7) (T.obj _ _ st7)
      refine thnF (pg.run _ s7 _ H7 x u _ I7p r7 (step x H7 y7)) fun _ s8 ⟨σ8, H8, I8, hw8, q8⟩ => ?_
      refine thnF (pt.run _ s8 σ8 H8 _ I8 q8) fun b s9 ⟨H9, I9, q9⟩ => ?_
      have back : ∀ {τ : L2.St} {s' : Shared} {H' : Hp}, L2.Inv (X.blk s3 H3 sc ce fp) ([] ++ pinsAt fp s7.heap) τ H' s' → σ0.length = τ.length → (∀ (j : Nat) v, σ0[j]? = some (some v) → τ[j]? = some (some v)) → Nx H' → ∃ m, m < n ∧ Jo m s' := fun {τ s' H'} I' hl hk nx => by
        obtain ⟨m1, hm, w1⟩ := hNx H' nx
        have pin : ∀ b ∈ fp, ∀ o, s7.heap.get? b = some o → s'.heap.get? b = some o ∧ H' b = none := fun b hb o e =>
          let z := I'.pin (b, o) (List.mem_append_right _ (List.mem_append_right _ (mem_pinsAt hb e)))
          ⟨z.1, z.2.1⟩
        refine ⟨m1, hm, i + 1, H', (I'.unpinned (pins := [])).weak hl hk, T.keep _ _ _ st7 fun b hb o e => (pin b hb o e).1, fun b hb => ?_, w1⟩
        obtain ⟨o, e, _⟩ := T.obj _ _ st7 b hb
        exact (pin b hb o e).2
      have l8 : σ0.length = σ8.length := by rw [← hw8, wipe_length]
      have k8 : ∀ (j : Nat) v, σ0[j]? = some (some v) → σ8[j]? = some (some v) := fun j v e => by
        rw [← hw8] at e
        exact (wipe_some e).1
      cases b with
      | false =>
        simp only [Bool.false_eq_true, if_false] at q9 ⊢
        exact back I9 l8 k8 q9
      | true =>
        simp only [if_true] at q9 ⊢
        refine thnF (pe.run _ s9 σ8 H9 _ I9 q9) fun z s17 ⟨yv, H17, I17, r17, c, S, nn, ey, hD17, hz17, nx⟩ => ?_
        subst ey
        exact addI (X := X.blk s3 H3 sc ce fp) I17 hD17 hz17 r17 fun s18 I18 => back I18 l8 k8 nx
  exact PpSet.codeAny_compStart_set main (T.self X.A 0 _ _ _ st4 main)
end
end RL
/-! A set of small numbers while it grows, and sorted. -/
namespace RL
open PySem PySem.Spec PyProof.Rows L2 RLM
/-- the members so far: numbers below N -/
def SetN (w : World) (N : Nat) (D : Addr) (H : Hp) (r : Nat → Prop) : Prop := ∃ (S : Int → Bool) (cnt : Nat), H D = some (SetO w D S cnt) ∧ cnt ≤ (List.range N).countP (fun b => S (nI b)) ∧ ∀ k : Int, S k = true ↔ ∃ b : Nat, k = nI b ∧ b < N ∧ r b
section
variable {w : World} {N : Nat} {D : Addr} {H H' : Hp} {r r' : Nat → Prop}
theorem SetN.zero (h : H D = some (SetO w D (fun _ => false) 0)) : SetN w N D H fun _ => False :=
  ⟨_, 0, h, Nat.zero_le _, fun k => ⟨fun z => (by cases z), fun ⟨_, _, _, z⟩ => z.elim⟩⟩
theorem SetN.same (s : Same H H') (h : SetN w N D H r) : SetN w N D H' r := let ⟨S, c, e, z⟩ := h; ⟨S, c, s _ _ e, z⟩
theorem SetN.iff (h : SetN w N D H r) (i : ∀ b, b < N → (r b ↔ r' b)) : SetN w N D H r' := by
  obtain ⟨S, c, e, l, m⟩ := h
  exact ⟨S, c, e, l, fun k => (m k).trans (exists_congr fun b => and_congr_right fun _ => and_congr_right fun hb => i b hb)⟩
theorem SetN.put (h : SetN w N D H r) (N8 : N ≤ 60) {b : Nat} (hb : b < N) : ∃ (S : Int → Bool) (cnt : Nat), H D = some (SetO w D S cnt) ∧ cnt + 1 < scanBound ∧ SetN w N D (upd H D (SetO w D (fun j => S j || decide (j = nI b)) (if S (nI b) = true then cnt else cnt + 1))) fun x => r x ∨ x = b := by
  obtain ⟨S, cnt, e, l, m⟩ := h
  have c8 : cnt ≤ 60 := Nat.le_trans l (Nat.le_trans List.countP_le_length (by rw [List.length_range]; exact N8))
  refine ⟨S, cnt, e, Nat.lt_of_le_of_lt (show cnt + 1 ≤ 61 by omega) (by decide), _, _, upd_same, ?_, fun k => ?_⟩
  · by_cases sb : S (nI b) = true
    · rw [if_pos sb]
      exact Nat.le_trans l (List.countP_mono_left fun z _ hz => by rw [hz]; rfl)
    · rw [if_neg sb]
      have sb' : S (nI b) = false := by simpa using sb
      exact Nat.le_trans (Nat.succ_le_succ l) (count_more (List.range N) (b := b) (List.mem_range.mpr hb) (fun z hz => by rw [hz]; rfl) sb' (by simp))
  · rw [Bool.or_eq_true, m k, decide_eq_true_iff]
    constructor
    · rintro (⟨b', e, h1, h2⟩ | e)
      · exact ⟨b', e, h1, .inl h2⟩
      · exact ⟨b, e, hb, .inr rfl⟩
    · rintro ⟨b', e, h1, h2 | h2⟩
      · exact .inl ⟨b', e, h1, h2⟩
      · rw [h2] at e
        exact .inr e
theorem SetN.sorted {Q : VK} (h : SetN w N D H r) (N8 : N ≤ 60) (p : Nat → Bool) (i : ∀ b, b < N → (r b ↔ p b = true)) (q : ∀ l, H l = none → Q (.ref l) (upd H l (.lst (((List.range N).filter p).map vI)))) : rSortedSet w [.ref D] H Q := by
  obtain ⟨S, cnt, e, l, m⟩ := h
  have c8 : cnt ≤ 60 := Nat.le_trans l (Nat.le_trans List.countP_le_length (by rw [List.length_range]; exact N8))
  refine ⟨D, S, cnt, rfl, e, by omega, fun ns a h1 h2 h3 hl => ?_⟩
  have e2 : ns.map V.int = ((List.range N).filter p).map vI := by
    have e3 : (List.range N).filter p = lotP N fun b => p b = true := by
      unfold lotP
      refine List.filter_congr fun b _ => ?_
      cases e : p b <;> simp [e]
    rw [e3]
    exact rise_lot h1 fun k => (h2 k).trans ((m k).trans (exists_congr fun b => and_congr_right fun _ => and_congr_right fun hb => i b hb))
  rw [e2]
  exact q a hl
end
end RL
/-! list(d.values()) -/
namespace RL
open PySem PySem.Spec PyProof.Rows L2
def valsO (p a : Addr) : HO := .ext fun h => h.IsValuesView p a
section
variable {X : Cx}
def rVals : V → List V → Hp → VK → Prop := fun x xs H Q => ∃ (a : Addr) (kvs : List (L2.Key × V)), x = .ref a ∧ xs = [] ∧ H a = some (.dK kvs) ∧ ∀ p, H p = none → Q (.ref p) (upd H p (valsO p a))
theorem mt_valuesK : MtR X "dict.values" rVals := by
  intro pins s σ H x xs v us Q I rx rxs h
  obtain ⟨a, kvs, rfl, rfl, ha, q⟩ := h
  cases rx
  cases rxs
  obtain ⟨_, sysA, vs, _, dof⟩ := dk_of I.hok ha
  have ty := dof.typeIs
  refine call_meetsIn F.slot_dict_values ty F.entry_dict_values (F.args_dict_values_1 _) (meets_dict_values (mixKind X.prog X.w) a sysA) ⟨⟨vs, dof⟩, ?_⟩
  have new : H s.heap.objs.size = none := I.hok.fresh (Nat.le_refl _)
  have at_ : (s.heap.push { cls := .type "dict_values", data := .fields #[.ref a] }).get? s.heap.objs.size = some { cls := .type "dict_values", data := .fields #[.ref a] } := Heap.get?_push_size _ rfl
  refine ⟨.ref s.heap.objs.size, _, I.laid (o := valsO s.heap.objs.size a) (t' := s.toks) (fun b u e => Heap.get?_push_of_some _ e) (Nat.le_refl _) ⟨⟨_, at_, rfl, rfl⟩, ⟨_, at_⟩, fun h1 h2 z k => ?_⟩, rfl, q _ new⟩
  obtain ⟨o, ho, r⟩ := z
  exact ⟨o, k o ho, r⟩
def rListVals : List V → Hp → VK → Prop := fun xs H Q => ∃ (p a : Addr) (kvs : List (L2.Key × V)), xs = [.ref p] ∧ H p = some (valsO p a) ∧ H a = some (.dK kvs) ∧ ∀ q, H q = none → Q (.ref q) (upd H q (.lst (kvs.map (·.2))))
theorem listVals (calm : X.calm = true := by rfl) : CallR X (.type "list") rListVals := by
  intro pins s σ H xs us Q I r h
  obtain ⟨p, a, kvs, rfl, hp, ha, q⟩ := h
  obtain ⟨u, rfl, rx⟩ := r.one
  cases rx
  obtain ⟨few, sysA, vs, rel, dof⟩ := dk_of I.hok ha
  obtain ⟨ep, dat⟩ := dof.dictAt
  obtain ⟨view, _⟩ := (show ObjOk X.prog X.w H s.heap p (valsO p a) from I.hok p _ hp)
  have len : kvs.length = vs.length := rel.length
  refine PySem.W.kdl_call (PySem.W.kdl_values (knd := mixKind X.prog X.w) (r := p) (d := a) (kvs := vs) (ep := ep)) (I.ok.hd calm) ⟨view, dat⟩ (by omega) fun h' tk acc c kp at_ items => ?_
  have al : acc.toList.length = vs.length := by rw [Array.length_toList]; exact items.1
  refine ⟨.ref s.heap.objs.size, upd H s.heap.objs.size (.lst (kvs.map (·.2))), I.laid (t' := tk) kp (Nat.le_refl _) (show ObjOk X.prog X.w _ _ _ (.lst (kvs.map (·.2))) from ⟨by rw [List.length_map]; exact few, acc.toList, c, ?_, by rw [Array.toArray_toList]; exact at_⟩), rfl, q _ (I.hok.fresh (Nat.le_refl _))⟩
  refine vals_of_at (by rw [List.length_map, al, len]) fun j y z hy hz => ?_
  obtain ⟨k, hk⟩ := items.2 j z (by rw [← Array.getElem?_toList]; exact hz)
  obtain ⟨y2, hy2, ry⟩ := KV.at' rel hk
  rw [List.getElem?_map, hy2] at hy
  cases Option.some.inj hy
  exact ry
end
end RL
/-! games: what is asked, which choices there are, what they leave -/
namespace RL
open PySem PySem.Spec PyProof.Rows L2 RLM
theorem ite_onceG {b : Bool} {X Y B : Prop} (hx : b = true → B → X) (hy : b = false → B → Y) (n : B) : if b = true then X else Y := by
  cases b with
  | true => exact hx rfl n
  | false => exact hy rfl n
section
variable {P : Program} {w : World} {K : PySem.W.Frag} {mg : Str → Option Value} {base : Heap}
def spTurns (K : PySem.W.Frag) : Sp := fun vs H Q _ => ∃ (c x : Addr) (G : Gm), vs = [.ref x] ∧ GameAt K c H x G ∧ Q (vI G.hands.length) H
theorem sc_Game_turns : FnScope ["self"] ["self"] (defScope s_Game_turns) := ⟨rfl, rfl, rfl, by decide +kernel, rfl, by decide +kernel, by decide +kernel⟩
theorem ok_turns (T : Tx K mg) : Has P w K mg base (mC K "Game" "turns") 1 ["self"] (spTurns K) := by
  obtain ⟨fd, F⟩ := T.d_Game_turns
  refine ⟨⟨fd, F.ok sc_Game_turns (fun vs H Q E h => ?_) (fun cdv A outer s H vs Q E hr h => ?_), F.bindsN fun _ _ _ _ _ _ us hl => match us, hl with | [_], _ => rfl⟩, F.kp⟩
  · obtain ⟨c, x, G, rfl, _⟩ := h
    rfl
  · obtain ⟨c, x, G, rfl, GA, h⟩ := h
    refine ⟨_, PSs.nox (pss_one (ps_ret (pe_callB (lenK (K := K)) (by rfl) T.free_len (by decide +kernel) (pa_cons (fldK (K := K) (pv 0) rfl) pa_nil)))), ?_⟩
    obtain ⟨dx, b, e, o, es, us, E, h1, h2, h3, h4, h5, h6, h7, h8, h9⟩ := GA.ex
    refine ⟨_, rfl, x, _, dx, _, _, rfl, h1, T.cl_Game, T.n_Game_options, gf_options _ _ _ _, o, _, rfl, .inl (SqL.of h6), ?_⟩
    rw [List.length_map, h7]
    exact h
/-- a lot of the game, as a tuple -/
def LtAt (H : Hp) (t : Addr) (l : List Nat) : Prop := H t = some (.tup (l.map vI))
theorem lotP_bool {n : Nat} (p : Nat → Bool) : (List.range n).filter p = lotP n fun b => p b = true := by
  unfold lotP
  refine List.filter_congr fun b _ => ?_
  cases e : p b <;> simp [e]
def spGLot (K : PySem.W.Frag) : Sp := fun vs H Q _ => ∃ (c x t : Addr) (G : Gm) (s : Stt), vs = [.ref x, .ref t] ∧ GameAt K c H x G ∧ LtAt H t s.2 ∧ G.St s ∧ ∀ H', Same H H' → Q .non H'
theorem sc_Game_check_lot : FnScope ["self", "lot"] ["self", "lot"] (defScope s_Game_check_lot) := ⟨rfl, rfl, rfl, by decide +kernel, rfl, by decide +kernel, by decide +kernel⟩
theorem ok_gLot (T : Tx K mg) : Has P w K mg base (mC K "Game" "check_lot") 6 ["self", "lot"] (spGLot K) := by
  obtain ⟨⟨fd_check_filled_lot, F_check_filled_lot, b_check_filled_lot⟩, kp_check_filled_lot⟩ := ok_chkFilled (P := P) (w := w) (base := base) T
  obtain ⟨fd, F⟩ := T.d_Game_check_lot
  refine ⟨⟨fd, F.ok sc_Game_check_lot (fun vs H Q E h => ?_) (fun cdv A outer s H vs Q E hr h => ?_), F.bindsN fun _ _ _ _ _ _ us hl => match us, hl with | [_, _], _ => rfl⟩, F.kp⟩
  · obtain ⟨c, x, t, G, s, rfl, _⟩ := h
    rfl
  · obtain ⟨c, x, t, G, st, rfl, GA, ht, S, h⟩ := h
    have hr_check_filled_lot : Room 5 _ := hr.mono (by decide)
    refine ⟨_, PSs.nox (pss_one (ps_expr (pe_call F_check_filled_lot hr_check_filled_lot rfl T.glo_check_filled_lot kp_check_filled_lot b_check_filled_lot .nil pass0 (pa_cons (fldK (K := K) (pv 0) rfl) (pa_cons (pv 1) pa_nil))))), ?_⟩
    obtain ⟨dx, b, e, o, es, us, E, h1, h2, h3, h4, h5, h6, h7, h8, h9⟩ := GA.ex
    obtain ⟨_, ne, p, ep⟩ := S
    have ht' : H t = some (.tup ((lotP G.n fun b => p b = true).map vI)) := by rw [← lotP_bool, ← ep]; exact ht
    refine ⟨_, rfl, x, _, dx, _, _, rfl, h1, T.cl_Game, T.n_Game_ground, gf_ground _ _ _ _, _, rfl, c, b, t, G.n, E, _, rfl, h2, ht', ?_, fun H1 s1 => h H1 s1⟩
    cases el : st.2 with
    | nil => exact absurd el ne
    | cons q r =>
      have : q ∈ lotP G.n fun b => p b = true := by rw [← lotP_bool, ← ep, el]; exact List.mem_cons_self ..
      exact ⟨q, (mem_lotP.mp this).1, (mem_lotP.mp this).2⟩
def spGTurn (K : PySem.W.Frag) : Sp := fun vs H Q _ => ∃ (c x : Addr) (G : Gm) (t : Nat), vs = [.ref x, vI t] ∧ GameAt K c H x G ∧ t < G.hands.length ∧ Q .non H
theorem sc_Game_check_turn : FnScope ["self", "turn"] ["self", "turn"] (defScope s_Game_check_turn) := ⟨rfl, rfl, rfl, by decide +kernel, rfl, by decide +kernel, by decide +kernel⟩
theorem ok_gTurn (T : Tx K mg) : Has P w K mg base (mC K "Game" "check_turn") 3 ["self", "turn"] (spGTurn K) := by
  obtain ⟨⟨fd_turns, F_turns, b_turns⟩, kp_turns⟩ := ok_turns (P := P) (w := w) (base := base) T
  obtain ⟨⟨fd_is_between, F_is_between, b_is_between⟩, kp_is_between⟩ := ok_is_between (P := P) (w := w) (base := base) T
  obtain ⟨fd, F⟩ := T.d_Game_check_turn
  refine ⟨⟨fd, F.ok sc_Game_check_turn (fun vs H Q E h => ?_) (fun cdv A outer s H vs Q E hr h => ?_), F.bindsN fun _ _ _ _ _ _ us hl => match us, hl with | [_, _], _ => rfl⟩, F.kp⟩
  · obtain ⟨c, x, G, t, rfl, _⟩ := h
    rfl
  · obtain ⟨c, x, G, t, rfl, GA, tl, h⟩ := h
    have hr_turns : Room 1 _ := hr.mono (by decide)
    have hr_is_between : Room 2 _ := hr.mono (by decide)
    refine ⟨_, PSs.nox (pss_one (ps_if (pt_not (pt_val (pe_call F_is_between hr_is_between rfl T.glo_is_between kp_is_between b_is_between .nil pass0 (pa_cons (pv 1) (pa_cons pe_int (pa_cons (pe_op op_sub (pe_meth0 (pv 0) T.cl_Game T.m_Game_turns F_turns hr_turns b_turns .nil pass0) pe_int) pa_nil)))))) (pss_one ps_never) pss_nil)), ?_⟩
    obtain ⟨dx, b, e, o, es, us, E, h1, h2, h3, h4, h5, h6, h7, h8, h9⟩ := GA.ex
    refine ⟨_, rfl, _, rfl, x, dx, _, rfl, h1, (by rfl), c, x, G, rfl, GA, _, _, rfl, rfl, _, _, _, rfl, true, ?_, iteF h⟩
    show V.bl (decide _) = _
    rw [decide_eq_true ⟨by omega, by omega⟩]
def spGAsked (K : PySem.W.Frag) : Sp := fun vs H Q _ => ∃ (c x t : Addr) (G : Gm) (s : Stt) (bs fw : Nat), vs = [.ref x, .ref t, vI bs, vI fw, vI s.1] ∧ GameAt K c H x G ∧ LtAt H t s.2 ∧ G.St s ∧ fw ≤ bs ∧ bs ≤ 20 ∧ ∀ H', Same H H' → Q .non H'
theorem sc_Game_check_asked : FnScope ["self", "lot", "beats", "fewest", "turn"] ["self", "lot", "beats", "fewest", "turn"] (defScope s_Game_check_asked) := ⟨rfl, rfl, rfl, by decide +kernel, rfl, by decide +kernel, by decide +kernel⟩
theorem ok_gAsked (T : Tx K mg) : Has P w K mg base (mC K "Game" "check_asked") 7 ["self", "lot", "beats", "fewest", "turn"] (spGAsked K) := by
  obtain ⟨⟨fd_check_lot, F_check_lot, b_check_lot⟩, kp_check_lot⟩ := ok_gLot (P := P) (w := w) (base := base) T
  obtain ⟨⟨fd_check_turn, F_check_turn, b_check_turn⟩, kp_check_turn⟩ := ok_gTurn (P := P) (w := w) (base := base) T
  obtain ⟨⟨fd_is_between, F_is_between, b_is_between⟩, kp_is_between⟩ := ok_is_between (P := P) (w := w) (base := base) T
  obtain ⟨fd, F⟩ := T.d_Game_check_asked
  refine ⟨⟨fd, F.ok sc_Game_check_asked (fun vs H Q E h => ?_) (fun cdv A outer s H vs Q E hr h => ?_), F.bindsN fun _ _ _ _ _ _ us hl => match us, hl with | [_, _, _, _, _], _ => rfl⟩, F.kp⟩
  · obtain ⟨c, x, t, G, s, bs, fw, rfl, _⟩ := h
    rfl
  · obtain ⟨c, x, t, G, st, bs, fw, rfl, GA, ht, S, l1, l2, h⟩ := h
    have hr_check_lot : Room 6 _ := hr.mono (by decide)
    have hr_check_turn : Room 3 _ := hr.mono (by decide)
    have hr_is_between : Room 2 _ := hr.mono (by decide)
    refine ⟨_, PSs.nox (pss_cons (ps_expr (pe_meth (pv 0) T.cl_Game T.m_Game_check_lot F_check_lot hr_check_lot b_check_lot .nil pass0 (pa_cons (pv 1) pa_nil)))
      (pss_cons (ps_if (pt_not (pt_val (pe_call F_is_between hr_is_between rfl T.glo_is_between kp_is_between b_is_between .nil pass0 (pa_cons (pv 2) (pa_cons (pv 3) (pa_cons (pe_glob (v := .int 20) rfl T.glob_MOST_GAME.choose_spec ⟨_, rfl⟩) pa_nil)))))) (pss_one ps_never) pss_nil)
      (pss_one (ps_expr (pe_meth (pv 0) T.cl_Game T.m_Game_check_turn F_check_turn hr_check_turn b_check_turn .nil pass0 (pa_cons (pv 4) pa_nil)))))), ?_⟩
    obtain ⟨dx, b, e, o, es, us, E, h1, h2, h3, h4, h5, h6, h7, h8, h9⟩ := GA.ex
    refine ⟨_, rfl, x, dx, _, rfl, h1, (by rfl), _, rfl, c, x, t, G, st, rfl, GA, ht, S, fun H1 s1 => ?_⟩
    have GA1 := GA.same s1
    have h1' := s1 _ _ h1
    refine ⟨_, rfl, _, rfl, _, _, _, rfl, true, ?_, iteF ?_⟩
    · show V.bl (decide _) = _
      rw [decide_eq_true ⟨by omega, by omega⟩]
    exact ⟨_, rfl, x, dx, _, rfl, h1', (by rfl), _, rfl, c, x, G, st.1, rfl, GA1, S.1, h H1 s1⟩
def spGChoices (K : PySem.W.Frag) : Sp := fun vs H Q _ => ∃ (c x : Addr) (G : Gm) (t : Nat), vs = [.ref x, vI t] ∧ GameAt K c H x G ∧ t < G.hands.length ∧ ∀ l, H l = none → Q (.ref l) (upd H l (.lst ((List.range (G.opts t).length).map fun (i : Nat) => V.int ((i : Int) - 1))))
theorem sc_Game_choices_of : FnScope ["self", "turn"] ["self", "turn"] (defScope s_Game_choices_of) := ⟨rfl, rfl, rfl, by decide +kernel, rfl, by decide +kernel, by decide +kernel⟩
theorem ok_gChoices (T : Tx K mg) : Has P w K mg base (mC K "Game" "choices_of") 1 ["self", "turn"] (spGChoices K) := by
  obtain ⟨fd, F⟩ := T.d_Game_choices_of
  refine ⟨⟨fd, F.ok sc_Game_choices_of (fun vs H Q E h => ?_) (fun cdv A outer s H vs Q E hr h => ?_), F.bindsN fun _ _ _ _ _ _ us hl => match us, hl with | [_, _], _ => rfl⟩, F.kp⟩
  · obtain ⟨c, x, G, t, rfl, _⟩ := h
    rfl
  · obtain ⟨c, x, G, t, rfl, GA, tl, h⟩ := h
    refine ⟨_, PSs.nox (pss_one (ps_ret (pe_listRg rfl (by rfl) T.free_list (prg_2 (by rfl) T.free_range (pe_un un_neg pe_int) (pe_op op_sub (pe_callB (lenK (K := K)) (by rfl) T.free_len (by decide +kernel) (pa_cons (pe_ix (ixL (K := K)) (fldK (K := K) (pv 0) rfl) (pv 1) (fun _ _ => rfl)) pa_nil)) pe_int))))), ?_⟩
    obtain ⟨dx, b, e, o, es, us, E, h1, h2, h3, h4, h5, h6, h7, h8, h9⟩ := GA.ex
    obtain ⟨u, hu⟩ : ∃ u, us[t]? = some u := ⟨_, List.getElem?_eq_getElem (by rw [h7]; exact tl)⟩
    have U := h8 u (List.mem_of_getElem? hu)
    have lu : u.2.length = (G.opts t).length := by rw [← h9 t u hu, List.length_map]
    have l5 : 1 ≤ (G.opts t).length ∧ (G.opts t).length ≤ 5 := by
      have e1 : G.opts t = (fun _ => 0, 0) :: G.hands.getD t [] := rfl
      have e2 : G.hands.getD t [] = G.hands[t] := by rw [List.getD_eq_getElem?_getD, List.getElem?_eq_getElem tl]; rfl
      have := (GA.ok.each _ (List.getElem_mem tl)).1
      rw [e1, List.length_cons, e2]
      omega
    have gu : (us.map fun u => V.ref u.1)[t]? = some (V.ref u.1) := by rw [List.getElem?_map, hu]; rfl
    refine ⟨1, rfl, _, rfl, x, _, dx, _, _, rfl, h1, T.cl_Game, T.n_Game_options, gf_options _ _ _ _, _, rfl, o, _, _, _, rfl, rfl, SqL.of h6, atI_nat gu, u.1, _, rfl, .inl (SqL.of U.1), _, _, rfl, rfl, _, _, rfl, rfl, ?_⟩
    rw [List.length_map, lu]
    refine ⟨⟨by omega, by omega, by omega, by omega, by omega⟩, fun l hl => ?_⟩
    have e1 : rgV (-1) (((G.opts t).length : Nat) - 1) = (List.range (G.opts t).length).map fun (i : Nat) => V.int ((i : Int) - 1) := by
      unfold rgV
      rw [show (((G.opts t).length : Int) - 1 - -1).toNat = (G.opts t).length by omega]
      exact List.map_congr_left fun i _ => by congr 1
    have := h l hl
    rw [← e1] at this
    exact this
def spGBreaks (K : PySem.W.Frag) : Sp := fun vs H Q _ => ∃ (c x t : Addr) (G : Gm) (l : List Nat), vs = [.ref x, .ref t] ∧ GameAt K c H x G ∧ LtAt H t l ∧ Q (.bl (decide (G.W < l.length))) H
theorem sc_Game_breaks : FnScope ["self", "lot"] ["self", "lot"] (defScope s_Game_breaks) := ⟨rfl, rfl, rfl, by decide +kernel, rfl, by decide +kernel, by decide +kernel⟩
theorem ok_gBreaks (T : Tx K mg) : Has P w K mg base (mC K "Game" "breaks") 1 ["self", "lot"] (spGBreaks K) := by
  obtain ⟨fd, F⟩ := T.d_Game_breaks
  refine ⟨⟨fd, F.ok sc_Game_breaks (fun vs H Q E h => ?_) (fun cdv A outer s H vs Q E hr h => ?_), F.bindsN fun _ _ _ _ _ _ us hl => match us, hl with | [_, _], _ => rfl⟩, F.kp⟩
  · obtain ⟨c, x, t, G, l, rfl, _⟩ := h
    rfl
  · obtain ⟨c, x, t, G, l, rfl, GA, ht, h⟩ := h
    refine ⟨_, PSs.nox (pss_one (ps_ret (pe_cmpR op_gt (pe_callB (lenK (K := K)) (by rfl) T.free_len (by decide +kernel) (pa_cons (pv 1) pa_nil)) (fldK (K := K) (pv 0) rfl) (nomark _)))), ?_⟩
    obtain ⟨dx, b, e, o, es, us, E, h1, h2, h3, h4, h5, h6, h7, h8, h9⟩ := GA.ex
    refine ⟨_, rfl, t, _, rfl, .inr (SqT.of ht), _, rfl, x, _, dx, _, _, rfl, h1, T.cl_Game, T.n_Game_most, gf_most _ _ _ _, _, _, rfl, rfl, ?_⟩
    have e1 : (fun i j : Int => V.bl (decide (j < i))) ((l.map vI).length : Nat) (G.W : Nat) = V.bl (decide (G.W < l.length)) := by
      show V.bl (decide ((G.W : Int) < ((l.map vI).length : Nat))) = _
      rw [List.length_map]
      congr 1
      rw [decide_eq_decide]
      omega
    show Q ((fun i j : Int => V.bl (decide (j < i))) ((l.map vI).length : Nat) (G.W : Nat)) H
    rw [e1]
    exact h
/-- a state as it stands: a pair of a turn and a lot's tuple -/
def StAt (H : Hp) (b : Addr) (s : Stt) : Prop := ∃ l, H b = some (.tup [vI s.1, .ref l]) ∧ LtAt H l s.2
theorem StAt.same {H H' : Hp} {b : Addr} {s : Stt} (k : Same H H') (h : StAt H b s) : StAt H' b s := let ⟨l, a, c⟩ := h; ⟨l, k _ _ a, k _ _ c⟩
theorem StAt.tk {H H' : Hp} {b : Addr} {s : Stt} (k : TK H H') (h : StAt H b s) : StAt H' b s := let ⟨l, a, c⟩ := h; ⟨l, k _ _ a, k _ _ c⟩
def spGBehind (K : PySem.W.Frag) : Sp := fun vs H Q _ => ∃ (c x lt : Addr) (G : Gm) (t : Nat) (l : List Nat), vs = [.ref x, vI t, .ref lt] ∧ GameAt K c H x G ∧ LtAt H lt l ∧ (∀ p ∈ l, p < G.n) ∧ ∀ H' b, StAt H' b (G.behind t l) → Same H H' → Q (.ref b) H'
theorem sc_Game_behind : FnScope ["self", "turn", "lot", "later", "place", "end"] ["self", "turn", "lot"] (defScope s_Game_behind) := ⟨rfl, rfl, rfl, by decide +kernel, rfl, by decide +kernel, by decide +kernel⟩
theorem ok_gBehind (T : Tx K mg) : Has P w K mg base (mC K "Game" "behind") 2 ["self", "turn", "lot"] (spGBehind K) := by
  obtain ⟨⟨fd_turns, F_turns, b_turns⟩, kp_turns⟩ := ok_turns (P := P) (w := w) (base := base) T
  obtain ⟨fd, F⟩ := T.d_Game_behind
  refine ⟨⟨fd, F.ok sc_Game_behind (fun vs H Q E h => ?_) (fun cdv A outer s H vs Q E hr h => ?_), F.bindsN fun _ _ _ _ _ _ us hl => match us, hl with | [_, _, _], _ => rfl⟩, F.kp⟩
  · obtain ⟨c, x, lt, G, t, l, rfl, _⟩ := h
    rfl
  · obtain ⟨c, x, lt, G, t, l, rfl, GA, ht, hl, h⟩ := h
    have hr_turns : Room 1 _ := hr.mono (by decide)
    refine ⟨_, PSs.nox (pss_cons (ps_set (i := 3) sc_Game_behind.nd rfl (Or.inl rfl) (pe_ifExp (pt_cmpR op_lt (pe_op op_add (pv 1) pe_int) (pe_meth0 (pv 0) T.cl_Game T.m_Game_turns F_turns hr_turns b_turns .nil pass0) (nomark _)) (pe_op op_add (pv 1) pe_int) pe_int))
      (pss_one (ps_ret (pe_tup (pa_cons (pv 3) (pa_cons (pe_callTy (tupK (K := K)) (by rfl) T.free_tuple (by decide +kernel) (pa_cons (pe_callB (sortS (w := w)) (by rfl) T.free_sorted (by decide +kernel) (pa_cons (pe_sc2 (own := [("place", 4), ("end", 5)]) (vs1 := [5]) rfl sc_Game_behind.nd (piT (K := K) (pv 2)) (blkOk_by (by kernel_rfl)) (by decide) (fun _ _ _ _ _ => (pg_name (i := 4) sc_Game_behind.nd rfl (Or.inl rfl))) (fun _ _ _ _ _ => pts_nil) (fun _ _ _ _ _ => (piT (K := K) (pe_ix (ixL (K := K)) (fldK (K := K) (pv 0) rfl) (pv 4) (fun _ _ => rfl)))) (fun _ _ _ _ _ => (pg_name (i := 5) sc_Game_behind.nd rfl (Or.inl rfl))) (fun _ _ _ _ _ => pts_nil) (fun _ _ _ _ _ => (pv 5))) pa_nil)) pa_nil)) pa_nil)))))), ?_⟩
    obtain ⟨dx, b, e, o, es, us, E, h1, h2, h3, h4, h5, h6, h7, h8, h9⟩ := GA.ex
    have n8 := GA.ok.n8
    refine ⟨_, rfl, _, _, rfl, rfl, _, rfl, x, dx, _, rfl, h1, (by rfl), c, x, G, rfl, GA, ?_⟩
    have ec : decide ((t : Int) + 1 < ((G.hands.length : Nat) : Int)) = decide (t + 1 < G.hands.length) := by
      rw [decide_eq_decide]
      omega
    refine ⟨_, _, rfl, rfl, _, rfl, ?_⟩
    show if decide ((t : Int) + 1 < ((G.hands.length : Nat) : Int)) = true then _ else _
    rw [ec]
    refine @ite_onceG _ _ _ ?B (fun c k => ?X) (fun c k => ?Y) ?N
    case X =>
      have e1 : V.int ((t : Int) + 1) = vI (G.after t) := by
        unfold Gm.after
        rw [if_pos (of_decide_eq_true c)]
        rfl
      refine ⟨_, rfl, _, _, rfl, rfl, ?_⟩
      rw [show (fun i j : Int => V.int (i + j)) ((t : Nat) : Int) 1 = vI (G.after t) from e1]
      exact k
    case Y =>
      have e1 : V.int 0 = vI (G.after t) := by
        unfold Gm.after
        rw [if_neg (of_decide_eq_false c)]
        rfl
      show _
      rw [e1]
      exact k
    case N =>
      refine ⟨_, rfl, _, rfl, lt, rfl, ⟨_, SqT.of ht⟩, fun D hD => ?_⟩
      refine ⟨fun i m H3 => m = l.length - i ∧ i ≤ l.length ∧ SetN w 8 D H3 (fun q => ∃ a, a ∈ l.take i ∧ G.ends a q = true ∧ q < G.n) ∧ Same H H3, ⟨_, rfl, Nat.zero_le _, (SetN.zero upd_same).iff fun q _ => ⟨fun z => z.elim, fun ⟨a, ha, _⟩ => by simp at ha⟩, same_upd hD⟩, ?_⟩
      rintro i m H3 ⟨rfl, il, SI, s3⟩
      by_cases lt' : i < l.length
      · have ea : l[i]? = some l[i] := List.getElem?_eq_getElem lt'
        generalize l[i] = a at ea
        have an := hl a (List.mem_of_getElem? ea)
        have et : l.take (i + 1) = l.take i ++ [a] := by
          rw [List.take_add_one, ea]
          rfl
        refine .inr ⟨⟨_, vI a, SqT.of (s3 _ _ ht), get_map ea⟩, fun H4 => SetN w 8 D H4 (fun q => ∃ a, a ∈ l.take (i + 1) ∧ G.ends a q = true ∧ q < G.n) ∧ Same H H4, fun H4 ⟨q1, q2⟩ => ⟨_, by omega, rfl, lt', q1, q2⟩, fun y H4 hy => ?_⟩
        obtain ⟨e4, hy⟩ := hy
        subst e4
        have ey : y = vI a := by
          have := hy _ (SqT.of (s3 _ _ ht))
          rw [get_map ea] at this
          exact (Option.some.inj this).symm
        subst ey
        obtain ⟨u, hu⟩ : ∃ u, es[a]? = some u := ⟨_, List.getElem?_eq_getElem (by rw [h4]; exact an)⟩
        have hu' := s3 _ _ (h5 a u hu)
        have ge : (es.map V.ref)[a]? = some (V.ref u) := by rw [List.getElem?_map, hu]; rfl
        refine ⟨rfl, ?_⟩
        unfold tYes
        refine iteT ?_
        obtain ⟨W, eW⟩ : ∃ W, W = (List.range G.n).filter (G.ends a) := ⟨_, rfl⟩
        rw [← eW] at hu'
        have mW : ∀ q, q ∈ W ↔ q < G.n ∧ G.ends a q = true := fun q => by rw [eW, List.mem_filter, List.mem_range]
        refine ⟨_, rfl, x, _, dx, _, _, rfl, s3 _ _ h1, T.cl_Game, T.n_Game_ends, gf_ends _ _ _ _, _, rfl, e, _, _, _, rfl, rfl, SqL.of (s3 _ _ h3), atI_nat ge, u, rfl, ⟨_, SqT.of hu'⟩, fun j m H6 => m = W.length - j ∧ j ≤ W.length ∧ SetN w 8 D H6 (fun q => (∃ a, a ∈ l.take i ∧ G.ends a q = true ∧ q < G.n) ∨ q ∈ W.take j) ∧ Same H H6, ⟨_, rfl, Nat.zero_le _, SI.iff fun q _ => ⟨.inl, fun z => z.elim id fun y => (by simp at y)⟩, s3⟩, ?_⟩
        rintro j m H6 ⟨rfl, jl, SJ, s6⟩
        have hu6 := s6 _ _ (h5 a u hu)
        rw [← eW] at hu6
        by_cases lt2 : j < W.length
        · have eb : W[j]? = some W[j] := List.getElem?_eq_getElem lt2
          generalize W[j] = q at eb
          have mq := (mW q).mp (List.mem_of_getElem? eb)
          have et2 : W.take (j + 1) = W.take j ++ [q] := by
            rw [List.take_add_one, eb]
            rfl
          refine .inr ⟨⟨_, vI q, SqT.of hu6, get_map eb⟩, fun H7 => SetN w 8 D H7 (fun q => (∃ a, a ∈ l.take i ∧ G.ends a q = true ∧ q < G.n) ∨ q ∈ W.take (j + 1)) ∧ Same H H7, fun H7 ⟨q1, q2⟩ => ⟨_, by omega, rfl, lt2, q1, q2⟩, fun y H7 hy => ?_⟩
          obtain ⟨e7, hy⟩ := hy
          subst e7
          have ey : y = vI q := by
            have := hy _ (SqT.of hu6)
            rw [get_map eb] at this
            exact (Option.some.inj this).symm
          subst ey
          refine ⟨rfl, ?_⟩
          refine iteT ?_
          obtain ⟨S, cnt, hS, few, nw⟩ := SJ.put (by decide) (show q < 8 by omega)
          refine ⟨_, rfl, nI q, S, cnt, rfl, hS, few, nw.iff fun b _ => ?_, same_mut s6 hD⟩
          rw [et2, List.mem_append, List.mem_singleton, or_assoc]
        · have e : j = W.length := by omega
          subst e
          refine .inl ⟨⟨_, SqT.of hu6, by rw [List.length_map]; exact Nat.le_refl _⟩, SJ.iff fun b _ => ?_, s6⟩
          rw [List.take_length, mW, et]
          constructor
          · rintro (⟨a', z1, z2⟩ | ⟨z1, z2⟩)
            · exact ⟨a', List.mem_append_left _ z1, z2⟩
            · exact ⟨a, List.mem_append_right _ (List.mem_singleton.mpr rfl), z2, z1⟩
          · rintro ⟨a', z1, z2, z3⟩
            rcases List.mem_append.mp z1 with z | z
            · exact .inl ⟨a', z, z2, z3⟩
            · rw [List.mem_singleton.mp z] at z2
              exact .inr ⟨z3, z2⟩
      · have e : i = l.length := by omega
        subst e
        refine .inl ⟨⟨_, SqT.of (s3 _ _ ht), by rw [List.length_map]; exact Nat.le_refl _⟩, ?_⟩
        unfold tNil
        refine SI.sorted (by decide) (fun q => decide (q < G.n) && l.any fun a => G.ends a q) (fun q _ => ?_) fun r hr => ?_
        · rw [Bool.and_eq_true, decide_eq_true_iff, List.any_eq_true, List.take_length]
          exact ⟨fun ⟨a, z1, z2, z3⟩ => ⟨z3, a, z1, z2⟩, fun ⟨z3, a, z1, z2⟩ => ⟨a, z1, z2, z3⟩⟩
        · refine ⟨r, _, rfl, .inl ⟨SqL.of upd_same, fun f hf => ⟨(by show 2 ≤ sizeLine; decide), fun p hp => ?_⟩⟩⟩
          have s4 := same_upd (o := HO.lst (((List.range 8).filter fun q => decide (q < G.n) && l.any fun a => G.ends a q).map vI)) hr
          have s5 := same_upd (o := HO.tup (((List.range 8).filter fun q => decide (q < G.n) && l.any fun a => G.ends a q).map vI)) hf
          have s6 := same_upd (o := HO.tup [vI (G.after t), .ref f]) hp
          refine h _ p ⟨f, upd_same, ?_⟩ (((s3.trans s4).trans s5).trans s6)
          show _ = some (HO.tup ((G.move l).map vI))
          rw [s6 _ _ upd_same]
          congr 3
          have e8 : List.range 8 = List.range G.n ++ (List.range (8 - G.n)).map (G.n + ·) := by rw [← List.range_add]; congr 1; omega
          rw [e8, List.filter_append]
          have e9 : ((List.range (8 - G.n)).map (G.n + ·)).filter (fun q => decide (q < G.n) && l.any fun a => G.ends a q) = [] := by
            rw [List.filter_eq_nil_iff]
            intro q hq
            obtain ⟨z, _, rfl⟩ := List.mem_map.mp hq
            intro y
            rw [Bool.and_eq_true, decide_eq_true_iff] at y
            omega
          rw [e9, List.append_nil]
          unfold Gm.move
          refine List.filter_congr fun q hq => ?_
          rw [decide_eq_true (List.mem_range.mp hq), Bool.true_and]
end
end RL
/-! A dict comprehension whose keys are small numbers, each once. -/
namespace RL
open PySem PySem.Spec PyProof.Rows L2 RLM
abbrev kvI (ps : List (Nat × V)) : List (Key × V) := ps.map fun q => ((Sum.inl (nI q.1) : Key), q.2)
theorem kvI_none {ps : List (Nat × V)} {k : Nat} (h : k ∉ ps.map (·.1)) : valV (kvI ps) (Sum.inl (nI k) : Key) = none := by
  induction ps with
  | nil => rfl
  | cons q ps ih =>
    rw [List.map_cons, List.mem_cons, not_or] at h
    unfold kvI
    rw [List.map_cons]
    rw [valV_neg (p := ((Sum.inl (nI q.1) : Key), q.2)) (fun z => h.1 (by
      have := Sum.inl.inj z
      unfold nI at this
      omega))]
    exact ih h.2
section
variable {J : It} {n : Nat} {G : Hp → Prop} {Y : Nat → Hp → V → Hp → Prop} {g : TG} {tk tv : TE} {vs : List Nat} {σ : L2.St} {H : Hp} {D : Addr} {Qd : Hp → Prop}
theorem dc_relI (w : Walk J n G Y) (ks : Nat → Nat) (R : Nat → V → Hp → Prop) (inj : ∀ i j, i < n → j < n → ks i = ks j → i = j) (hn : n ≤ 100000) (hD : H D = none) (tkR : ∀ k v H1 H2, R k v H1 → TK H1 H2 → R k v H2) (hG : ∀ H1, Same H H1 → G H1)
    (hs : ∀ i x H1 H2 (Nx : V → V → Hp → Prop), i < n → Same H H1 → Y i H1 x H2 → (∀ z H5, R i z H5 → Same H1 H5 → Nx (vI (ks i)) z H5) → g x (wipe σ vs) H2 fun σ2 H3 => wipe σ2 vs = wipe σ vs ∧ tk σ2 H3 fun y H4 => tv σ2 H4 fun z H5 => Nx y z H5)
    (hd : ∀ H1 (ps : List (Nat × V)), H1 D = some (.dK (kvI ps)) → ps.map (·.1) = (List.range n).map ks → (∀ k q, ps[k]? = some q → R k q.2 H1) → Same H H1 → Qd H1) :
    ∃ W : Nat → Nat → Hp → Prop, (∃ m, W 0 m (upd H D (.dK []))) ∧ ∀ i m H, W i m H →
      (J.stop i H ∧ Qd H) ∨ (J.go i H ∧ ∃ Nx : Hp → Prop, (∀ H', Nx H' → ∃ m', m' < m ∧ W (i + 1) m' H') ∧ ∀ x H', J.yld i H x H' → g x (wipe σ vs) H' fun σ2 H2 => wipe σ2 vs = wipe σ vs ∧ tYes σ2 H2 fun b H3 =>
        if b = true then tk σ2 H3 fun y H4 => tv σ2 H4 fun z H5 => ∃ kvs k, y = kV k ∧ H5 D = some (.dK kvs) ∧ kvs.length < sizeLine ∧ Nx (upd H5 D (.dK (putK kvs k z))) else Nx H3) := by
  refine ⟨fun i m H1 => m = n - i ∧ i ≤ n ∧ ∃ ps : List (Nat × V), H1 D = some (.dK (kvI ps)) ∧ ps.map (·.1) = (List.range i).map ks ∧ (∀ k q, ps[k]? = some q → R k q.2 H1) ∧ Same H H1, ⟨n, rfl, Nat.zero_le _, [], upd_same, rfl, fun k q e => (by simp at e), same_upd hD⟩, ?_⟩
  rintro i m H1 ⟨rfl, il, ps, h1, h2, h3, s1⟩
  by_cases lt : i < n
  · refine .inr ⟨w.goes i H1 lt (hG H1 s1), fun H' => ∃ ps : List (Nat × V), H' D = some (.dK (kvI ps)) ∧ ps.map (·.1) = (List.range (i + 1)).map ks ∧ (∀ k q, ps[k]? = some q → R k q.2 H') ∧ Same H H', fun H' p' => ⟨n - (i + 1), by omega, rfl, lt, p'⟩, fun x H' y => ?_⟩
    refine hs i x H1 H' (fun y z H5 => ∃ kvs k, y = kV k ∧ H5 D = some (.dK kvs) ∧ kvs.length < sizeLine ∧ ∃ ps : List (Nat × V), (upd H5 D (.dK (putK kvs k z))) D = some (.dK (kvI ps)) ∧ ps.map (·.1) = (List.range (i + 1)).map ks ∧ (∀ k' q, ps[k']? = some q → R k' q.2 (upd H5 D (.dK (putK kvs k z)))) ∧ Same H (upd H5 D (.dK (putK kvs k z)))) lt s1 (w.yields i H1 x H' lt (hG H1 s1) y) fun z H5 r s5 => ?_
    have h5 := s5 _ _ h1
    have lp : ps.length = i := by
      have := congrArg List.length h2
      simpa using this
    have nk : ks i ∉ ps.map (·.1) := by
      rw [h2]
      intro z
      obtain ⟨j, hj, e⟩ := List.mem_map.mp z
      have hj := List.mem_range.mp hj
      have := inj j i (by omega) lt e
      omega
    have tku : TK H5 (upd H5 D (.dK (putK (kvI ps) (Sum.inl (nI (ks i)) : Key) z))) := fun a xs e => by
      rw [upd_ne (ne_of e h5 (fun z => nomatch z))]
      exact e
    refine ⟨kvI ps, (Sum.inl (nI (ks i)) : Key), rfl, h5, ?_, ps ++ [(ks i, z)], ?_, ?_, fun k q e => ?_, same_mut (s1.trans s5) hD⟩
    · rw [List.length_map, lp]
      exact Nat.lt_of_lt_of_le lt (Nat.le_trans hn (by decide))
    · rw [upd_same, putK_new _ (kvI_none nk)]
      unfold kvI
      rw [List.map_append]
      rfl
    · rw [List.map_append, h2, List.range_succ, List.map_append]
      rfl
    · by_cases hk : k < ps.length
      · rw [List.getElem?_append_left hk] at e
        exact tkR _ _ _ _ (h3 k q e) ((tk_same s5).trans tku)
      · rw [List.getElem?_append_right (by omega)] at e
        have ek : k = ps.length := by
          obtain ⟨z1, _⟩ := List.getElem?_eq_some_iff.mp e
          simp at z1
          omega
        rw [ek, Nat.sub_self] at e
        cases Option.some.inj e
        rw [ek, lp]
        exact tkR _ _ _ _ r tku
  · have e : i = n := by omega
    subst e
    exact .inl ⟨w.stops H1 (hG H1 s1), hd H1 ps h1 h2 h3 s1⟩
end
end RL
/-! games: a lot narrowed by each answer; the choices that do not break the wish at once -/
namespace RL
open PySem PySem.Spec PyProof.Rows L2 RLM
theorem none_backS {H H' : Hp} {a : Addr} (s : Same H H') (h : H' a = none) : H a = none := by
  cases e : H a with
  | none => rfl
  | some o => rw [s _ _ e] at h; cases h
section
variable {P : Program} {w : World} {K : PySem.W.Frag} {mg : Str → Option Value} {base : Heap}
/-- lots by answers, as a dict -/
def CutAt (H : Hp) (d : Addr) (g : Nat → Nat) (l : List Nat) : Prop := ∃ cs : List (Nat × Addr), H d = some (.dK (cs.map fun q => ((Sum.inl (nI q.1) : Key), V.ref q.2))) ∧ cs.map (·.1) = ansS g l ∧ ∀ q ∈ cs, LtAt H q.2 (cutA g l q.1)
def Gm.gAt (G : Gm) (t i : Nat) : Nat → Nat := ((G.opts t).getD i (fun _ => 0, 0)).1
def spGNarrow (K : PySem.W.Frag) : Sp := fun vs H Q _ => ∃ (c x lt : Addr) (G : Gm) (t i : Nat) (l : List Nat), vs = [.ref x, vI t, .ref lt, .int ((i : Int) - 1)] ∧ GameAt K c H x G ∧ t < G.hands.length ∧ i < (G.opts t).length ∧ LtAt H lt l ∧ (∀ p ∈ l, p < G.n) ∧ l.length ≤ 8 ∧
  ∀ H' d, CutAt H' d (((G.opts t).getD i (fun _ => 0, 0)).1) l → H d = none → Same H H' → Q (.ref d) H'
theorem sc_Game_narrowed : FnScope ["self", "turn", "lot", "choice", "given", "price", "place", "answer"] ["self", "turn", "lot", "choice"] (defScope s_Game_narrowed) := ⟨rfl, rfl, rfl, by decide +kernel, rfl, by decide +kernel, by decide +kernel⟩
theorem ok_gNarrow (T : Tx K mg) : Has P w K mg base (mC K "Game" "narrowed") 1 ["self", "turn", "lot", "choice"] (spGNarrow K) := by
  obtain ⟨fd, F⟩ := T.d_Game_narrowed
  refine ⟨⟨fd, F.ok sc_Game_narrowed (fun vs H Q E h => ?_) (fun cdv A outer s H vs Q E hr h => ?_), F.bindsN fun _ _ _ _ _ _ us hl => match us, hl with | [_, _, _, _], _ => rfl⟩, F.kp⟩
  · obtain ⟨c, x, lt, G, t, i, l, rfl, _⟩ := h
    rfl
  · obtain ⟨c, x, lt, G, t, i, l, rfl, GA, tl, il, ht, hl, l8, h⟩ := h
    refine ⟨_, PSs.nox (pss_cons (ps_asg (pe_ix (ixL (K := K)) (pe_ix (ixL (K := K)) (fldK (K := K) (pv 0) rfl) (pv 1) (fun _ _ => rfl)) (pe_op op_add (pv 3) pe_int) (fun _ _ => rfl)) (pgT (K := K) (n := 2) rfl (pgs_cons (pg_name (i := 4) sc_Game_narrowed.nd rfl (Or.inr rfl)) (pgs_cons (pg_name (i := 5) sc_Game_narrowed.nd rfl (Or.inl rfl)) pgs_nil))))
      (pss_one (ps_ret (pe_dc (own := [("answer", 7)]) (g := (gName 7)) (tt := tYes) rfl sc_Game_narrowed.nd (piL (K := K) (pe_callB (sortS (w := w)) (by rfl) T.free_sorted (by decide +kernel) (pa_cons (pe_sc1 (own := [("place", 6)]) (ga := (gName 6)) (fa := tYes) rfl sc_Game_narrowed.nd (piT (K := K) (pv 2)) (blkOk_by (by kernel_rfl)) (fun _ _ _ _ _ => (pg_name (i := 6) sc_Game_narrowed.nd rfl (Or.inl rfl))) (fun _ _ _ _ _ => pts_nil) (fun _ _ _ _ _ => (pe_ix (ixT (K := K)) (pv 4) (pv 6) (fun _ _ => rfl)))) pa_nil))) (blkOk_by (by kernel_rfl)) (fun _ _ _ _ _ => (pg_name (i := 7) sc_Game_narrowed.nd rfl (Or.inr rfl))) (fun _ _ _ _ _ => pts_nil) (fun _ _ _ _ _ => (pv 7)) (fun _ _ _ _ _ => (pe_callTy (tupK (K := K)) (by rfl) T.free_tuple (by decide +kernel) (pa_cons (pe_lc (own := [("place", 6)]) (g := (gName 6)) rfl sc_Game_narrowed.nd (piT (K := K) (pv 2)) (blkOk_by (by kernel_rfl)) (fun _ _ _ _ _ => (pg_name (i := 6) sc_Game_narrowed.nd rfl (Or.inl rfl))) (fun _ _ _ _ _ => (pts_one (pt_cmpR op_eq (pe_ix (ixT (K := K)) (pv 4) (pv 6) (fun _ _ => rfl)) (pv 7) (nomark _)))) (fun _ _ _ _ _ => (pv 6))) pa_nil))))))), ?_⟩
    obtain ⟨dx, b, e, o, es, us, E, h1, h2, h3, h4, h5, h6, h7, h8, h9⟩ := GA.ex
    obtain ⟨u, hu⟩ : ∃ u, us[t]? = some u := ⟨_, List.getElem?_eq_getElem (by rw [h7]; exact tl)⟩
    obtain ⟨u1, u2⟩ := h8 u (List.mem_of_getElem? hu)
    have eu := h9 t u hu
    have gu : (us.map fun u => V.ref u.1)[t]? = some (V.ref u.1) := by rw [List.getElem?_map, hu]; rfl
    obtain ⟨q, hq⟩ : ∃ q, u.2[i]? = some q := ⟨_, List.getElem?_eq_getElem (by rw [← eu, List.length_map] at il; exact il)⟩
    have gq : (u.2.map fun o => V.ref o.1)[i]? = some (V.ref q.1) := by rw [List.getElem?_map, hq]; rfl
    obtain ⟨a, a1, a2⟩ := u2 q (List.mem_of_getElem? hq)
    have eq2 : (G.opts t).getD i (fun _ => 0, 0) = q.2 := by
      rw [← eu, List.getD_eq_getElem?_getD, List.getElem?_map, hq]
      rfl
    rw [eq2] at h
    have q8 : ∀ p, p < G.n → q.2.1 p ≤ 8 := fun p hp => by
      have hm : q.2 ∈ G.opts t := by rw [← eu]; exact List.mem_map.mpr ⟨q, List.mem_of_getElem? hq, rfl⟩
      rcases List.mem_cons.mp hm with z | z
      · rw [z]; exact Nat.zero_le _
      · have e2 : G.hands.getD t [] = G.hands[t] := by rw [List.getD_eq_getElem?_getD, List.getElem?_eq_getElem tl]; rfl
        rw [e2] at z
        exact ((GA.ok.each _ (List.getElem_mem tl)).2 _ z).2 p hp
    have n8 := GA.ok.n8
    refine ⟨_, rfl, x, _, dx, _, _, rfl, h1, T.cl_Game, T.n_Game_options, gf_options _ _ _ _, _, rfl, o, _, _, _, rfl, rfl, SqL.of h6, atI_nat gu, ?_⟩
    have ix : atI (u.2.map fun o => V.ref o.1) ((i : Int) - 1 + 1) = some (V.ref q.1) := by
      rw [show (i : Int) - 1 + 1 = (i : Int) by omega]
      exact atI_nat gq
    refine ⟨_, rfl, _, _, rfl, rfl, u.1, _, _, _, rfl, rfl, SqL.of u1, ix, q.1, _, rfl, SqT.of a1, rfl, _, _, rfl, _, _, rfl, rfl, ?_⟩
    refine ⟨_, rfl, lt, rfl, ⟨_, SqT.of ht⟩, fun D hD => ?_⟩
    refine ⟨fun j m H3 => m = l.length - j ∧ j ≤ l.length ∧ SetN w 9 D H3 (fun a => ∃ p, p ∈ l.take j ∧ q.2.1 p = a) ∧ Same H H3, ⟨_, rfl, Nat.zero_le _, (SetN.zero upd_same).iff fun q _ => ⟨fun z => z.elim, fun ⟨a, ha, _⟩ => by simp at ha⟩, same_upd hD⟩, ?_⟩
    rintro j m H3 ⟨rfl, jl, SI, s3⟩
    by_cases lt' : j < l.length
    · have ea : l[j]? = some l[j] := List.getElem?_eq_getElem lt'
      generalize l[j] = p at ea
      have pn := hl p (List.mem_of_getElem? ea)
      have et : l.take (j + 1) = l.take j ++ [p] := by
        rw [List.take_add_one, ea]
        rfl
      refine .inr ⟨⟨_, vI p, SqT.of (s3 _ _ ht), get_map ea⟩, fun H4 => SetN w 9 D H4 (fun a => ∃ p, p ∈ l.take (j + 1) ∧ q.2.1 p = a) ∧ Same H H4, fun H4 ⟨q1, q2⟩ => ⟨_, by omega, rfl, lt', q1, q2⟩, fun y H4 hy => ?_⟩
      obtain ⟨e4, hy⟩ := hy
      subst e4
      have ey : y = vI p := by
        have := hy _ (SqT.of (s3 _ _ ht))
        rw [get_map ea] at this
        exact (Option.some.inj this).symm
      subst ey
      refine ⟨rfl, ?_⟩
      unfold tYes
      refine iteT ?_
      obtain ⟨S, cnt, hS, few, nw⟩ := SI.put (by decide) (show q.2.1 p < 9 by have := q8 p pn; omega)
      have gp : ((List.range G.n).map fun p => vI (q.2.1 p))[p]? = some (vI (q.2.1 p)) := by rw [List.getElem?_map, List.getElem?_range pn]; rfl
      refine ⟨_, rfl, _, rfl, a, _, _, _, rfl, rfl, SqT.of (s3 _ _ a2), atI_nat gp, nI (q.2.1 p), S, cnt, rfl, hS, few, nw.iff fun b _ => ?_, same_mut s3 hD⟩
      rw [et]
      constructor
      · rintro (⟨p', z1, z2⟩ | z)
        · exact ⟨p', List.mem_append_left _ z1, z2⟩
        · exact ⟨p, List.mem_append_right _ (List.mem_singleton.mpr rfl), z.symm⟩
      · rintro ⟨p', z1, z2⟩
        rcases List.mem_append.mp z1 with z | z
        · exact .inl ⟨p', z, z2⟩
        · rw [List.mem_singleton.mp z] at z2
          exact .inr z2.symm
    · have e : j = l.length := by omega
      subst e
      refine .inl ⟨⟨_, SqT.of (s3 _ _ ht), by rw [List.length_map]; exact Nat.le_refl _⟩, ?_⟩
      unfold tNil
      refine SI.sorted (by decide) (fun a => l.any fun p => decide (q.2.1 p = a)) (fun b _ => ?_) fun r hr => ?_
      · rw [List.any_eq_true, List.take_length]
        exact ⟨fun ⟨p, z1, z2⟩ => ⟨p, z1, decide_eq_true z2⟩, fun ⟨p, z1, z2⟩ => ⟨p, z1, of_decide_eq_true z2⟩⟩
      · have s4 := same_upd (o := HO.lst (((List.range 9).filter fun a => l.any fun p => decide (q.2.1 p = a)).map vI)) hr
        have hr4 : (upd H3 r (HO.lst (((List.range 9).filter fun a => l.any fun p => decide (q.2.1 p = a)).map vI))) r = some (HO.lst ((ansS q.2.1 l).map vI)) := upd_same
        generalize upd H3 r (HO.lst (((List.range 9).filter fun a => l.any fun p => decide (q.2.1 p = a)).map vI)) = H4 at s4 hr4
        have s04 := s3.trans s4
        refine ⟨r, rfl, ⟨_, SqL.of hr4⟩, fun D2 hD2 => ?_⟩
        refine dc_relI (walk_list (K := K) (a := r) (xs := (ansS q.2.1 l).map vI)) (fun k => (ansS q.2.1 l).getD k 0) (fun k v H' => ∃ f, v = .ref f ∧ LtAt H' f (cutA q.2.1 l ((ansS q.2.1 l).getD k 0))) (fun i j hi hj e => ?_) (by rw [List.length_map]; have := ansS_len q.2.1 l; omega) hD2 (fun k v H1 H2 ⟨f, e, z⟩ tk => ⟨f, e, tk _ _ z⟩) (fun H1 s1 => SqL.of (s1 _ _ hr4)) ?_ ?_
        · rw [List.length_map] at hi hj
          exact getD_inj (ansS_nodup _ _) hi hj e
        · rintro k y H5 H6 Nx hk s5 ⟨rfl, hy⟩ key
          rw [List.length_map] at hk
          have ey : y = vI ((ansS q.2.1 l).getD k 0) := by
            rw [List.getElem?_map, List.getElem?_eq_getElem hk] at hy
            rw [List.getD_eq_getElem?_getD, List.getElem?_eq_getElem hk]
            exact (Option.some.inj hy).symm
          subst ey
          generalize (ansS q.2.1 l).getD k 0 = an at key
          have s05 := s04.trans s5
          refine ⟨rfl, _, rfl, _, rfl, lt, rfl, ⟨_, SqT.of (s05 _ _ ht)⟩, fun D3 hD3 => ?_⟩
          refine lc_filt (walk_tup (K := K) (a := lt) (xs := l.map vI)) l (fun p => decide (q.2.1 p = an)) (by rw [List.length_map]) (by rw [List.length_map]; omega) hD3 (fun H1 s1 => SqT.of (s1 _ _ (s05 _ _ ht))) ?_ ?_
          · rintro j p y H7 H8 N1 N0 hp s7 ⟨rfl, hy⟩ k1 k0
            rw [List.getElem?_map, hp] at hy
            cases Option.some.inj hy
            have pn := hl p (List.mem_of_getElem? hp)
            have gp : ((List.range G.n).map fun p => vI (q.2.1 p))[p]? = some (vI (q.2.1 p)) := by rw [List.getElem?_map, List.getElem?_range pn]; rfl
            refine ⟨rfl, _, rfl, _, rfl, a, _, _, _, rfl, rfl, SqT.of (s7 _ _ (s05 _ _ a2)), atI_nat gp, _, rfl, rfl, _, rfl, ?_⟩
            have ed : decide (vI (q.2.1 p) = vI an) = decide (q.2.1 p = an) := by
              rw [decide_eq_decide]
              unfold vI
              exact ⟨fun z => by injection z with z; omega, fun z => by rw [z]⟩
            show if decide (vI (q.2.1 p) = vI an) = true then _ else _
            rw [ed]
            exact ite2 (fun z => ⟨_, rfl, k1 _ z (Same.refl _)⟩) (fun z => k0 _ (by simpa using z) (Same.refl _))
          · intro H7 h7 s7
            refine ⟨D3, _, rfl, .inl ⟨SqL.of h7, fun f hf => ?_⟩⟩
            exact key _ _ ⟨f, rfl, upd_same⟩ (s7.trans (same_upd hf))
        · intro H5 ps hps eps each s5
          rw [List.length_map, RLM.range_getD] at eps
          obtain ⟨fs, ef, lf, rf⟩ := zip_V (fun q : Nat × Addr => V.ref q.2) (fun z (p : Nat × V) => z.1 = p.1 ∧ LtAt H5 z.2 (cutA q.2.1 l z.1)) (ps.map (·.2)) ps (by rw [List.length_map]) fun k y z hy hz => by
            rw [List.getElem?_map, hz] at hy
            cases Option.some.inj hy
            obtain ⟨f, e1, e2⟩ := each k z hz
            have ek : (ansS q.2.1 l).getD k 0 = z.1 := by
              rw [← eps, List.getD_eq_getElem?_getD, List.getElem?_map, hz]
              rfl
            rw [ek] at e2
            exact ⟨(z.1, f), e1, rfl, e2⟩
          have em : fs.map (fun z => (z.1, V.ref z.2)) = ps := by
            refine List.ext_getElem? fun k => ?_
            rw [List.getElem?_map]
            cases hz : ps[k]? with
            | none =>
              rw [List.getElem?_eq_none (by have := List.getElem?_eq_none_iff.mp hz; omega)]
              rfl
            | some z =>
              have kl := (List.getElem?_eq_some_iff.mp hz).1
              have hf : fs[k]? = some fs[k] := List.getElem?_eq_getElem (by omega)
              have r := rf k _ z hf hz
              have e2 : (ps.map (·.2))[k]? = some (V.ref (fs[k]'(by omega)).2) := by rw [ef, List.getElem?_map, hf]; rfl
              rw [List.getElem?_map, hz] at e2
              rw [hf]
              have e3 := Option.some.inj e2
              rw [Option.map_some, r.1, ← e3]
          refine h H5 D2 ⟨fs, ?_, ?_, fun z hz => ?_⟩ (none_backS s04 hD2) (s04.trans s5)
          · rw [hps, ← em]
            unfold kvI
            rw [List.map_map]
            rfl
          · rw [← eps, ← em, List.map_map]
            rfl
          · obtain ⟨k, hk⟩ := List.mem_iff_getElem?.mp hz
            have kl := (List.getElem?_eq_some_iff.mp hk).1
            exact (rf k z _ hk (List.getElem?_eq_getElem (by omega))).2
end
end RL
/-! games: the choices that do not break the wish at once -/
namespace RL
open PySem PySem.Spec PyProof.Rows L2 RLM
/-- a choice as it stands, its list where N says -/
def ChAt (N : Addr → Prop) (H : Hp) (q : Addr) (c : Nat × List Stt) : Prop := ∃ (ls : Addr) (bs : List (Addr × Stt)), N ls ∧ H q = some (.tup [.int ((c.1 : Int) - 1), .ref ls]) ∧ H ls = some (.lst (bs.map fun z => V.ref z.1)) ∧ bs.map (·.2) = c.2 ∧ ∀ z ∈ bs, StAt H z.1 z.2
/-- the choices, in a list at u -/
def UnbAt (N : Addr → Prop) (H : Hp) (u : Addr) (cs : List (Nat × List Stt)) : Prop := N u ∧ ∃ qs : List (Addr × Nat × List Stt), H u = some (.lst (qs.map fun z => V.ref z.1)) ∧ qs.map (·.2) = cs ∧ ∀ z ∈ qs, ChAt N H z.1 z.2
abbrev NU (H : Hp) (u : Addr) : Addr → Prop := fun b => b ≠ u ∧ H b = none
/-- all but u stays -/
def ButU (u : Addr) (H H' : Hp) : Prop := ∀ (a : Addr) (o : HO), a ≠ u → H a = some o → H' a = some o
theorem StAt.but {u : Addr} {H H' : Hp} {b : Addr} {s : Stt} (k : ButU u H H') (hu : ∀ xs, H u ≠ some (.tup xs)) (h : StAt H b s) : StAt H' b s :=
  let ⟨l, a, c⟩ := h; ⟨l, k _ _ (fun e => hu _ (e ▸ a)) a, k _ _ (fun e => hu _ (e ▸ c)) c⟩
theorem ChAt.but {N : Addr → Prop} {u : Addr} {H H' : Hp} {q : Addr} {c : Nat × List Stt} (k : ButU u H H') (hu : ∀ xs, H u ≠ some (.tup xs)) (nu : ∀ b, N b → ∀ xs, H b = some (.lst xs) → b ≠ u) (h : ChAt N H q c) : ChAt N H' q c := by
  obtain ⟨ls, bs, ne, h1, h2, h3, h4⟩ := h
  exact ⟨ls, bs, ne, k _ _ (fun e => hu _ (e ▸ h1)) h1, k _ _ (nu _ ne _ h2) h2, h3, fun z hz => (h4 z hz).but k hu⟩
theorem ChAt.same {N : Addr → Prop} {H H' : Hp} {q : Addr} {c : Nat × List Stt} (s : Same H H') (h : ChAt N H q c) : ChAt N H' q c := by
  obtain ⟨ls, bs, ne, h1, h2, h3, h4⟩ := h
  exact ⟨ls, bs, ne, s _ _ h1, s _ _ h2, h3, fun z hz => (h4 z hz).same s⟩
theorem ChAt.mono {N N' : Addr → Prop} {H : Hp} {q : Addr} {c : Nat × List Stt} (m : ∀ b, N b → N' b) (h : ChAt N H q c) : ChAt N' H q c := let ⟨ls, bs, ne, r⟩ := h; ⟨ls, bs, m _ ne, r⟩
theorem UnbAt.same {N : Addr → Prop} {H H' : Hp} {u : Addr} {cs : List (Nat × List Stt)} (s : Same H H') (h : UnbAt N H u cs) : UnbAt N H' u cs := let ⟨n, qs, a, b, c⟩ := h; ⟨n, qs, s _ _ a, b, fun z hz => (c z hz).same s⟩
theorem UnbAt.mono {N N' : Addr → Prop} {H : Hp} {u : Addr} {cs : List (Nat × List Stt)} (m : ∀ b, N b → N' b) (h : UnbAt N H u cs) : UnbAt N' H u cs := let ⟨n, qs, a, b, c⟩ := h; ⟨m _ n, qs, a, b, fun z hz => (c z hz).mono m⟩
theorem UnbAt.but {N : Addr → Prop} {v u : Addr} {H H' : Hp} {cs : List (Nat × List Stt)} (k : ButU v H H') (hv : ∀ xs, H v ≠ some (.tup xs)) (nv : ∀ b, N b → ∀ xs, H b = some (.lst xs) → b ≠ v) (h : UnbAt N H u cs) : UnbAt N H' u cs := let ⟨n, qs, a, b, c⟩ := h; ⟨n, qs, k _ _ (nv _ n _ a) a, b, fun z hz => (c z hz).but k hv nv⟩
section
variable {P : Program} {w : World} {K : PySem.W.Frag} {mg : Str → Option Value} {base : Heap}
def spGUnb (K : PySem.W.Frag) : Sp := fun vs H Q _ => ∃ (c x lt : Addr) (G : Gm) (s : Stt), vs = [.ref x, vI s.1, .ref lt] ∧ GameAt K c H x G ∧ G.St s ∧ LtAt H lt s.2 ∧ ∀ H' u, UnbAt (fun b => H b = none) H' u (G.unb s) → H u = none → Same H H' → Q (.ref u) H'
theorem sc_Game_unbroken : FnScope ["self", "turn", "lot", "told", "choice", "lots", "narrow"] ["self", "turn", "lot"] (defScope s_Game_unbroken) := ⟨rfl, rfl, rfl, by decide +kernel, rfl, by decide +kernel, by decide +kernel⟩
theorem ok_gUnb (T : Tx K mg) : Has P w K mg base (mC K "Game" "unbroken") 3 ["self", "turn", "lot"] (spGUnb K) := by
  obtain ⟨⟨fd_choices_of, F_choices_of, b_choices_of⟩, kp_choices_of⟩ := ok_gChoices (P := P) (w := w) (base := base) T
  obtain ⟨⟨fd_narrowed, F_narrowed, b_narrowed⟩, kp_narrowed⟩ := ok_gNarrow (P := P) (w := w) (base := base) T
  obtain ⟨⟨fd_breaks, F_breaks, b_breaks⟩, kp_breaks⟩ := ok_gBreaks (P := P) (w := w) (base := base) T
  obtain ⟨⟨fd_behind, F_behind, b_behind⟩, kp_behind⟩ := ok_gBehind (P := P) (w := w) (base := base) T
  obtain ⟨fd, F⟩ := T.d_Game_unbroken
  refine ⟨⟨fd, F.ok sc_Game_unbroken (fun vs H Q E h => ?_) (fun cdv A outer s H vs Q E hr h => ?_), F.bindsN fun _ _ _ _ _ _ us hl => match us, hl with | [_, _, _], _ => rfl⟩, F.kp⟩
  · obtain ⟨c, x, lt, G, s, rfl, _⟩ := h
    rfl
  · obtain ⟨c, x, lt, G, st, rfl, GA, S, ht, h⟩ := h
    have hr_choices_of : Room 1 _ := hr.mono (by decide)
    have hr_narrowed : Room 1 _ := hr.mono (by decide)
    have hr_breaks : Room 1 _ := hr.mono (by decide)
    have hr_behind : Room 2 _ := hr.mono (by decide)
    refine ⟨_, PSs.nox (pss_cons (ps_set (i := 3) sc_Game_unbroken.nd rfl (Or.inl rfl) (pe_lst pa_nil))
      (pss_cons (ps_for PassesOwn.never rfl (piL (K := K) (pe_meth (pv 0) T.cl_Game T.m_Game_choices_of F_choices_of hr_choices_of b_choices_of .nil pass0 (pa_cons (pv 1) pa_nil))) (pg_name (i := 4) sc_Game_unbroken.nd rfl (Or.inl rfl)) (pss_cons (ps_set (i := 5) sc_Game_unbroken.nd rfl (Or.inl rfl) (pe_callTy listVals (by rfl) T.free_list (by decide +kernel) (pa_cons (pe_bm0 PySem.F.plainAttrs_dict PySem.F.slot_dict_values PySem.F.type_dict_values mt_valuesK (pe_meth (pv 0) T.cl_Game T.m_Game_narrowed F_narrowed hr_narrowed b_narrowed .nil pass0 (pa_cons (pv 1) (pa_cons (pv 2) (pa_cons (pv 4) pa_nil))))) pa_nil)))
      (pss_one (ps_if (pt_not (pt_val (pe_callB (anyK (K := K)) (by rfl) T.free_any (by decide +kernel) (pa_cons (pe_lc (own := [("narrow", 6)]) (g := (gName 6)) (tt := tYes) rfl sc_Game_unbroken.nd (piL (K := K) (pv 5)) (blkOk_by (by kernel_rfl)) (fun _ _ _ _ _ => (pg_name (i := 6) sc_Game_unbroken.nd rfl (Or.inl rfl))) (fun _ _ _ _ _ => pts_nil) (fun _ _ _ _ _ => (pe_meth (pv 0) T.cl_Game T.m_Game_breaks F_breaks hr_breaks b_breaks .nil pass0 (pa_cons (pv 6) pa_nil)))) pa_nil)))) (pss_one (ps_expr (bmK (K := K) PySem.F.plainAttrs_list PySem.F.slot_list_append PySem.F.type_list_append mt_append (pv 3) (pa_cons (pe_tup (pa_cons (pv 4) (pa_cons (pe_lc (own := [("narrow", 6)]) (g := (gName 6)) (tt := tYes) rfl sc_Game_unbroken.nd (piL (K := K) (pv 5)) (blkOk_by (by kernel_rfl)) (fun _ _ _ _ _ => (pg_name (i := 6) sc_Game_unbroken.nd rfl (Or.inl rfl))) (fun _ _ _ _ _ => pts_nil) (fun _ _ _ _ _ => (pe_meth (pv 0) T.cl_Game T.m_Game_behind F_behind hr_behind b_behind .nil pass0 (pa_cons (pv 1) (pa_cons (pv 6) pa_nil))))) pa_nil))) pa_nil)))) pss_nil))))
      (pss_one (ps_ret (pv 3))))), ?_⟩
    obtain ⟨dx, b, e, o, es, us, E, h1, h2, h3, h4, h5, h6, h7, h8, h9⟩ := GA.ex
    have hl := St_lt S
    have l8 : st.2.length ≤ 8 := by
      obtain ⟨_, _, p, e⟩ := S
      rw [e]
      exact Nat.le_trans (List.length_filter_le _ _) (by rw [List.length_range]; exact GA.ok.n8)
    refine ⟨(by show 0 ≤ sizeLine; decide), fun u hu => ?_⟩
    have s0 := same_upd (o := HO.lst []) hu
    refine ⟨_, rfl, x, dx, _, rfl, s0 _ _ h1, (by rfl), _, rfl, c, x, G, st.1, rfl, GA.same s0, S.1, fun l0 hl0 => ?_⟩
    have s1 := same_upd (o := HO.lst ((List.range (G.opts st.1).length).map fun (i : Nat) => V.int ((i : Int) - 1))) hl0
    have hl1 : (upd (upd H u (.lst [])) l0 (.lst ((List.range (G.opts st.1).length).map fun (i : Nat) => V.int ((i : Int) - 1)))) l0 = some (.lst ((List.range (G.opts st.1).length).map fun (i : Nat) => V.int ((i : Int) - 1))) := upd_same
    have hu1 := s1 _ _ (upd_same : (upd H u (HO.lst [])) u = some (.lst []))
    have s01 := s0.trans s1
    generalize (upd (upd H u (.lst [])) l0 (.lst ((List.range (G.opts st.1).length).map fun (i : Nat) => V.int ((i : Int) - 1)))) = H1 at s1 hl1 hu1 s01
    have l5 : (G.opts st.1).length ≤ 5 := by
      have e1 : G.opts st.1 = (fun _ => 0, 0) :: G.hands.getD st.1 [] := rfl
      have e2 : G.hands.getD st.1 [] = G.hands[st.1]'S.1 := by rw [List.getD_eq_getElem?_getD, List.getElem?_eq_getElem S.1]; rfl
      have := (GA.ok.each _ (List.getElem_mem S.1)).1
      rw [e1, List.length_cons, e2]
      omega
    refine ⟨l0, rfl, ⟨_, SqL.of hl1⟩, ?_⟩
    refine for_it (walk_list (K := K) (a := l0) (xs := (List.range (G.opts st.1).length).map fun (i : Nat) => V.int ((i : Int) - 1))) (fun i σ H2 => (∃ v4 v5 : Option V, σ = [some (.ref x), some (vI st.1), some (.ref lt), some (.ref u), v4, v5, none]) ∧ (∃ qs : List (Addr × Nat × List Stt), H2 u = some (.lst (qs.map fun z => V.ref z.1)) ∧ qs.map (·.2) = ((List.range i).filter fun i => G.fine st.2 ((G.opts st.1).getD i (fun _ => 0, 0)).1).map (fun i => (i, G.nexts st ((G.opts st.1).getD i (fun _ => 0, 0)).1)) ∧ ∀ z ∈ qs, ChAt (NU H u) H2 z.1 z.2) ∧ Same H H2 ∧ H2 l0 = some (.lst ((List.range (G.opts st.1).length).map fun (i : Nat) => V.int ((i : Int) - 1))))
      ⟨⟨_, _, rfl⟩, ⟨[], hu1, rfl, fun z hz => nomatch hz⟩, s01, hl1⟩ (fun i σ H2 _ ⟨_, _, _, hl2⟩ => SqL.of hl2) ?_ ?_
    · rintro i y σ H2 H3 hi ⟨⟨v4, v5, rfl⟩, ⟨qs, q1, q2, q3⟩, s2, hl2⟩ ⟨rfl, hy⟩
      rw [List.length_map, List.length_range] at hi
      have ey : y = V.int ((i : Int) - 1) := by
        rw [List.getElem?_map, List.getElem?_range hi] at hy
        exact (Option.some.inj hy).symm
      subst ey
      refine ⟨_, rfl, x, dx, _, rfl, s2 _ _ h1, (by rfl), _, rfl, _, rfl, _, rfl, c, x, lt, G, st.1, i, st.2, rfl, GA.same s2, S.1, hi, s2 _ _ ht, hl, l8, fun H4 d CA dn s4 => ?_⟩
      obtain ⟨cs, hd, ecs, lcs⟩ := CA
      obtain ⟨g, eg⟩ : ∃ g, g = ((G.opts st.1).getD i (fun _ => 0, 0)).1 := ⟨_, rfl⟩
      rw [← eg] at ecs lcs
      have c9 : cs.length ≤ 9 := by
        have := congrArg List.length ecs
        rw [List.length_map] at this
        rw [this]
        exact ansS_len _ _
      refine ⟨.inr (.inr (.inl ⟨rfl, .inl ⟨_, hd⟩⟩)), d, _, rfl, rfl, hd, fun p hp => ?_⟩
      have s5 := same_upd (o := valsO p d) hp
      refine ⟨p, d, _, rfl, upd_same, s5 _ _ hd, fun r hr => ?_⟩
      have s6 := same_upd (o := HO.lst ((cs.map fun q => ((Sum.inl (nI q.1) : Key), V.ref q.2)).map (·.2))) hr
      have hr6 : (upd (upd H4 p (valsO p d)) r (HO.lst ((cs.map fun q => ((Sum.inl (nI q.1) : Key), V.ref q.2)).map (·.2)))) r = some (.lst (cs.map fun q => V.ref q.2)) := by
        rw [upd_same, List.map_map]
        rfl
      have s26 : Same H3 (upd (upd H4 p (valsO p d)) r (HO.lst ((cs.map fun q => ((Sum.inl (nI q.1) : Key), V.ref q.2)).map (·.2)))) := s4.trans (s5.trans s6)
      have hlots : ∀ q ∈ cs, LtAt (upd (upd H4 p (valsO p d)) r (HO.lst ((cs.map fun q => ((Sum.inl (nI q.1) : Key), V.ref q.2)).map (·.2)))) q.2 (cutA g st.2 q.1) := fun q hq => (s5.trans s6) _ _ (lcs q hq)
      generalize (upd (upd H4 p (valsO p d)) r (HO.lst ((cs.map fun q => ((Sum.inl (nI q.1) : Key), V.ref q.2)).map (·.2)))) = H6 at s26 hr6 hlots
      have s06 := s2.trans s26
      refine ⟨_, rfl, r, rfl, ⟨_, SqL.of hr6⟩, fun D hD => ?_⟩
      refine lc_val (walk_list (K := K) (a := r) (xs := cs.map fun q => V.ref q.2)) (fun j => .bl ((cs.map fun q => decide (G.W < (cutA g st.2 q.1).length)).getD j false)) (by rw [List.length_map]; omega) hD (fun H1 s1 => SqL.of (s1 _ _ hr6)) ?_ ?_
      · rintro j y H7 H8 Nx hj s7 ⟨rfl, hy⟩ k
        rw [List.getElem?_map] at hy
        obtain ⟨q, hq, rfl⟩ := Option.map_eq_some_iff.mp hy
        have ek : (cs.map fun q => decide (G.W < (cutA g st.2 q.1).length)).getD j false = decide (G.W < (cutA g st.2 q.1).length) := by
          rw [List.getD_eq_getElem?_getD, List.getElem?_map, hq]
          rfl
        rw [ek] at k
        have s07 := s06.trans s7
        exact ⟨rfl, _, rfl, x, dx, _, rfl, s07 _ _ h1, (by rfl), _, rfl, c, x, q.2, G, _, rfl, GA.same s07, s7 _ _ (hlots q (List.mem_of_getElem? hq)), k _ (Same.refl _)⟩
      · intro H7 h7' s7
        have eb : H7 D = some (.lst ((cs.map fun q => decide (G.W < (cutA g st.2 q.1).length)).map V.bl)) := by
          rw [h7', List.length_map]
          congr 2
          have := PyProof.Rows.range_getD (cs.map fun q => decide (G.W < (cutA g st.2 q.1).length)) false
          rw [List.length_map] at this
          conv => rhs; rw [← this]
          rw [List.map_map]
          rfl
        refine ⟨D, _, rfl, SqL.of eb, _, rfl, ?_⟩
        have ef : (!(cs.map fun q => decide (G.W < (cutA g st.2 q.1).length)).any id) = G.fine st.2 g := by
          unfold Gm.fine
          rw [← ecs, List.all_map, List.any_map, List.not_any_eq_all_not]
          congr 1
          funext q
          show (!decide (G.W < (cutA g st.2 q.1).length)) = decide ((cutA g st.2 q.1).length ≤ G.W)
          rw [← decide_not, decide_eq_decide]
          omega
        have s07 := s06.trans s7
        have hl7 := (s26.trans s7) _ _ hl2
        have hu7 := (s26.trans s7) _ _ q1
        have q7 : ∀ z ∈ qs, ChAt (NU H u) H7 z.1 z.2 := fun z hz => (q3 z hz).same (s26.trans s7)
        have hr7 := s7 _ _ hr6
        have nlu : l0 ≠ u := fun e => by rw [e, upd_same] at hl0; cases hl0
        show if (!((cs.map fun q => decide (G.W < (cutA g st.2 q.1).length)).any id)) = true then _ else _
        rw [ef]
        have er : (List.range (i + 1)).filter (fun i => G.fine st.2 ((G.opts st.1).getD i (fun _ => 0, 0)).1) = (List.range i).filter (fun i => G.fine st.2 ((G.opts st.1).getD i (fun _ => 0, 0)).1) ++ (if G.fine st.2 g = true then [i] else []) := by
          rw [List.range_succ, List.filter_append]
          congr 1
          rw [List.filter_cons, List.filter_nil, ← eg]
        refine ite2 (fun hf => ?_) (fun hf => ?_)
        · rw [if_pos hf] at er
          refine ⟨_, rfl, .inl ⟨rfl, _, SqL.of hu7⟩, _, rfl, _, rfl, r, rfl, ⟨_, SqL.of hr7⟩, fun D2 hD2 => ?_⟩
          have nDu : D2 ≠ u := fun e => by rw [e, hu7] at hD2; cases hD2
          refine lc_rel (walk_list (K := K) (a := r) (xs := cs.map fun q => V.ref q.2)) (fun j v H' => ∃ b, v = .ref b ∧ ∀ s', (G.nexts st g)[j]? = some s' → StAt H' b s') (by rw [List.length_map]; omega) hD2 (fun j v H1 H2 ⟨b, e, z⟩ tk => ⟨b, e, fun s' hs => (z s' hs).tk tk⟩) (fun H1 s1 => SqL.of (s1 _ _ hr7)) ?_ ?_
          · rintro j y H8 H9 Nx hj s8 ⟨rfl, hy⟩ k
            rw [List.getElem?_map] at hy
            obtain ⟨q, hq, rfl⟩ := Option.map_eq_some_iff.mp hy
            have s08 := s07.trans s8
            refine ⟨rfl, _, rfl, x, dx, _, rfl, s08 _ _ h1, (by rfl), _, rfl, _, rfl, c, x, q.2, G, st.1, _, rfl, GA.same s08, (s7.trans s8) _ _ (hlots q (List.mem_of_getElem? hq)), fun p hp => hl p (List.mem_filter.mp hp).1, fun H10 b hb s10 => k _ _ ⟨b, rfl, fun s' hs => ?_⟩ s10⟩
            have es : (G.nexts st g)[j]? = some (G.behind st.1 (cutA g st.2 q.1)) := by
              unfold Gm.nexts
              rw [← ecs, List.getElem?_map, List.getElem?_map, hq]
              rfl
            rw [es] at hs
            cases hs
            exact hb
          · intro H8 ys h8' ly each s8
            rw [List.length_map] at ly
            obtain ⟨os, e1, e2, e3⟩ := zip_refs (fun b s' => StAt H8 b s') ys (G.nexts st g) (by rw [ly]; unfold Gm.nexts; rw [List.length_map, ← ecs, List.length_map]) fun k y z hy hz => let ⟨b, e, r⟩ := each k y hy; ⟨b, e, r z hz⟩
            refine ⟨(by show 2 ≤ sizeLine; decide), fun p hp => ?_⟩
            have s9 := same_upd (o := HO.tup [.int ((i : Int) - 1), .ref D2]) hp
            have hu9 := s9 _ _ (s8 _ _ hu7)
            have hp9 : (upd H8 p (HO.tup [.int ((i : Int) - 1), .ref D2])) p = some (HO.tup [.int ((i : Int) - 1), .ref D2]) := upd_same
            have hD9 := s9 _ _ h8'
            have q9 : ∀ z ∈ qs, ChAt (NU H u) _ z.1 z.2 := fun z hz => (q7 z hz).same (s8.trans s9)
            have o9 : ∀ z ∈ os, StAt _ z.1 z.2 := fun z hz => (e3 z hz).same s9
            have hl9 := (s8.trans s9) _ _ hl7
            have s09 := (s07.trans s8).trans s9
            generalize (upd H8 p (HO.tup [.int ((i : Int) - 1), .ref D2])) = H9 at s9 hu9 hp9 hD9 q9 o9 hl9 s09
            have bu : ButU u H9 (upd H9 u (.lst (qs.map (fun z => V.ref z.1) ++ [.ref p]))) := fun a o ne h => by rw [upd_ne ne]; exact h
            have lq : qs.length ≤ i := by
              have := congrArg List.length q2
              rw [List.length_map, List.length_map] at this
              rw [this]
              exact Nat.le_trans (List.length_filter_le _ _) (by rw [List.length_range]; exact Nat.le_refl _)
            refine ⟨u, _, _, rfl, rfl, hu9, ?_, ⟨_, _, rfl⟩, ⟨qs ++ [(p, i, G.nexts st g)], ?_, ?_, fun z hz => ?_⟩, same_mut s09 hu, by rw [upd_ne nlu]; exact hl9⟩
            · rw [List.length_map]
              exact Nat.lt_of_le_of_lt (show qs.length ≤ 5 by omega) (by decide)
            · rw [upd_same, List.map_append]
              rfl
            · rw [List.map_append, q2, er, List.map_append, eg]
              rfl
            · rcases List.mem_append.mp hz with y | y
              · exact (q9 z y).but bu (fun xs e => by rw [hu9] at e; cases e) (fun b n _ _ => n.1)
              · rw [List.mem_singleton.mp y]
                refine ChAt.but bu (fun xs e => by rw [hu9] at e; cases e) (fun b n _ _ => n.1) ⟨D2, os, ⟨nDu, none_backS s07 hD2⟩, hp9, by rw [hD9, e1], e2, o9⟩
        · have hf' : G.fine st.2 g = false := by simpa using hf
          rw [if_neg (by rw [hf']; exact Bool.false_ne_true), List.append_nil] at er
          refine ⟨⟨_, _, rfl⟩, ⟨qs, hu7, by rw [q2, er], q7⟩, s07, hl7⟩
    · rintro σ H2 ⟨⟨v4, v5, rfl⟩, ⟨qs, q1, q2, q3⟩, s2, hl2⟩
      rw [List.length_map, List.length_range] at q2
      exact ⟨_, rfl, h H2 u ⟨hu, qs, q1, q2, fun z hz => (q3 z hz).mono fun b n => n.2⟩ hu s2⟩
end
end RL
/-! Dicts whose keys are nested tuples. -/
namespace RL
open PySem PySem.Spec PyProof.Rows L2
abbrev NEs := List (NestedKey × Addr × V)
abbrev RelN : NEs → List (NestedKey × Addr × Value) → Prop := Paired fun p q => p.1 = q.1 ∧ p.2.1 = q.2.1 ∧ RelV p.2.2 q.2.2
mutual
/-- a value is a key -/
inductive NKy (H : Hp) : NestedKey → V → Prop
  | non : NKy H .none .non
  | num (i : Int) : NKy H (.num i) (.int i)
  | text (x : Str) : NKy H (.text x) (.str x)
  | tup {b : Addr} {ks : List NestedKey} {xs : List V} : H b = some (.tup xs) → NKys H ks xs → NKy H (.tup ks) (.ref b)
inductive NKys (H : Hp) : List NestedKey → List V → Prop
  | nil : NKys H [] []
  | cons {k : NestedKey} {v : V} {ks : List NestedKey} {vs : List V} : NKy H k v → NKys H ks vs → NKys H (k :: ks) (v :: vs)
end
mutual
theorem NKy.is {P : Program} {w : World} {H : Hp} {h : Heap} (ok : HOk P w H h) : ∀ (k : NestedKey) (v : V) (u : Value), NKy H k v → RelV v u → NestedIs h k u
  | .none, _, u, x, r => by
    cases x
    cases (show u = Value.none from r)
    exact .none
  | .num i, _, u, x, r => by
    cases x
    obtain ⟨t, rfl⟩ := r
    exact .int i t
  | .text z, _, u, x, r => by
    cases x
    obtain ⟨t, rfl⟩ := r
    exact .text z t
  | .tup ks, _, u, x, r => by
    cases x with
    | @tup b _ xs hb hk =>
      cases (show u = Value.ref b from r)
      obtain ⟨_, its, rv, o, h1, h2, n, h3⟩ := (show ObjOk P w H h b (.tup xs) from ok b _ hb)
      exact .tup h1 h2 h3 (NKys.is ok ks xs its.toArray.toList hk (by simpa using rv))
theorem NKys.is {P : Program} {w : World} {H : Hp} {h : Heap} (ok : HOk P w H h) : ∀ (ks : List NestedKey) (vs : List V) (us : List Value), NKys H ks vs → Vals vs us → NestedAll h ks us
  | [], _, us, x, r => by
    cases x
    cases r
    exact .nil
  | k :: ks, _, us, x, r => by
    cases x with
    | cons h1 h2 =>
      cases r with
      | cons r1 r2 => exact .cons (NKy.is ok k _ _ h1 r1) (NKys.is ok ks _ _ h2 r2)
end
mutual
theorem NKy.keep {H H' : Hp} (t : ∀ b xs, H b = some (.tup xs) → H' b = some (.tup xs)) : ∀ (k : NestedKey) (v : V), NKy H k v → NKy H' k v
  | .none, _, x => by cases x; exact .non
  | .num i, _, x => by cases x; exact .num i
  | .text z, _, x => by cases x; exact .text z
  | .tup ks, _, x => by
    cases x with
    | tup h1 h2 => exact .tup (t _ _ h1) (NKys.keep t ks _ h2)
theorem NKys.keep {H H' : Hp} (t : ∀ b xs, H b = some (.tup xs) → H' b = some (.tup xs)) : ∀ (ks : List NestedKey) (vs : List V), NKys H ks vs → NKys H' ks vs
  | [], _, x => by cases x; exact .nil
  | k :: ks, _, x => by
    cases x with
    | cons h1 h2 => exact .cons (NKy.keep t k _ h1) (NKys.keep t ks _ h2)
end
/-- the dict at a, by what is true of its one object -/
def dNo (P : Program) (w : World) (a : Addr) (xs : NEs) : HO := .ext fun h => xs.length ≤ sizeLine ∧ (a == sysModules) = false ∧ ∃ ys : List (NestedKey × Addr × Value), RelN xs ys ∧
  ∃ (o : Obj) (es : Array DictEntry) (ep : Nat), h.get? a = some o ∧ o.ExactDict ∧ o.data = .dict es ep ∧ es.toList = ys.map (entryOfKey (nestedKind P w)) ∧ (ys.map (·.1)).Nodup
def NAll (H : Hp) (xs : NEs) : Prop := ∀ x ∈ xs, NKy H x.1 (.ref x.2.1) ∧ x.1.depth ≤ 8
def kvN (xs : NEs) : List (NestedKey × V) := xs.map fun x => (x.1, x.2.2)
theorem NAll.keep {H H' : Hp} {xs : NEs} (t : ∀ b ys, H b = some (.tup ys) → H' b = some (.tup ys)) (h : NAll H xs) : NAll H' xs := fun x hx => ⟨NKy.keep t _ _ (h x hx).1, (h x hx).2⟩
/-- it stands at a, with these keys and values -/
def DN (P : Program) (w : World) (H : Hp) (a : Addr) (kvs : List (NestedKey × V)) : Prop := ∃ xs : NEs, H a = some (dNo P w a xs) ∧ NAll H xs ∧ kvN xs = kvs
/-- .. locked -/
def DNZ (P : Program) (w : World) (H : Hp) (a : Addr) (od : Obj) (kvs : List (NestedKey × V)) : Prop := ∃ xs : NEs, H a = some (.frz od (dNo P w a xs)) ∧ NAll H xs ∧ kvN xs = kvs
/-- .. locked or not -/
def DNR (P : Program) (w : World) (H : Hp) (a : Addr) (kvs : List (NestedKey × V)) : Prop := ∃ xs : NEs, Rd H a (dNo P w a xs) ∧ NAll H xs ∧ kvN xs = kvs
section
variable {P : Program} {w : World} {H H' : Hp} {a : Addr} {od : Obj} {kvs : List (NestedKey × V)}
theorem DN.r (h : DN P w H a kvs) : DNR P w H a kvs := let ⟨xs, e, n, z⟩ := h; ⟨xs, .inl e, n, z⟩
theorem DNZ.r (h : DNZ P w H a od kvs) : DNR P w H a kvs := let ⟨xs, e, n, z⟩ := h; ⟨xs, .inr ⟨od, e⟩, n, z⟩
theorem DN.keep (t : ∀ b ys, H b = some (.tup ys) → H' b = some (.tup ys)) (ea : H' a = H a) (h : DN P w H a kvs) : DN P w H' a kvs := let ⟨xs, e, n, z⟩ := h; ⟨xs, ea.trans e, n.keep t, z⟩
theorem DNZ.keep (t : ∀ b ys, H b = some (.tup ys) → H' b = some (.tup ys)) (ea : H' a = H a) (h : DNZ P w H a od kvs) : DNZ P w H' a od kvs := let ⟨xs, e, n, z⟩ := h; ⟨xs, ea.trans e, n.keep t, z⟩
theorem DN.there (h : DN P w H a kvs) : ∃ u, H a = some u ∧ Mut (some u) := let ⟨xs, e, _⟩ := h; ⟨_, e, True.intro⟩
theorem NAll.put {xs : NEs} {u o : HO} (e : H a = some u) (nt : ∀ ys, u ≠ .tup ys) (n : NAll H xs) : NAll (upd H a o) xs := n.keep fun b ys q => by
  rw [upd_ne (fun z => by rw [z, e] at q; exact nt ys (Option.some.inj q))]
  exact q
end
section
variable {P : Program} {w : World} {xs : NEs} {ys : List (NestedKey × Addr × Value)}
theorem RelN.val (r : RelN xs ys) (k : NestedKey) : RelO (valV (kvN xs) k) ((atKey ys k).map (·.2)) := by
  unfold kvN
  induction r with
  | nil => exact True.intro
  | @cons p q ps qs h t ih =>
    obtain ⟨h1, _, h2⟩ := h
    rw [List.map_cons]
    by_cases e : p.1 = k
    · have e' : q.1 = k := h1.symm.trans e
      have b : atKey (q :: qs) k = some q.2 := by simp [atKey, List.find?_cons, e']
      rw [valV_pos (p := (p.1, p.2.2)) e, b]
      exact h2
    · have e' : ¬ q.1 = k := fun z => e (h1.trans z)
      have b : atKey (q :: qs) k = atKey qs k := by simp [atKey, List.find?_cons, e']
      rw [valV_neg (p := (p.1, p.2.2)) e, b]
      exact ih
def putE (xs : NEs) (k : NestedKey) (b : Addr) (v : V) : NEs := if ((kvN xs).any fun kv => decide (kv.1 = k)) = true then xs.map (fun x => if x.1 = k then (x.1, x.2.1, v) else x) else xs ++ [(k, b, v)]
theorem kvN_put (xs : NEs) (k : NestedKey) (b : Addr) (v : V) : kvN (putE xs k b v) = putK (kvN xs) k v := by
  unfold putE putK
  split
  · unfold kvN
    rw [List.map_map, List.map_map]
    refine List.map_congr_left fun x _ => ?_
    simp only [Function.comp]
    split <;> rfl
  · unfold kvN
    rw [List.map_append]
    rfl
theorem RelN.put (r : RelN xs ys) (k : NestedKey) {b : Addr} {v : V} {u : Value} (rv : RelV v u) : RelN (putE xs k b v) (storedH ys k b u) := by
  have e : ((kvN xs).any fun kv => decide (kv.1 = k)) = (atKey ys k).isSome := by
    rw [valV_any, (r.val k).isSome_eq, Option.isSome_map]
  unfold putE storedH
  rw [e]
  by_cases q : (atKey ys k).isSome = true
  · rw [if_pos q, if_pos q]
    clear e q
    induction r with
    | nil => exact .nil
    | @cons p q ps qs h t ih =>
      rw [List.map_cons, List.map_cons]
      refine .cons ?_ ih
      obtain ⟨h1, h2, h3⟩ := h
      unfold putAt
      by_cases e : p.1 = k
      · rw [if_pos e, if_pos (h1.symm.trans e)]
        exact ⟨h1, h2, rv⟩
      · rw [if_neg e, if_neg (fun z => e (h1.trans z))]
        exact ⟨h1, h2, h3⟩
  · rw [if_neg q, if_neg q]
    exact Paired.snoc r ⟨rfl, rfl, rv⟩
theorem NAll.putE {H : Hp} {k : NestedKey} {b : Addr} {v : V} (n : NAll H xs) (hk : NKy H k (.ref b)) (hd : k.depth ≤ 8) : NAll H (putE xs k b v) := by
  unfold RL.putE
  split
  · intro x hx
    obtain ⟨y, hy, rfl⟩ := List.mem_map.mp hx
    by_cases e : y.1 = k
    · rw [if_pos e]
      exact n y hy
    · rw [if_neg e]
      exact n y hy
  · intro x hx
    rcases List.mem_append.mp hx with h | h
    · exact n x h
    · rw [List.mem_singleton.mp h]
      exact ⟨hk, hd⟩
end
section
variable {X : Cx} {pins : List (Addr × Obj)} {σ : L2.St} {H : Hp} {s : Shared} {a b : Addr} {k : NestedKey} {v d : V} {kvs : List (NestedKey × V)} {u r : Value} {A : Around} {E : Value → Shared → Prop}
theorem n_is (I : Inv X pins σ H s) (hk : NKy H k (.ref b)) (hd : k.depth ≤ 8) : (nestedKind X.prog X.w).is s.heap k b := ⟨NKy.is I.hok k _ _ hk rfl, hd⟩
theorem n_rdx {xs : NEs} (I : Inv X pins σ H s) (e : Rd H a (dNo X.prog X.w a xs)) (n : NAll H xs) : xs.length ≤ sizeLine ∧ (a == sysModules) = false ∧ ∃ ys, RelN xs ys ∧ s.heap.DictOfH (nestedKind X.prog X.w) a ys := by
  obtain ⟨⟨l, hs, ys, rel, o, es, ep, h1, h2, h3, h4, h5⟩, _⟩ := (show ObjOk X.prog X.w H s.heap a (dNo X.prog X.w a xs) from rd_of I.hok e)
  refine ⟨l, hs, ys, rel, o, es, ep, h1, h2, h3, h4, ?_, h5⟩
  have all : ∀ {l : NEs} {m : List (NestedKey × Addr × Value)}, RelN l m → NAll H l → ∀ x ∈ m, (nestedKind X.prog X.w).is s.heap x.1 x.2.1 := by
    intro l m q
    induction q with
    | nil => intro _ x hx; exact nomatch hx
    | @cons p q ps qs hq t ih =>
      intro n x hx
      rcases List.mem_cons.mp hx with e | hx
      · subst e
        rw [← hq.1, ← hq.2.1]
        exact n_is I (n p (List.mem_cons_self ..)).1 (n p (List.mem_cons_self ..)).2
      · exact ih (fun y hy => n y (List.mem_cons_of_mem _ hy)) x hx
  exact all rel n
theorem n_rd (I : Inv X pins σ H s) (g : DNR X.prog X.w H a kvs) : kvs.length ≤ sizeLine ∧ (a == sysModules) = false ∧ ∃ xs ys, kvN xs = kvs ∧ RelN xs ys ∧ s.heap.DictOfH (nestedKind X.prog X.w) a ys := by
  obtain ⟨xs, e, n, z⟩ := g
  obtain ⟨l, hs, ys, r, d⟩ := n_rdx I e n
  exact ⟨by rw [← z]; unfold kvN; rw [List.length_map]; exact l, hs, xs, ys, z, r, d⟩
theorem n_type (I : Inv X pins σ H s) (g : DNR X.prog X.w H a kvs) : s.TypeIs (.ref a) "dict" ∧ (∀ b, Value.ref a = .ref b → ∃ ob, s.heap.get? b = some ob ∧ ob.dict = none) ∧ (a == sysModules) = false := by
  obtain ⟨_, hs, xs, ys, _, _, dd⟩ := n_rd I g
  refine ⟨dd.typeIs, fun b q => ?_, hs⟩
  cases q
  obtain ⟨ob, _, _, h1, h2, _⟩ := dd
  exact ⟨ob, h1, h2.2.1⟩
theorem n_getItem {Q : Value → Shared → Prop} (hu : A.units + 9 < cLine) (I : Inv X pins σ H s) (g : DNR X.prog X.w H a kvs) (hk : NKy H k (.ref b)) (hd : k.depth ≤ 8) (l : valV kvs k = some v)
    (h : ∀ w' s', Inv X pins σ H s' → RelV v w' → Q w' s') : wpAny (model X.prog X.w) A (getItem (.ref a) (.ref b)) Q E s := by
  obtain ⟨_, hs, xs, ys, z, rel, dd⟩ := n_rd I g
  obtain ⟨w', hw, rw'⟩ := RelO.some_of (v := v) (o := (atKey ys k).map (·.2)) (by rw [← l, ← z]; exact rel.val k)
  obtain ⟨p, hp, hp2⟩ := Option.map_eq_some_iff.mp hw
  refine wpAny_getItem_heap (show A.units + 1 + 8 < cLine by omega) (n_is I hk hd) dd hp ?_
  rw [hp2]
  exact h w' _ (I.tok _) rw'
theorem n_in {Q : Value → Shared → Prop} (hu : A.units + 9 < cLine) (I : Inv X pins σ H s) (g : DNR X.prog X.w H a kvs) (hk : NKy H k (.ref b)) (hd : k.depth ≤ 8)
    (h : ∀ s', Inv X pins σ H s' → Q (.bool (valV kvs k).isSome) s') : wpAny (model X.prog X.w) A (compareOp .In (.ref b) (.ref a)) Q E s := by
  obtain ⟨_, hs, xs, ys, z, rel, dd⟩ := n_rd I g
  refine wpAny_in_heap (show A.units + 1 + 8 < cLine by omega) (n_is I hk hd) hs dd ?_
  have q := (rel.val k).isSome_eq
  rw [Option.isSome_map] at q
  rw [← q, z]
  exact h _ (I.tok _)
theorem n_notIn {Q : Value → Shared → Prop} (hu : A.units + 9 < cLine) (I : Inv X pins σ H s) (g : DNR X.prog X.w H a kvs) (hk : NKy H k (.ref b)) (hd : k.depth ≤ 8)
    (h : ∀ s', Inv X pins σ H s' → Q (.bool (!(valV kvs k).isSome)) s') : wpAny (model X.prog X.w) A (compareOp .NotIn (.ref b) (.ref a)) Q E s := by
  obtain ⟨_, hs, xs, ys, z, rel, dd⟩ := n_rd I g
  refine wpAny_notIn_heap (show A.units + 1 + 8 < cLine by omega) (n_is I hk hd) hs dd ?_
  have q := (rel.val k).isSome_eq
  rw [Option.isSome_map] at q
  rw [← q, z]
  exact h _ (I.tok _)
theorem n_setItem {Q : Unit → Shared → Prop} (hu : A.units + 9 < cLine) (I : Inv X pins σ H s) (g : DN X.prog X.w H a kvs) (hk : NKy H k (.ref b)) (hd : k.depth ≤ 8) (rv : RelV v r) (hl : kvs.length < sizeLine)
    (h : ∀ s' o, Inv X pins σ (upd H a o) s' → DN X.prog X.w (upd H a o) a (putK kvs k v) → Q () s') : wpAny (model X.prog X.w) A (setItem (.ref a) (.ref b) r) Q E s := by
  obtain ⟨xs, e, n, z⟩ := g
  obtain ⟨l, hs, ys, rel, dd⟩ := n_rdx I (.inl e) n
  have lx : xs.length = kvs.length := by rw [← z]; unfold kvN; rw [List.length_map]
  have ly : xs.length = ys.length := Paired.length rel
  refine wpAny_setItem_heap (hsz := by omega) (show A.units + 1 + 8 < cLine by omega) (n_is I hk hd) dd fun h' dd' hss => ?_
  obtain ⟨q, es', ep', hq, h2', h3', h4', _, h5'⟩ := dd'
  have nt : ∀ zs, dNo X.prog X.w a xs ≠ .tup zs := fun zs y => nomatch y
  refine h _ (dNo X.prog X.w a (putE xs k b v)) ?_ ⟨putE xs k b v, upd_same, (NAll.putE n hk hd).put e nt, by rw [kvN_put, z]⟩
  have pl : (putE xs k b v).length ≤ sizeLine := by
    have h1 : (putE xs k b v).length = (putK kvs k v).length := by
      rw [← z, ← kvN_put]
      unfold kvN
      rw [List.length_map]
    have h2 := length_putK kvs k v
    omega
  exact d_write (ob := dNo X.prog X.w a (putE xs k b v)) I (by rw [e]; exact True.intro) hss ⟨q, hq⟩ ⟨⟨pl, hs, _, rel.put k rv, q, es', ep', hq, h2', h3', h4', h5'⟩, ⟨q, hq⟩, fun h1 h2 ph kp => by
    obtain ⟨p1, p2, ys2, p3, o2, es2, ep2, p4, p5⟩ := ph
    exact ⟨p1, p2, ys2, p3, o2, es2, ep2, kp _ p4, p5⟩⟩
theorem n_get1 {Q : Value → Shared → Prop} (hu : A.units + 9 < cLine) (I : Inv X pins σ H s) (g : DNR X.prog X.w H a kvs) (hk : NKy H k (.ref b)) (hd : k.depth ≤ 8)
    (h : ∀ w' s', Inv X pins σ H s' → RelV ((valV kvs k).getD .non) w' → Q w' s') : wpAny (model X.prog X.w) A (call (.builtin "dict.get") [.ref a, .ref b]) Q E s := by
  obtain ⟨_, hs, xs, ys, z, rel, dd⟩ := n_rd I g
  refine call_meetsIn PySem.F.slot_dict_get dd.typeIs PySem.F.entry_dict_get (PySem.F.args_dict_get_2 _ _) (meetsH_dict_get (nestedKind X.prog X.w) a b hs) ⟨show A.units + 1 + 8 < cLine by omega, k, ys, n_is I hk hd, dd, h _ _ (I.tok _) ?_⟩
  rw [← z]
  exact (rel.val k).getD rfl
theorem n_get2 {Q : Value → Shared → Prop} (hu : A.units + 9 < cLine) (I : Inv X pins σ H s) (g : DNR X.prog X.w H a kvs) (hk : NKy H k (.ref b)) (hd : k.depth ≤ 8) (rd : RelV d r)
    (h : ∀ w' s', Inv X pins σ H s' → RelV ((valV kvs k).getD d) w' → Q w' s') : wpAny (model X.prog X.w) A (call (.builtin "dict.get") [.ref a, .ref b, r]) Q E s := by
  obtain ⟨_, hs, xs, ys, z, rel, dd⟩ := n_rd I g
  refine call_meetsIn PySem.F.slot_dict_get dd.typeIs PySem.F.entry_dict_get (PySem.F.args_dict_get_3 _ _ _) (meetsH_dict_get_default (nestedKind X.prog X.w) a b hs r) ⟨show A.units + 1 + 8 < cLine by omega, k, ys, n_is I hk hd, dd, h _ _ (I.tok _) ?_⟩
  rw [← z]
  exact (rel.val k).getD rd
end
end RL
/-! Their rules. -/
namespace RL
open PySem PySem.Spec PyProof.Rows L2
theorem hr9 {k : Nat} {A : Around} (hr : Room k A) : A.units + 9 < cLine := by
  have := hr.un
  omega
section
variable {P : Program} {w : World} {X : Cx}
def tNGet (P : Program) (w : World) (td ty : TE) : TE := fun σ H Q => td σ H fun x H1 => ty σ H1 fun y H2 => ∃ a b k kvs v, x = .ref a ∧ y = .ref b ∧ DNR P w H2 a kvs ∧ NKy H2 k (.ref b) ∧ k.depth ≤ 8 ∧ valV kvs k = some v ∧ Q v H2
def rInN (P : Program) (w : World) (ng : Bool) : R2 := fun x y H Q => ∃ a b k kvs, x = .ref b ∧ y = .ref a ∧ DNR P w H a kvs ∧ NKy H k (.ref b) ∧ k.depth ≤ 8 ∧ Q (.bl (ng ^^ (valV kvs k).isSome)) H
def sNPut (P : Program) (w : World) (td ty tv : TE) : TS := fun D σ H => tv σ H fun v H1 => td σ H1 fun x H2 => ty σ H2 fun y H3 => ∃ a b k kvs, x = .ref a ∧ y = .ref b ∧ DN P w H3 a kvs ∧ NKy H3 k (.ref b) ∧ k.depth ≤ 8 ∧ kvs.length < sizeLine ∧
  ∀ o, DN P w (upd H3 a o) a (putK kvs k v) → D.nx σ (upd H3 a o)
def tNGet1 (P : Program) (w : World) (td ty : TE) : TE := fun σ H Q => td σ H fun x H1 => ∃ a, x = .ref a ∧ (∃ kvs, DNR P w H1 a kvs) ∧ ty σ H1 fun y H2 => ∃ b k kvs, y = .ref b ∧ DNR P w H2 a kvs ∧ NKy H2 k (.ref b) ∧ k.depth ≤ 8 ∧ Q ((valV kvs k).getD .non) H2
def tNGet2 (P : Program) (w : World) (td ty tx : TE) : TE := fun σ H Q => td σ H fun x H1 => ∃ a, x = .ref a ∧ (∃ kvs, DNR P w H1 a kvs) ∧ ty σ H1 fun y H2 => tx σ H2 fun z H3 => ∃ b k kvs, y = .ref b ∧ DNR P w H3 a kvs ∧ NKy H3 k (.ref b) ∧ k.depth ≤ 8 ∧ Q ((valV kvs k).getD z) H3
def tNNew (P : Program) (w : World) : TE := fun _ H Q => ∀ p o, H p = none → DN P w (upd H p o) p [] → Q (.ref p) (upd H p o)
section
variable {o i e f value : Expr} {pos pos' apos cpos : Pos} {td ty tv tx : TE}
theorem pe_nget (hu : X.A.units + 9 < cLine) (ho : PE X o td) (hi : PE X i ty) (hs : NoSl i) (hP : X.prog = P := by rfl) (hw : X.w = w := by rfl) : PE X (.Subscript o i pos) (tNGet P w td ty) := by
  subst hP hw
  refine ⟨fun pins s σ H Q I h => ?_⟩
  refine subD_of PySem.F.slot_dict_getitem.lookup hs (thn (ho.run pins s σ H _ I h) fun u s1 ⟨x, H1, I1, rx, q1⟩ => thn (hi.run pins s1 σ H1 _ I1 q1) fun iv s2 ⟨y, H2, I2, ry, a, b, k, kvs, v, ex, ey, g, hk, hd, l, q2⟩ => ?_)
  subst ex ey
  obtain rfl : u = Value.ref a := rx
  obtain rfl : iv = Value.ref b := ry
  exact ⟨(n_type I2 g).1, n_getItem hu I2 g hk hd l fun w' s3 I3 rw' => ⟨v, H2, I3, rw', q2⟩⟩
theorem inN (hu : X.A.units + 9 < cLine) (hP : X.prog = P := by rfl) (hw : X.w = w := by rfl) : OpR X (compareOp .In) (rInN P w false) := by
  subst hP hw
  intro pins s σ H x y v u Q I rx ry h
  obtain ⟨a, b, k, kvs, rfl, rfl, g, hk, hd, q⟩ := h
  obtain rfl : v = Value.ref b := rx
  obtain rfl : u = Value.ref a := ry
  rw [Bool.false_xor] at q
  exact n_in hu I g hk hd fun s' I' => ⟨.bl _, H, I', rfl, q⟩
theorem notN (hu : X.A.units + 9 < cLine) (hP : X.prog = P := by rfl) (hw : X.w = w := by rfl) : OpR X (compareOp .NotIn) (rInN P w true) := by
  subst hP hw
  intro pins s σ H x y v u Q I rx ry h
  obtain ⟨a, b, k, kvs, rfl, rfl, g, hk, hd, q⟩ := h
  obtain rfl : v = Value.ref b := rx
  obtain rfl : u = Value.ref a := ry
  rw [Bool.true_xor] at q
  exact n_notIn hu I g hk hd fun s' I' => ⟨.bl _, H, I', rfl, q⟩
theorem ps_nput (hu : X.A.units + 9 < cLine) (ho : PE X o td) (hi : PE X i ty) (hv : PE X value tv) (hs : swapsWith value (some (.Subscript o i pos')) pos.line X.env = pure false) (hP : X.prog = P := by rfl) (hw : X.w = w := by rfl) :
    PS X (.Assign [.Subscript o i pos'] value pos) (sNPut P w td ty tv) := by
  subst hP hw
  refine ⟨fun pins s σ H D I h => ?_⟩
  refine wpAny_Assign_Subscript (thn (hv.run pins s σ H _ I h) fun r s1 ⟨v, H1, I1, rv, q1⟩ => thn (ho.run pins s1 σ H1 _ I1 q1) fun u s2 ⟨x, H2, I2, rx, q2⟩ => thn (hi.run pins s2 σ H2 _ I2 q2) fun iv s3 ⟨y, H3, I3, ry, a, b, k, kvs, ex, ey, g, hk, hd, hl, q3⟩ => ?_) hs
  subst ex ey
  obtain rfl : u = Value.ref a := rx
  obtain rfl : iv = Value.ref b := ry
  exact n_setItem hu I3 g hk hd rv hl fun s4 ho I4 dn => ⟨σ, _, I4, q3 ho dn⟩
theorem pe_nget1 (hu : X.A.units + 9 < cLine) (ho : PE X o td) (he : PE X e ty) (m : M1 X o "get" apos e cpos) (hP : X.prog = P := by rfl) (hw : X.w = w := by rfl) : PE X (.Call (.Attribute o "get" apos) [e] [] cpos) (tNGet1 P w td ty) := by
  subst hP hw
  refine ⟨fun pins s σ H Q I h => ?_⟩
  refine wpAny_Call_method m.base m.few m.line PySem.F.plainAttrs_dict PySem.F.slot_dict_get PySem.F.type_dict_get (thn (ho.run pins s σ H _ I h) fun u s1 ⟨x, H1, I1, rx, a, ex, ⟨kv0, g0⟩, q1⟩ => ?_)
  subst ex
  obtain rfl : u = Value.ref a := rx
  obtain ⟨t1, t2, _⟩ := n_type I1 g0
  refine ⟨t1, t2, ?_⟩
  rw [m.trees]
  refine Calls.callWith_builtin rfl (Calls.evalArgs_plain (Calls.spliced_cons (thn (he.run pins s1 σ H1 _ I1 q1) fun iv s2 ⟨y, H2, I2, ry, b, k, kvs, ey, g, hk, hd, q2⟩ => Calls.spliced_nil ?_)))
  subst ey
  obtain rfl : iv = Value.ref b := ry
  exact n_get1 hu I2 g hk hd fun w' s3 I3 rw' => ⟨_, H2, I3, rw', q2⟩
theorem pe_nget2 (hu : X.A.units + 9 < cLine) (ho : PE X o td) (he : PE X e ty) (hf : PE X f tx) (m : M2 X o "get" apos e f cpos) (hP : X.prog = P := by rfl) (hw : X.w = w := by rfl) : PE X (.Call (.Attribute o "get" apos) [e, f] [] cpos) (tNGet2 P w td ty tx) := by
  subst hP hw
  refine ⟨fun pins s σ H Q I h => ?_⟩
  refine wpAny_Call_method m.base m.few m.line PySem.F.plainAttrs_dict PySem.F.slot_dict_get PySem.F.type_dict_get (thn (ho.run pins s σ H _ I h) fun u s1 ⟨x, H1, I1, rx, a, ex, ⟨kv0, g0⟩, q1⟩ => ?_)
  subst ex
  obtain rfl : u = Value.ref a := rx
  obtain ⟨t1, t2, _⟩ := n_type I1 g0
  refine ⟨t1, t2, ?_⟩
  rw [m.trees]
  refine Calls.callWith_builtin rfl (Calls.evalArgs_plain (Calls.spliced_cons (thn (he.run pins s1 σ H1 _ I1 q1) fun iv s2 ⟨y, H2, I2, ry, q2⟩ =>
    Calls.spliced_cons (thn (hf.run pins s2 σ H2 _ I2 q2) fun fv s3 ⟨z, H3, I3, rz, b, k, kvs, ey, g, hk, hd, q3⟩ => Calls.spliced_nil ?_))))
  subst ey
  obtain rfl : iv = Value.ref b := ry
  exact n_get2 hu I3 g hk hd rz fun w' s4 I4 rw' => ⟨_, H3, I4, rw', q3⟩
theorem n_empty {H : Hp} (h : Heap) (hb : sysModules < h.objs.size) : ObjOk P w H (h.push { cls := .type "dict", data := .dict #[] }) h.objs.size (dNo P w h.objs.size []) :=
  ⟨⟨Nat.zero_le _, beq_eq_false_iff_ne.mpr (Ne.symm (Nat.ne_of_lt hb)), [], .nil, _, #[], 0, Heap.get?_push_size _ rfl, ⟨rfl, rfl, rfl⟩, rfl, rfl, List.nodup_nil⟩, ⟨_, Heap.get?_push_size _ rfl⟩, fun h1 h2 ph kp => by
    obtain ⟨p1, p2, ys2, p3, o2, es2, ep2, p4, p5⟩ := ph
    exact ⟨p1, p2, ys2, p3, o2, es2, ep2, kp _ p4, p5⟩⟩
theorem pe_nnew (hP : X.prog = P := by rfl) (hw : X.w = w := by rfl) : PE X (.Dict [] [] pos) (tNNew P w) := by
  subst hP hw
  refine ⟨fun pins s σ H Q I h => wpAny_Dict_empty ?_⟩
  exact ⟨.ref s.heap.objs.size, _, I.laid (a := s.heap.objs.size) (o := dNo X.prog X.w s.heap.objs.size []) (t' := s.toks) (fun _ _ q => Heap.get?_push_of_some _ q) (Nat.le_refl _) (n_empty s.heap I.big), rfl,
    h _ _ (I.hok.fresh (Nat.le_refl _)) ⟨[], upd_same, (fun x hx => nomatch hx), rfl⟩⟩
end
/-- a locked one, key by key -/
def ItN (P : Program) (w : World) (d : Addr) (o : Obj) (xs : NEs) : It :=
  ⟨fun i H => H d = some (.frz o (dNo P w d xs)) ∧ i < xs.length, fun i H x H' => H' = H ∧ ∃ k q v, xs[i]? = some (k, q, v) ∧ x = .ref q, fun i H => H d = some (.frz o (dNo P w d xs)) ∧ xs.length ≤ i⟩
theorem Inv.frzN {pins : List (Addr × Obj)} {σ : L2.St} {H : Hp} {s : Shared} {d : Addr} {o : Obj} {xs : NEs} (I : Inv X pins σ H s) (h : H d = some (.frz o (dNo X.prog X.w d xs))) :
    (d == sysModules) = false ∧ s.heap.get? d = some o ∧ o.ExactDict ∧ ∃ (es : Array DictEntry) (ep : Nat), o.data = .dict es ep ∧ es.size = xs.length ∧
      ∀ (i : Nat) (k : NestedKey) (q : Addr) (v : V), xs[i]? = some (k, q, v) → ∃ en : DictEntry, es[i]? = some en ∧ en.key = .ref q := by
  obtain ⟨hd, ⟨z, hs, ys, pr, o', es, ep, ho, hx, hdt, he, _⟩, _⟩ := (show ObjOk X.prog X.w H s.heap d (.frz o (dNo X.prog X.w d xs)) from I.hok d _ h)
  rw [hd] at ho
  cases ho
  refine ⟨hs, hd, hx, es, ep, hdt, ?_, fun i k q v e => ?_⟩
  · have l1 : es.size = ys.length := size_of_entries he
    have l2 : xs.length = ys.length := Paired.length pr
    omega
  · obtain ⟨b, hb, e1, e2, _⟩ := paired_get pr e
    have q := entry_at he i
    rw [hb] at q
    refine ⟨_, q, ?_⟩
    rw [show (entryOfKey (nestedKind X.prog X.w) b).key = .ref b.2.1 from rfl, ← e2]
theorem turn_keysN {K : PySem.W.Frag} {tg : Expr} {d : Addr} {o : Obj} {es : Array DictEntry} {ep : Nat} {xs : NEs} (it : Addr) (hod : o.data = .dict es ep) : Turn P w K tg (ItN P w d o xs) [it] it (fun i h => h.IsKeyIter it d i xs.length ep) where
  mem := List.mem_singleton.mpr rfl
  obj := fun i h st b hb => by
    cases List.mem_singleton.mp hb
    obtain ⟨oi, e, _, da⟩ := st
    exact ⟨oi, e, fun v z => nomatch da.symm.trans z⟩
  keep := fun i h h2 st same => st.at fun oi e => same it (List.mem_singleton.mpr rfl) oi e
  item := by
    intro Y eP ew eK _ i pins s σ H E I free st can
    subst eP ew eK
    have fr := free it (List.mem_singleton.mpr rfl)
    obtain ⟨_, at_, _, es2, ep2, dat, size, ent⟩ := Inv.frzN I can.1
    obtain ⟨rfl, rfl⟩ := dict_ep hod dat
    have got := List.getElem?_eq_getElem can.2
    obtain ⟨en, hen, hkey⟩ := ent i _ _ _ got
    refine next_key_item st at_ dat size hen fun h2 st2 but => ?_
    have I2 : Inv Y pins σ H { s with heap := h2 } := I.turned (t' := s.toks) (fun c oc ne z => (but.2 c ne).trans z) fr.1 fr.2.1 fr.2.2.2.1 fr.2.2.2.2.1 fr.2.2.2.2.2
    obtain ⟨oi, e, cl, da⟩ := id st2
    exact ⟨en.key, rfl, go_of (s := { s with heap := h2 }) e cl da (by decide) ⟨.ref (xs[i]'can.2).2.1, H, I2, hkey, ⟨rfl, _, _, _, got, rfl⟩, st2, fun c hc => (free c hc).1⟩⟩
  done := by
    intro Y eP ew eK calm i pins s σ H E I free st can
    subst eP ew eK
    have fr := free it (List.mem_singleton.mpr rfl)
    obtain ⟨_, at_, _, es2, ep2, dat, size, _⟩ := Inv.frzN I can.1
    obtain ⟨rfl, rfl⟩ := dict_ep hod dat
    refine next_key_end (I.ok.hd calm) st at_ dat size can.2 fun h2 but => ⟨rfl, ?_⟩
    exact I.turned (t' := s.toks) (fun c oc ne z => but c oc ne z) fr.1 fr.2.1 fr.2.2.2.1 fr.2.2.2.2.1 fr.2.2.2.2.2
  self := fun B i s Q E st go => by
    have ty := st.typeIs
    refine wpAny_pyIter_slot ty F.slot_dict_keyiterator_iter (wpAny_call_entry F.slot_dict_keyiterator_iter ty F.entry_dict_keyiterator_iter ?_ (F.args_dict_keyiterator_iter_1 _))
    exact wpAny_pure ⟨_, rfl, "dict_keyiterator", _, ty, F.slot_dict_keyiterator_next.lookup, go⟩
def iKeysN (P : Program) (w : World) (td : TE) : TI := fun σ H R => td σ H fun x H1 => ∃ d o xs, x = .ref d ∧ H1 d = some (.frz o (dNo P w d xs)) ∧ R (ItN P w d o xs) H1
theorem pi_keysN {tg e : Expr} {td : TE} (he : PE X e td) (hP : X.prog = P := by rfl) (hw : X.w = w := by rfl) : PI X tg e (iKeysN P w td) := by
  subst hP hw
  refine ⟨fun pins s σ H R I h => ?_⟩
  refine thn (he.run pins s σ H _ I h) fun u s1 ⟨x, H1, I1, rx, d, o, xs, ex, hd, q⟩ => ?_
  subst ex
  obtain rfl : u = Value.ref d := rx
  obtain ⟨hs, hgd, hx, es, ep, hdt, hsz, ent⟩ := Inv.frzN I1 hd
  refine iter_keys hs hgd hx hdt (pi_one (tk := s1.toks) I1 _ (turn_keysN _ hdt) ⟨_, Heap.get?_push_size _ rfl, rfl, ?_⟩ q)
  rw [hsz] <;> rfl
theorem walk_keysN {d : Addr} {o : Obj} {xs : NEs} : Walk (ItN P w d o xs) xs.length (fun H => H d = some (.frz o (dNo P w d xs))) (fun i H x H' => H' = H ∧ ∃ k q v, xs[i]? = some (k, q, v) ∧ x = .ref q) :=
  ⟨fun _ _ hi q => ⟨q, hi⟩, fun _ q => ⟨q, Nat.le_refl _⟩, fun _ _ _ _ _ _ y => y⟩
end
end RL
/-! games: all turns and lots to which the choices lead -/
namespace RL
open PySem PySem.Spec PyProof.Rows L2 RLM
/-- a state as a dict's key -/
def kS (s : Stt) : NestedKey := .tup [.num (nI s.1), .tup (s.2.map fun p => .num (nI p))]
theorem nums_inj : ∀ {xs ys : List Nat}, xs.map (fun p => NestedKey.num (nI p)) = ys.map (fun p => NestedKey.num (nI p)) → xs = ys
  | [], [], _ => rfl
  | [], _ :: _, h => nomatch h
  | _ :: _, [], h => nomatch h
  | x :: xs, y :: ys, h => by
    rw [List.map_cons, List.map_cons] at h
    injection h with h1 h2
    injection h1 with h1
    rw [nums_inj h2, show x = y by unfold nI at h1; omega]
theorem kS_inj {s s' : Stt} (h : kS s = kS s') : s = s' := by
  unfold kS at h
  injection h with h
  injection h with h1 h2
  injection h1 with h1
  injection h2 with h2
  injection h2 with h2
  exact Prod.ext (by unfold nI at h1; omega) (nums_inj h2)
theorem nums_depth : ∀ xs : List Nat, NestedKey.depthAll (xs.map fun p => NestedKey.num (nI p)) = 0
  | [] => rfl
  | x :: xs => by
    rw [List.map_cons]
    show max 0 (NestedKey.depthAll _) = 0
    rw [nums_depth xs]
    rfl
theorem kS_depth (s : Stt) : (kS s).depth ≤ 8 := by
  show max 0 (max (NestedKey.depthAll (s.2.map fun p => NestedKey.num (nI p)) + 1) 0) + 1 ≤ 8
  rw [nums_depth]
  decide
theorem nums_NKys {H : Hp} : ∀ xs : List Nat, NKys H (xs.map fun p => NestedKey.num (nI p)) (xs.map vI)
  | [] => .nil
  | x :: xs => .cons (.num _) (nums_NKys xs)
theorem StAt.key {H : Hp} {b : Addr} {s : Stt} (h : StAt H b s) : NKy H (kS s) (.ref b) := by
  obtain ⟨l, h1, h2⟩ := h
  exact .tup h1 (.cons (.num _) (.cons (.tup h2 (nums_NKys _)) .nil))
theorem NKy.lot {H : Hp} : ∀ {xs : List Nat} {vs : List V}, NKys H (xs.map fun p => NestedKey.num (nI p)) vs → vs = xs.map vI
  | [], _, h => by cases h; rfl
  | x :: xs, _, h => by
    cases h with
    | cons h1 h2 =>
      cases h1
      rw [NKy.lot h2]
      rfl
theorem StAt.of_key {H : Hp} {b : Addr} {s : Stt} (h : NKy H (kS s) (.ref b)) : StAt H b s := by
  unfold kS at h
  cases h with
  | tup h1 h2 =>
    cases h2 with
    | cons a r =>
      cases a
      cases r with
      | cons c d =>
        cases d
        cases c with
        | @tup l _ ys h3 h4 =>
          refine ⟨l, h1, ?_⟩
          unfold LtAt
          rw [h3, NKy.lot h4]
/-- the values by states -/
abbrev kvS {α : Type} (F : α → V) (ls : List (Stt × α)) : List (NestedKey × V) := ls.map fun q => (kS q.1, F q.2)
theorem kvS_val {α : Type} (F : α → V) (s : Stt) : ∀ ls : List (Stt × α), valV (kvS F ls) (kS s) = (ls.find? fun q => decide (q.1 = s)).map fun q => F q.2
  | [] => rfl
  | q :: ls => by
    have ih := kvS_val F s ls
    unfold kvS at ih ⊢
    rw [List.map_cons, List.find?_cons]
    by_cases e : q.1 = s
    · rw [decide_eq_true e, valV_pos (p := (kS q.1, F q.2)) (by rw [e])]
      rfl
    · rw [decide_eq_false e, valV_neg (p := (kS q.1, F q.2)) (fun z => e (kS_inj z)), ih]
theorem kvS_in {α : Type} (F : α → V) (s : Stt) (ls : List (Stt × α)) : (valV (kvS F ls) (kS s)).isSome = decide (s ∈ ls.map (·.1)) := by
  rw [kvS_val, Option.isSome_map]
  by_cases h : s ∈ ls.map (·.1)
  · rw [decide_eq_true h]
    obtain ⟨q, hq, e⟩ := List.mem_map.mp h
    exact List.find?_isSome.mpr ⟨q, hq, decide_eq_true e⟩
  · rw [decide_eq_false h]
    refine Bool.eq_false_iff.mpr fun z => ?_
    obtain ⟨q, hq, e⟩ := List.find?_isSome.mp z
    exact h (List.mem_map.mpr ⟨q, hq, of_decide_eq_true e⟩)
theorem kvS_at {α : Type} (F : α → V) {s : Stt} {a : α} {ls : List (Stt × α)} (nd : (ls.map (·.1)).Nodup) (h : (s, a) ∈ ls) : valV (kvS F ls) (kS s) = some (F a) := by
  rw [kvS_val]
  induction ls with
  | nil => cases h
  | cons q ls ih =>
    rw [List.map_cons, List.nodup_cons] at nd
    rw [List.find?_cons]
    rcases List.mem_cons.mp h with e | e
    · rw [← e, decide_eq_true rfl]
      rfl
    · have ne : q.1 ≠ s := fun z => nd.1 (z ▸ List.mem_map.mpr ⟨(s, a), e, rfl⟩)
      rw [decide_eq_false ne]
      exact ih nd.2 e
theorem kvS_put {α : Type} (F : α → V) {s : Stt} {a : α} {ls : List (Stt × α)} (h : s ∉ ls.map (·.1)) : putK (kvS F ls) (kS s) (F a) = kvS F (ls ++ [(s, a)]) := by
  rw [putK_new]
  · unfold kvS
    rw [List.map_append]
    rfl
  · have := kvS_in F s ls
    rw [decide_eq_false h] at this
    cases e : valV (kvS F ls) (kS s) with
    | none => rfl
    | some v => rw [e] at this; cases this
/-- the links as they stand -/
structure LinksAt (P : Program) (w : World) (N : Addr → Prop) (H : Hp) (a : Addr) (G : Gm) (ls : List (Stt × Addr)) : Prop where
  dn : DN P w H a (kvS V.ref ls)
  nd : (ls.map (·.1)).Nodup
  st : ∀ q ∈ ls, G.St q.1
  un : ∀ q ∈ ls, UnbAt N H q.2 (G.unb q.1)
theorem DN.same {P : Program} {w : World} {H H' : Hp} {a : Addr} {kvs : List (NestedKey × V)} (s : Same H H') (h : DN P w H a kvs) : DN P w H' a kvs := let ⟨xs, e, n, z⟩ := h; ⟨xs, s _ _ e, n.keep fun b ys q => s _ _ q, z⟩
theorem LinksAt.same {P : Program} {w : World} {N : Addr → Prop} {H H' : Hp} {a : Addr} {G : Gm} {ls : List (Stt × Addr)} (s : Same H H') (h : LinksAt P w N H a G ls) : LinksAt P w N H' a G ls :=
  ⟨h.dn.same s, h.nd, h.st, fun q hq => (h.un q hq).same s⟩
theorem DN.not {P : Program} {w : World} {H : Hp} {a : Addr} {kvs : List (NestedKey × V)} (h : DN P w H a kvs) : (∀ xs, H a ≠ some (.tup xs)) ∧ ∀ xs, H a ≠ some (.lst xs) := by
  obtain ⟨xs, e, _⟩ := h
  exact ⟨(fun ys z => by rw [e] at z; cases z), fun ys z => by rw [e] at z; cases z⟩
theorem LinksAt.mono {P : Program} {w : World} {N N' : Addr → Prop} {H : Hp} {a : Addr} {G : Gm} {ls : List (Stt × Addr)} (m : ∀ b, N b → N' b) (h : LinksAt P w N H a G ls) : LinksAt P w N' H a G ls := ⟨h.dn, h.nd, h.st, fun q hq => (h.un q hq).mono m⟩
theorem DN.but {P : Program} {w : World} {H H' : Hp} {a v : Addr} {kvs : List (NestedKey × V)} (k : ButU v H H') (hv : ∀ xs, H v ≠ some (.tup xs)) (ne : a ≠ v) (h : DN P w H a kvs) : DN P w H' a kvs := by
  obtain ⟨xs, e, n, z⟩ := h
  exact ⟨xs, k _ _ ne e, n.keep fun b ys q => k _ _ (fun y => hv _ (y ▸ q)) q, z⟩
theorem LinksAt.but {P : Program} {w : World} {N : Addr → Prop} {H H' : Hp} {a v : Addr} {G : Gm} {ls : List (Stt × Addr)} (k : ButU v H H') (hv : ∀ xs, H v ≠ some (.tup xs)) (nv : ∀ b, N b → ∀ xs, H b = some (.lst xs) → b ≠ v) (ne : a ≠ v) (h : LinksAt P w N H a G ls) : LinksAt P w N H' a G ls :=
  ⟨h.dn.but k hv ne, h.nd, h.st, fun q hq => (h.un q hq).but k hv nv⟩
/-- between the turns of the walk -/
structure LkI (P : Program) (w : World) (H H4 : Hp) (a l : Addr) (G : Gm) (st : Stt) (ls : List (Stt × Addr)) (todo : List (Addr × Stt)) : Prop where
  la : LinksAt P w (fun b => H b = none ∧ b ≠ l) H4 a G ls
  left : H4 l = some (.lst (todo.map fun z => V.ref z.1))
  td : ∀ z ∈ todo, StAt H4 z.1 z.2 ∧ G.St z.2
  cl : ∀ q ∈ ls, ∀ c ∈ G.unb q.1, ∀ s' ∈ c.2, s' ∈ ls.map (·.1) ∨ s' ∈ todo.map (·.2)
  st : st ∈ ls.map (·.1) ∨ st ∈ todo.map (·.2)
  same : Same H H4
theorem flat_le {l : List (Nat × List Stt)} (h : ∀ c ∈ l, c.2.length ≤ 9) : (l.flatMap (·.2)).length ≤ l.length * 9 := by
  induction l with
  | nil => exact Nat.zero_le _
  | cons c l ih =>
    rw [List.flatMap_cons, List.length_append, List.length_cons, Nat.succ_mul]
    have h1 := h c (List.mem_cons_self ..)
    have h2 := ih fun c hc => h c (List.mem_cons_of_mem _ hc)
    omega
section
variable {P : Program} {w : World} {K : PySem.W.Frag} {mg : Str → Option Value} {base : Heap}
def spGLinks (P : Program) (w : World) (K : PySem.W.Frag) : Sp := fun vs H Q _ => ∃ (c x lt : Addr) (G : Gm) (s : Stt), vs = [.ref x, vI s.1, .ref lt] ∧ GameAt K c H x G ∧ G.St s ∧ LtAt H lt s.2 ∧
  ∀ H' a ls, LinksAt P w (fun b => H b = none) H' a G ls → Shut G (ls.map (·.1)) → s ∈ ls.map (·.1) → H a = none → Same H H' → Q (.ref a) H'
theorem sc_Game_links_from : FnScope ["self", "turn", "lot", "links", "left", "state", "choice", "comes_next"] ["self", "turn", "lot"] (defScope s_Game_links_from) := ⟨rfl, rfl, rfl, by decide +kernel, rfl, by decide +kernel, by decide +kernel⟩
theorem ok_gLinks (T : Tx K mg) : Has P w K mg base (mC K "Game" "links_from") 4 ["self", "turn", "lot"] (spGLinks P w K) := by
  obtain ⟨⟨fd_unbroken, F_unbroken, b_unbroken⟩, kp_unbroken⟩ := ok_gUnb (P := P) (w := w) (base := base) T
  obtain ⟨fd, F⟩ := T.d_Game_links_from
  refine ⟨⟨fd, F.ok sc_Game_links_from (fun vs H Q E h => ?_) (fun cdv A outer s H vs Q E hr h => ?_), F.bindsN fun _ _ _ _ _ _ us hl => match us, hl with | [_, _, _], _ => rfl⟩, F.kp⟩
  · obtain ⟨c, x, lt, G, s, rfl, _⟩ := h
    rfl
  · obtain ⟨c, x, lt, G, st, rfl, GA, S, ht, h⟩ := h
    have hr_unbroken : Room 3 _ := hr.mono (by decide)
    refine ⟨_, PSs.nox (pss_cons (ps_set (i := 3) sc_Game_links_from.nd rfl (Or.inl rfl) pe_nnew)
      (pss_cons (ps_set (i := 4) sc_Game_links_from.nd rfl (Or.inl rfl) (pe_lst (pa_cons (pe_tup (pa_cons (pv 1) (pa_cons (pv 2) pa_nil))) pa_nil)))
      (pss_cons (ps_while PassesOwn.never (pt_truth (pv 4) (by intro _; rfl)) (pss_cons (ps_set (i := 5) sc_Game_links_from.nd rfl (Or.inl rfl) (pe_bm0 PySem.F.plainAttrs_list PySem.F.slot_list_pop PySem.F.type_list_pop mt_pop (pv 4)))
      (pss_one (ps_if (pt_cmpR (notN (P := P) (w := w) (hr9 hr)) (pv 5) (pv 3) (by rfl)) (pss_cons (ps_nput (hr9 hr) (pv 3) (pv 5) (pe_meth (pv 0) T.cl_Game T.m_Game_unbroken F_unbroken hr_unbroken b_unbroken .nil pass0 (pa_cons (pe_ix (ixT (K := K)) (pv 5) pe_int (fun _ _ => rfl)) (pa_cons (pe_ix (ixT (K := K)) (pv 5) pe_int (fun _ _ => rfl)) pa_nil))) rfl)
      (pss_one (ps_for PassesOwn.never rfl (piL (K := K) (pe_nget (hr9 hr) (pv 3) (pv 5) (fun _ _ => rfl))) (pgT (K := K) (n := 2) rfl (pgs_cons (pg_name (i := 6) sc_Game_links_from.nd rfl (Or.inl rfl)) (pgs_cons (pg_name (i := 7) sc_Game_links_from.nd rfl (Or.inl rfl)) pgs_nil))) (pss_one (ps_expr (bmK (K := K) PySem.F.plainAttrs_list PySem.F.slot_list_extend PySem.F.type_list_extend mt_extend (pv 4) (pa_cons (pv 7) pa_nil))))))) pss_nil))))
      (pss_one (ps_ret (pv 3)))))), ?_⟩
    obtain ⟨dx, b, e, o, es, us, E, h1, h2, h3, h4, h5, h6, h7, h8, h9⟩ := GA.ex
    show ∀ (a : Addr) (oa : HO), H a = none → DN P w (upd H a oa) a [] → _
    intro a oa ha dn0
    have s1 := same_upd (o := oa) ha
    have ha1 : (upd H a oa) a = some oa := upd_same
    generalize upd H a oa = H1 at dn0 s1 ha1
    refine ⟨_, rfl, _, rfl, (by show 2 ≤ sizeLine; decide), fun p hp => ⟨(by show 1 ≤ sizeLine; decide), fun l hl => ?_⟩⟩
    have s2 := same_upd (o := HO.tup [vI st.1, .ref lt]) hp
    have s3 := same_upd (o := HO.lst [.ref p]) hl
    have sp : StAt (upd (upd H1 p (HO.tup [vI st.1, .ref lt])) l (HO.lst [.ref p])) p st := ⟨lt, s3 _ _ upd_same, (s1.trans (s2.trans s3)) _ _ ht⟩
    have hl3 : (upd (upd H1 p (HO.tup [vI st.1, .ref lt])) l (HO.lst [.ref p])) l = some (.lst [.ref p]) := upd_same
    have dn3 := dn0.same (s2.trans s3)
    have s03 := s1.trans (s2.trans s3)
    have lH : H l = none := none_backS (s1.trans s2) hl
    have nla : l ≠ a := fun e => by
      have := (s2 _ _ ha1)
      rw [← e, hl] at this
      cases this
    generalize (upd (upd H1 p (HO.tup [vI st.1, .ref lt])) l (HO.lst [.ref p])) = H3 at sp hl3 dn3 s03
    refine ⟨fun m σ H4 => ∃ (v5 v6 v7 : Option V) (ls : List (Stt × Addr)) (todo : List (Addr × Stt)), σ = [some (.ref x), some (vI st.1), some (.ref lt), some (.ref a), some (.ref l), v5, v6, v7] ∧ LkI P w H H4 a l G st ls todo ∧ m = (768 - ls.length) * 50 + todo.length ∧ m ≤ 38500,
      ⟨_, none, none, none, [], [(p, st)], rfl, ⟨⟨dn3, List.nodup_nil, fun q hq => (nomatch hq), fun q hq => (nomatch hq)⟩, hl3, fun z hz => (by rw [List.mem_singleton.mp hz]; exact ⟨sp, S⟩), fun q hq => (nomatch hq), .inr (List.mem_singleton.mpr rfl), s03⟩, rfl, (by show 768 * 50 + 1 ≤ 38500; decide)⟩, ?_⟩
    rintro m σ H4 ⟨v5, v6, v7, ls, todo, rfl, LI, rfl, hb⟩
    have few := states_few LI.la.nd (fun s' hs => by obtain ⟨q, hq, e⟩ := List.mem_map.mp hs; rw [← e]; exact LI.la.st q hq) GA.ok.n8 GA.ok.h3
    rw [List.length_map] at few
    refine ⟨_, rfl, !todo.isEmpty, .inl ⟨_, SqL.of LI.left, by cases todo <;> rfl⟩, ?_⟩
    rcases List.eq_nil_or_concat todo with e | ⟨init, z, e⟩
    · subst e
      refine iteF ⟨_, rfl, h H4 a ls (LI.la.mono fun b n => n.1) (fun s' hs c hc s2 h2 => ?_) ?_ ha LI.same⟩
      · obtain ⟨q, hq, e⟩ := List.mem_map.mp hs
        subst e
        exact (LI.cl q hq c hc s2 h2).elim id fun y => (nomatch y)
      · exact LI.st.elim id fun y => (nomatch y)
    · rw [List.concat_eq_append] at e
      subst e
      have left := LI.left
      rw [List.map_append] at left
      obtain ⟨sz, Sz⟩ := LI.td z (List.mem_append_right _ (List.mem_singleton.mpr rfl))
      have e1 : (!(init ++ [z]).isEmpty) = true := by cases init <;> rfl
      rw [e1]
      refine iteT ⟨fun σ H4 => ∃ (v5 v6 v7 : Option V) (ls' : List (Stt × Addr)) (todo' : List (Addr × Stt)), σ = [some (.ref x), some (vI st.1), some (.ref lt), some (.ref a), some (.ref l), v5, v6, v7] ∧ LkI P w H H4 a l G st ls' todo' ∧ (768 - ls'.length) * 50 + todo'.length < (768 - ls.length) * 50 + (init ++ [z]).length, fun σ' H' ⟨v5, v6, v7, ls', todo', e1, e2, e3⟩ => ⟨_, e3, v5, v6, v7, ls', todo', e1, e2, rfl, by omega⟩, ?_⟩
      refine ⟨_, rfl, .inl ⟨rfl, _, SqL.of left⟩, l, _, .ref z.1, rfl, rfl, left, by simp, ?_⟩
      have dl : ((init.map fun z => V.ref z.1) ++ [z].map fun z => V.ref z.1).dropLast = init.map fun z => V.ref z.1 := by simp
      rw [dl]
      have b5 : ButU l H4 (upd H4 l (.lst (init.map fun z => V.ref z.1))) := fun c o ne h => by rw [upd_ne ne]; exact h
      have nt : ∀ xs, H4 l ≠ some (.tup xs) := fun xs e => by rw [left] at e; cases e
      have LA5 := LI.la.but b5 nt (fun b n _ _ => n.2) nla.symm
      have hl5 : (upd H4 l (.lst (init.map fun z => V.ref z.1))) l = some (.lst (init.map fun z => V.ref z.1)) := upd_same
      have td5 : ∀ y ∈ init, StAt (upd H4 l (.lst (init.map fun z => V.ref z.1))) y.1 y.2 ∧ G.St y.2 := fun y hy => ⟨(LI.td y (List.mem_append_left _ hy)).1.but b5 nt, (LI.td y (List.mem_append_left _ hy)).2⟩
      have sz5 := sz.but b5 nt
      have s05 : Same H (upd H4 l (.lst (init.map fun z => V.ref z.1))) := same_mut LI.same lH
      generalize upd H4 l (.lst (init.map fun z => V.ref z.1)) = H5 at b5 LA5 hl5 td5 sz5 s05
      have cl := LI.cl
      have stin := LI.st
      clear LI
      refine ⟨_, rfl, _, rfl, a, z.1, kS z.2, _, rfl, rfl, LA5.dn.r, sz5.key, kS_depth _, _, rfl, ?_⟩
      rw [kvS_in]
      by_cases hz : z.2 ∈ ls.map (·.1)
      · rw [decide_eq_true hz]
        refine iteF ⟨_, _, _, ls, init, rfl, ⟨LA5, hl5, td5, fun q hq c hc s' hs => ?_, ?_, s05⟩, by rw [List.length_append]; simp⟩
        · rcases cl q hq c hc s' hs with y | y
          · exact .inl y
          · rw [List.map_append] at y
            rcases List.mem_append.mp y with y | y
            · exact .inr y
            · rw [List.mem_singleton.mp y]
              exact .inl hz
        · rcases stin with y | y
          · exact .inl y
          · rw [List.map_append] at y
            rcases List.mem_append.mp y with y | y
            · exact .inr y
            · rw [List.mem_singleton.mp y]
              exact .inl hz
      · rw [decide_eq_false hz]
        refine iteT ?_
        obtain ⟨lz, hz1, hz2⟩ := sz5
        refine ⟨_, rfl, x, dx, _, rfl, s05 _ _ h1, (by rfl), _, rfl, z.1, _, 0, _, rfl, rfl, SqT.of hz1, rfl, _, rfl, z.1, _, 1, _, rfl, rfl, SqT.of hz1, rfl, c, x, lz, G, z.2, rfl, GA.same s05, Sz, hz2, fun H6 u U unone s6 => ?_⟩
        have LA6 := LA5.same s6
        have un6 : UnbAt (fun b => H b = none ∧ b ≠ l) H6 u (G.unb z.2) := U.mono fun b n => ⟨none_backS s05 n, fun e => by rw [e, hl5] at n; cases n⟩
        refine ⟨_, rfl, _, rfl, a, z.1, kS z.2, _, rfl, rfl, LA6.dn, (StAt.same s6 ⟨lz, hz1, hz2⟩).key, kS_depth _, ?_, fun oa' dn7 => ?_⟩
        · rw [List.length_map]
          exact Nat.lt_of_le_of_lt few (by decide)
        rw [kvS_put V.ref hz] at dn7
        have na := LA6.dn.not
        have ba : ButU a H6 (upd H6 a oa') := fun c o ne h => by rw [upd_ne ne]; exact h
        have nl : ∀ b, (H b = none ∧ b ≠ l) → ∀ xs, H6 b = some (.lst xs) → b ≠ a := fun b _ xs e y => na.2 xs (y ▸ e)
        have un7 := un6.but ba na.1 nl
        have LA7 : LinksAt P w (fun b => H b = none ∧ b ≠ l) (upd H6 a oa') a G (ls ++ [(z.2, u)]) := by
          refine ⟨dn7, ?_, fun q hq => ?_, fun q hq => ?_⟩
          · rw [List.map_append]
            exact List.nodup_append.mpr ⟨LA6.nd, by simp, fun s1 h1 s2 h2 e => hz (by rw [e, List.mem_singleton.mp h2] at h1; exact h1)⟩
          · rcases List.mem_append.mp hq with y | y
            · exact LA6.st q y
            · rw [List.mem_singleton.mp y]
              exact Sz
          · rcases List.mem_append.mp hq with y | y
            · exact (LA6.un q y).but ba na.1 nl
            · rw [List.mem_singleton.mp y]
              exact un7
        have hl7 : (upd H6 a oa') l = some (.lst (init.map fun z => V.ref z.1)) := ba _ _ nla (s6 _ _ hl5)
        have td7 : ∀ y ∈ init, StAt (upd H6 a oa') y.1 y.2 ∧ G.St y.2 := fun y hy => ⟨((td5 y hy).1.same s6).but ba na.1, (td5 y hy).2⟩
        have sz7 : StAt (upd H6 a oa') z.1 z.2 := (StAt.same s6 ⟨lz, hz1, hz2⟩).but ba na.1
        have s07 : Same H (upd H6 a oa') := same_mut (s05.trans s6) ha
        generalize upd H6 a oa' = H7 at dn7 ba un7 LA7 hl7 td7 sz7 s07
        obtain ⟨⟨uN, ul⟩, qs, hu7, eq7, cq7⟩ := un7
        have vz : valV (kvS V.ref (ls ++ [(z.2, u)])) (kS z.2) = some (V.ref u) := kvS_at V.ref LA7.nd (List.mem_append_right _ (List.mem_singleton.mpr rfl))
        have l5 : (G.unb z.2).length ≤ 5 := by
          have e1 : G.opts z.2.1 = (fun _ => 0, 0) :: G.hands.getD z.2.1 [] := rfl
          have e2 : G.hands.getD z.2.1 [] = G.hands[z.2.1]'Sz.1 := by rw [List.getD_eq_getElem?_getD, List.getElem?_eq_getElem Sz.1]; rfl
          have e3 := (GA.ok.each _ (List.getElem_mem Sz.1)).1
          unfold Gm.unb
          rw [List.length_map]
          refine Nat.le_trans (List.length_filter_le _ _) ?_
          rw [List.length_range, e1, List.length_cons, e2]
          omega
        have l9 : ∀ c ∈ G.unb z.2, c.2.length ≤ 9 := fun c hc => by
          obtain ⟨i, _, rfl⟩ := List.mem_map.mp hc
          show (G.nexts _ _).length ≤ 9
          unfold Gm.nexts
          rw [List.length_map]
          exact ansS_len _ _
        have lq : qs.length = (G.unb z.2).length := by rw [← eq7, List.length_map]
        refine ⟨_, rfl, _, rfl, a, z.1, kS z.2, _, _, rfl, rfl, LA7.dn.r, sz7.key, kS_depth _, vz, u, rfl, ⟨_, SqL.of hu7⟩, ?_⟩
        refine for_it (walk_list (K := K) (a := u) (xs := qs.map fun y => V.ref y.1)) (fun i σ H8 => ∃ (v6 v7 : Option V) (more : List (Addr × Stt)), σ = [some (.ref x), some (vI st.1), some (.ref lt), some (.ref a), some (.ref l), some (.ref z.1), v6, v7] ∧ H8 l = some (.lst ((init ++ more).map fun z => V.ref z.1)) ∧ more.map (·.2) = ((G.unb z.2).take i).flatMap (·.2) ∧ (∀ y ∈ more, StAt H8 y.1 y.2) ∧ ButU l H7 H8)
          ⟨_, _, [], rfl, by rw [List.append_nil]; exact hl7, by simp, fun y hy => (nomatch hy), fun c o _ h => h⟩ (fun i σ H8 _ ⟨_, _, _, _, _, _, _, bu⟩ => SqL.of (bu _ _ ul hu7)) ?_ ?_
        · rintro i y σ H8 H9 hi ⟨v6, v7, more, rfl, hl8, em, sm8, bu⟩ ⟨rfl, hy⟩
          rw [List.getElem?_map] at hy
          obtain ⟨q, hq, rfl⟩ := Option.map_eq_some_iff.mp hy
          have nt7 : ∀ xs, H7 l ≠ some (.tup xs) := fun xs e => by rw [hl7] at e; cases e
          obtain ⟨lc, bs, ⟨_, lcl⟩, hq1, hq2, ebs, sbs⟩ := (cq7 q (List.mem_of_getElem? hq)).but bu nt7 (fun b n _ _ => n.2)
          refine ⟨q.1, _, rfl, SqT.of hq1, rfl, _, _, rfl, _, _, rfl, rfl, ?_⟩
          refine ⟨_, rfl, .inl ⟨rfl, _, SqL.of hl8⟩, _, rfl, l, lc, _, _, rfl, rfl, hl8, hq2, ?_, ?_⟩
          · have m9 : more.length ≤ 45 := by
              have := congrArg List.length em
              rw [List.length_map] at this
              rw [this]
              refine Nat.le_trans (flat_le fun c hc => l9 c (List.mem_of_mem_take hc)) ?_
              have : ((G.unb z.2).take i).length ≤ 5 := Nat.le_trans (by rw [List.length_take]; exact Nat.min_le_right _ _) l5
              omega
            have b9 : bs.length ≤ 9 := by
              have := congrArg List.length ebs
              rw [List.length_map] at this
              rw [this]
              exact l9 _ (by rw [← eq7]; exact List.mem_map.mpr ⟨q, List.mem_of_getElem? hq, rfl⟩)
            rw [List.length_append, List.length_singleton] at hb
            rw [List.length_map, List.length_map, List.length_append]
            exact Nat.le_trans (show init.length + more.length + bs.length ≤ 40000 by omega) (by decide)
          · have bu9 : ButU l H9 (upd H9 l (.lst ((init ++ more).map (fun z => V.ref z.1) ++ bs.map fun z => V.ref z.1))) := fun c o ne h => by rw [upd_ne ne]; exact h
            have nt8 : ∀ xs, H9 l ≠ some (.tup xs) := fun xs e => by rw [hl8] at e; cases e
            refine ⟨_, _, more ++ bs, rfl, by rw [upd_same, ← List.map_append, List.append_assoc], ?_, fun y hy => ?_, fun c o ne h => bu9 _ _ ne (bu _ _ ne h)⟩
            · have hu2 : (G.unb z.2)[i]? = some q.2 := by rw [← eq7, List.getElem?_map, hq]; rfl
              rw [List.map_append, em, ebs, List.take_add_one, hu2, List.flatMap_append]
              simp
            · rcases List.mem_append.mp hy with y' | y'
              · exact (sm8 y y').but bu9 nt8
              · exact (sbs y y').but bu9 nt8
        · rintro σ H8 ⟨v6, v7, more, rfl, hl8, em, sm8, bu⟩
          have nt7 : ∀ xs, H7 l ≠ some (.tup xs) := fun xs e => by rw [hl7] at e; cases e
          rw [List.length_map, lq, List.take_length] at em
          refine ⟨_, _, _, ls ++ [(z.2, u)], init ++ more, rfl, ⟨LA7.but bu nt7 (fun b n _ _ => n.2) nla.symm, hl8, fun y hy => ?_, fun q hq c hc s' hs => ?_, ?_, fun c o h => ?_⟩, ?_⟩
          · rcases List.mem_append.mp hy with y' | y'
            · exact ⟨(td7 y y').1.but bu nt7, (td7 y y').2⟩
            · refine ⟨sm8 y y', ?_⟩
              have hm : y.2 ∈ (G.unb z.2).flatMap (·.2) := by rw [← em]; exact List.mem_map.mpr ⟨y, y', rfl⟩
              obtain ⟨c, hc, hs⟩ := List.mem_flatMap.mp hm
              exact unb_St GA.ok.stay (by have := GA.ok.h1; omega) Sz c hc _ hs
          · rw [List.map_append, List.map_append]
            rcases List.mem_append.mp hq with y | y
            · rcases cl q y c hc s' hs with k | k
              · exact .inl (List.mem_append_left _ k)
              · rw [List.map_append] at k
                rcases List.mem_append.mp k with k | k
                · exact .inr (List.mem_append_left _ k)
                · exact .inl (List.mem_append_right _ k)
            · rw [List.mem_singleton.mp y] at hc
              refine .inr (List.mem_append_right _ ?_)
              rw [em]
              exact List.mem_flatMap.mpr ⟨c, hc, hs⟩
          · rw [List.map_append, List.map_append]
            rcases stin with k | k
            · exact .inl (List.mem_append_left _ k)
            · rw [List.map_append] at k
              rcases List.mem_append.mp k with k | k
              · exact .inr (List.mem_append_left _ k)
              · exact .inl (List.mem_append_right _ k)
          · have h7' := s07 _ _ h
            refine bu _ _ (fun e => ?_) h7'
            rw [e, lH] at h
            cases h
          · have m45 : more.length ≤ 45 := by
              have := congrArg List.length em
              rw [List.length_map] at this
              rw [this]
              have := flat_le l9
              omega
            have few' : (ls ++ [(z.2, u)]).length ≤ 768 := by
              have := states_few LA7.nd (fun s' hs => by obtain ⟨q, hq, e⟩ := List.mem_map.mp hs; rw [← e]; exact LA7.st q hq) GA.ok.n8 GA.ok.h3
              rw [List.length_map] at this
              exact this
            rw [List.length_append, List.length_singleton] at few'
            rw [List.length_append, List.length_append, List.length_append, List.length_singleton, List.length_singleton]
            omega
end
end RL
/-! games: how long the wish lasts -/
namespace RL
open PySem PySem.Spec PyProof.Rows L2 RLM
/-- no state of the choice is told yet -/
def freeC (fs : List (Stt × Nat)) (c : Nat × List Stt) : Bool := !c.2.any fun s => decide (s ∈ fs.map (·.1))
theorem DNR.same {P : Program} {w : World} {H H' : Hp} {a : Addr} {kvs : List (NestedKey × V)} (s : Same H H') (h : DNR P w H a kvs) : DNR P w H' a kvs := by
  obtain ⟨xs, e, n, z⟩ := h
  refine ⟨xs, ?_, n.keep fun b ys q => s _ _ q, z⟩
  rcases e with e | ⟨o, e⟩
  · exact .inl (s _ _ e)
  · exact .inr ⟨o, s _ _ e⟩
theorem bools_any {α : Type} (f : α → Bool) : ∀ l : List α, (l.map f).any id = l.any f
  | [] => rfl
  | x :: l => by
    rw [List.map_cons, List.any_cons, List.any_cons, bools_any f l]
    rfl
theorem unb_five {G : Gm} (ok : GmOk G) {s : Stt} (S : G.St s) : (G.unb s).length ≤ 5 := by
  have e1 : G.opts s.1 = (fun _ => 0, 0) :: G.hands.getD s.1 [] := rfl
  have e2 : G.hands.getD s.1 [] = G.hands[s.1]'S.1 := by rw [List.getD_eq_getElem?_getD, List.getElem?_eq_getElem S.1]; rfl
  have e3 := (ok.each _ (List.getElem_mem S.1)).1
  unfold Gm.unb
  rw [List.length_map]
  refine Nat.le_trans (List.length_filter_le _ _) ?_
  rw [List.length_range, e1, List.length_cons, e2]
  omega
theorem unb_nine {G : Gm} {s : Stt} : ∀ c ∈ G.unb s, c.2.length ≤ 9 := fun c hc => by
  obtain ⟨i, _, rfl⟩ := List.mem_map.mp hc
  show (G.nexts _ _).length ≤ 9
  unfold Gm.nexts
  rw [List.length_map]
  exact ansS_len _ _
section
variable {P : Program} {w : World} {K : PySem.W.Frag} {mg : Str → Option Value} {base : Heap}
def spLChoice (P : Program) (w : World) : Sp := fun vs H Q _ => ∃ (u d : Addr) (N : Addr → Prop) (cs : List (Nat × List Stt)) (fs : List (Stt × Nat)), vs = [.ref u, .ref d] ∧ UnbAt N H u cs ∧ DNR P w H d (kvS vI fs) ∧ cs.length ≤ 100 ∧ (∀ c ∈ cs, c.2.length ≤ 100) ∧
  (∀ H', Same H H' → cs.find? (freeC fs) = none → Q .non H') ∧ ∀ H' p c, Same H H' → cs.find? (freeC fs) = some c → ChAt N H' p c → Q (.ref p) H'
theorem sc_lasting_choice : FnScope ["choices", "lasts", "choice", "comes_next", "state"] ["choices", "lasts"] (defScope s_lasting_choice) := ⟨rfl, rfl, rfl, by decide +kernel, rfl, by decide +kernel, by decide +kernel⟩
theorem ok_lchoice (T : Tx K mg) : Has P w K mg base (He.ga K "lasting_choice") 1 ["choices", "lasts"] (spLChoice P w) := by
  obtain ⟨fd, F⟩ := T.d_lasting_choice
  refine ⟨⟨fd, F.ok sc_lasting_choice (fun vs H Q E h => ?_) (fun cdv A outer s H vs Q E hr h => ?_), F.bindsN fun _ _ _ _ _ _ us hl => match us, hl with | [_, _], _ => rfl⟩, F.kp⟩
  · obtain ⟨u, d, N, cs, fs, rfl, _⟩ := h
    rfl
  · obtain ⟨u, d, N, cs, fs, rfl, ⟨uN, qs, hu, eq, cq⟩, dn, l1, l2, h0, h1⟩ := h
    refine ⟨_, PSs.nox (pss_cons (ps_for PassesOwn.never rfl (piL (K := K) (pv 0)) (pgT (K := K) (n := 2) rfl (pgs_cons (pg_name (i := 2) sc_lasting_choice.nd rfl (Or.inl rfl)) (pgs_cons (pg_name (i := 3) sc_lasting_choice.nd rfl (Or.inl rfl)) pgs_nil))) (pss_one (ps_if (pt_not (pt_val (pe_callB (anyK (K := K)) (by rfl) T.free_any (by decide +kernel) (pa_cons (pe_lc (own := [("state", 4)]) (g := (gName 4)) (tt := tYes) rfl sc_lasting_choice.nd (piL (K := K) (pv 3)) (blkOk_by (by kernel_rfl)) (fun _ _ _ _ _ => (pg_name (i := 4) sc_lasting_choice.nd rfl (Or.inl rfl))) (fun _ _ _ _ _ => pts_nil) (fun _ _ _ _ _ => (pe_cmpR (inN (P := P) (w := w) (hr9 hr)) (pv 4) (pv 1) (by rfl)))) pa_nil)))) (pss_one (ps_ret (pe_tup (pa_cons (pv 2) (pa_cons (pv 3) pa_nil))))) pss_nil)))
      (pss_one (ps_ret pe_non))), ?_⟩
    have lq : qs.length = cs.length := by rw [← eq, List.length_map]
    refine ⟨_, rfl, u, rfl, ⟨_, SqL.of hu⟩, ?_⟩
    refine for_it (walk_list (K := K) (a := u) (xs := qs.map fun y => V.ref y.1)) (fun i σ H1 => (∃ v2 v3 : Option V, σ = [some (.ref u), some (.ref d), v2, v3, none]) ∧ (∀ c ∈ cs.take i, freeC fs c = false) ∧ Same H H1)
      ⟨⟨_, _, rfl⟩, fun c hc => (by simp at hc), Same.refl _⟩ (fun i σ H1 _ ⟨_, _, s1⟩ => SqL.of (s1 _ _ hu)) ?_ ?_
    · rintro i y σ H1 H2 hi ⟨⟨v2, v3, rfl⟩, fr, s1⟩ ⟨rfl, hy⟩
      rw [List.getElem?_map] at hy
      obtain ⟨q, hq, rfl⟩ := Option.map_eq_some_iff.mp hy
      have hc : cs[i]? = some q.2 := by rw [← eq, List.getElem?_map, hq]; rfl
      obtain ⟨ls, bs, nl, hq1, hq2, ebs, sbs⟩ := (cq q (List.mem_of_getElem? hq)).same s1
      refine ⟨q.1, _, rfl, SqT.of hq1, rfl, _, _, rfl, _, _, rfl, rfl, ?_⟩
      refine ⟨_, rfl, ls, rfl, ⟨_, SqL.of hq2⟩, fun D hD => ?_⟩
      have lb : bs.length = q.2.2.length := by rw [← ebs, List.length_map]
      have lb2 := l2 _ (List.mem_of_getElem? hc)
      refine lc_val (walk_list (K := K) (a := ls) (xs := bs.map fun z => V.ref z.1)) (fun j => .bl ((bs.map fun z => decide (z.2 ∈ fs.map (·.1))).getD j false)) (by rw [List.length_map]; omega) hD (fun H1 s1 => SqL.of (s1 _ _ hq2)) ?_ ?_
      · rintro j y H3 H4 Nx hj s3 ⟨rfl, hy⟩ k
        rw [List.getElem?_map] at hy
        obtain ⟨z, hz, rfl⟩ := Option.map_eq_some_iff.mp hy
        have ek : (bs.map fun z => decide (z.2 ∈ fs.map (·.1))).getD j false = decide (z.2 ∈ fs.map (·.1)) := by
          rw [List.getD_eq_getElem?_getD, List.getElem?_map, hz]
          rfl
        rw [ek] at k
        refine ⟨rfl, _, rfl, _, rfl, d, z.1, kS z.2, _, rfl, rfl, (dn.same s1).same s3, ((sbs z (List.mem_of_getElem? hz)).same s3).key, kS_depth _, ?_⟩
        rw [Bool.false_xor, kvS_in]
        exact k _ (Same.refl _)
      · intro H3 h3 s3
        have eb : H3 D = some (.lst ((bs.map fun z => decide (z.2 ∈ fs.map (·.1))).map V.bl)) := by
          rw [h3, List.length_map]
          congr 2
          have := PyProof.Rows.range_getD (bs.map fun z => decide (z.2 ∈ fs.map (·.1))) false
          rw [List.length_map] at this
          conv => rhs; rw [← this]
          rw [List.map_map]
          rfl
        refine ⟨D, _, rfl, SqL.of eb, _, rfl, ?_⟩
        have ef : (!(bs.map fun z => decide (z.2 ∈ fs.map (·.1))).any id) = freeC fs q.2 := by
          unfold freeC
          rw [bools_any, ← ebs, List.any_map]
          rfl
        show if (!(bs.map fun z => decide (z.2 ∈ fs.map (·.1))).any id) = true then _ else _
        rw [ef]
        have et : cs.take (i + 1) = cs.take i ++ [q.2] := by
          rw [List.take_add_one, hc]
          rfl
        refine ite2 (fun hf => ?_) (fun hf => ?_)
        · refine ⟨_, rfl, _, rfl, (by show 2 ≤ sizeLine; decide), fun p hp => ?_⟩
          have s4 := same_upd (o := HO.tup [.int ((q.2.1 : Int) - 1), .ref ls]) hp
          refine h1 _ p q.2 ((s1.trans s3).trans s4) ?_ ⟨ls, bs, nl, upd_same, (s3.trans s4) _ _ hq2, ebs, fun z hz => ((sbs z hz).same s3).same s4⟩
          have il := (List.getElem?_eq_some_iff.mp hc).1
          rw [← List.take_append_drop i cs, List.find?_append, List.find?_eq_none.mpr (fun c hc' => by rw [fr c hc']; exact Bool.false_ne_true)]
          have ed : cs.drop i = q.2 :: cs.drop (i + 1) := by
            rw [List.drop_eq_getElem_cons il]
            have := List.getElem?_eq_getElem il
            rw [hc] at this
            rw [← Option.some.inj this]
          rw [ed, List.find?_cons, hf]
          rfl
        · refine ⟨⟨_, _, rfl⟩, fun c hc' => ?_, s1.trans s3⟩
          rw [et] at hc'
          rcases List.mem_append.mp hc' with y | y
          · exact fr c y
          · rw [List.mem_singleton.mp y]
            simpa using hf
    · rintro σ H1 ⟨⟨v2, v3, rfl⟩, fr, s1⟩
      rw [List.length_map, lq, List.take_length] at fr
      exact h0 _ s1 (List.find?_eq_none.mpr fun c hc => by rw [fr c hc]; exact Bool.false_ne_true)
/-- which fall: not told yet, and no choice is free of what is told -/
def fallB (G : Gm) (fs : List (Stt × Nat)) (s : Stt) : Bool := !decide (s ∈ fs.map (·.1)) && ((G.unb s).find? (freeC fs)).isNone
def spFalling (P : Program) (w : World) : Sp := fun vs H Q _ => ∃ (a d : Addr) (N : Addr → Prop) (G : Gm) (ls : List (Stt × Addr)) (fs : List (Stt × Nat)), vs = [.ref a, .ref d] ∧ GmOk G ∧ LinksAt P w N H a G ls ∧ DN P w H d (kvS vI fs) ∧ a ≠ d ∧
  ∀ H' r (bs : List (Addr × Stt)), H' r = some (.lst (bs.map fun z => V.ref z.1)) → bs.map (·.2) = (ls.map (·.1)).filter (fallB G fs) → (∀ z ∈ bs, StAt H' z.1 z.2) → H r = none → Same H H' → Q (.ref r) H'
theorem sc_falling_states : FnScope ["links", "lasts", "state"] ["links", "lasts"] (defScope s_falling_states) := ⟨rfl, rfl, rfl, by decide +kernel, rfl, by decide +kernel, by decide +kernel⟩
theorem ok_falling (T : Tx K mg) : Has P w K mg base (He.ga K "falling_states") 2 ["links", "lasts"] (spFalling P w) := by
  obtain ⟨⟨fd_lasting_choice, F_lasting_choice, b_lasting_choice⟩, kp_lasting_choice⟩ := ok_lchoice (P := P) (w := w) (base := base) T
  obtain ⟨fd, F⟩ := T.d_falling_states
  refine ⟨⟨fd, F.ok sc_falling_states (fun vs H Q E h => ?_) (fun cdv A outer s H vs Q E hr h => ?_), F.bindsN fun _ _ _ _ _ _ us hl => match us, hl with | [_, _], _ => rfl⟩, F.kp⟩
  · obtain ⟨a, d, N, G, ls, fs, rfl, _⟩ := h
    rfl
  · obtain ⟨a, d, N, G, ls, fs, rfl, GO, LA, dn, ne, h⟩ := h
    have hr_lasting_choice : Room 1 _ := hr.mono (by decide)
    refine ⟨_, PSs.nox (pss_one (ps_ret (pe_lock (pe_lc (own := [("state", 2)]) (g := (gName 2)) rfl sc_falling_states.nd (pi_keysN (P := P) (w := w) (pv 0)) (blkOk_by (by kernel_rfl)) (fun _ _ _ _ _ => (pg_name (i := 2) sc_falling_states.nd rfl (Or.inl rfl))) (fun _ _ _ _ _ => (pts_one (PW.pt (pw_and (pt_cmpR (notN (P := P) (w := w) (hr9 hr)) (pv 2) (pv 1) (by rfl)) (pw_and1 (pt_cmpR op_isN (pe_call F_lasting_choice hr_lasting_choice rfl T.glo_lasting_choice kp_lasting_choice b_lasting_choice .nil pass0 (pa_cons (pe_nget (hr9 hr) (pv 0) (pv 2) (fun _ _ => rfl)) (pa_cons (pv 1) pa_nil))) pe_non (nomark _))))))) (fun _ _ _ _ _ => (pv 2)))))), ?_⟩
    obtain ⟨xs, ha, nx, ek⟩ := LA.dn
    refine ⟨a, _, ha, True.intro, fun od => ?_⟩
    have ba : ButU a H (upd H a (.frz od (dNo P w a xs))) := fun c o n e => by rw [upd_ne n]; exact e
    have na := LA.dn.not
    have nl : ∀ b, N b → ∀ ys, H b = some (.lst ys) → b ≠ a := fun b _ ys e y => na.2 ys (y ▸ e)
    have ha1 : (upd H a (.frz od (dNo P w a xs))) a = some (.frz od (dNo P w a xs)) := upd_same
    have nx1 : NAll (upd H a (.frz od (dNo P w a xs))) xs := nx.keep fun b ys q => ba _ _ (fun e => na.1 ys (e ▸ q)) q
    have dn1 : DN P w (upd H a (.frz od (dNo P w a xs))) d (kvS vI fs) := dn.but ba na.1 ne.symm
    have un1 : ∀ q ∈ ls, UnbAt N (upd H a (.frz od (dNo P w a xs))) q.2 (G.unb q.1) := fun q hq => (LA.un q hq).but ba na.1 nl
    have back : ∀ H', Same (upd H a (.frz od (dNo P w a xs))) H' → Same H (upd H' a (dNo P w a xs)) := fun H' s c o e => by
      by_cases ec : c = a
      · subst ec
        rw [upd_same, ← e, ha]
      · rw [upd_ne ec]
        exact s _ _ (ba _ _ ec e)
    generalize upd H a (.frz od (dNo P w a xs)) = H1 at ba ha1 nx1 dn1 un1 back
    have len : xs.length = ls.length := by
      have := congrArg List.length ek
      unfold kvN at this
      rw [List.length_map, List.length_map] at this
      exact this
    have few := states_few LA.nd (fun s' hs => by obtain ⟨q, hq, e⟩ := List.mem_map.mp hs; rw [← e]; exact LA.st q hq) GO.n8 GO.h3
    rw [List.length_map] at few
    have dz : DNR P w H1 a (kvS V.ref ls) := ⟨xs, .inr ⟨od, ha1⟩, nx1, ek⟩
    refine ⟨_, rfl, a, od, xs, rfl, ha1, fun D hD => ?_⟩
    refine lc_relF (walk_keysN (P := P) (w := w) (d := a) (o := od) (xs := xs)) (ls.map (·.1)) (fallB G fs) (fun s' v H' => ∃ b, v = .ref b ∧ StAt H' b s') (by rw [List.length_map, len]) (by omega) hD (fun s' v H1 H2 ⟨b, e, z⟩ tk => ⟨b, e, z.tk tk⟩) (fun H2 s2 => s2 _ _ ha1) ?_ ?_
    · rintro i s' y H2 H3 N1 N0 hs s2 ⟨rfl, k, q, v, hx, rfl⟩ k1 k0
      rw [List.getElem?_map] at hs
      obtain ⟨z, hz, rfl⟩ := Option.map_eq_some_iff.mp hs
      have ekv : (k, v) = (kS z.1, V.ref z.2) := by
        have e1 : (kvN xs)[i]? = some (k, v) := by unfold kvN; rw [List.getElem?_map, hx]; rfl
        rw [ek, List.getElem?_map, hz] at e1
        exact (Option.some.inj e1).symm
      obtain ⟨rfl, rfl⟩ := Prod.mk.inj ekv
      have kq := (nx1 _ (List.mem_of_getElem? hx)).1
      have sq : StAt H3 q z.1 := (StAt.of_key kq).same s2
      refine ⟨rfl, _, rfl, _, rfl, d, q, kS z.1, _, rfl, rfl, (dn1.same s2).r, sq.key, kS_depth _, _, rfl, ?_⟩
      rw [kvS_in]
      by_cases hin : z.1 ∈ fs.map (·.1)
      · rw [decide_eq_true hin]
        refine iteF (iteF (k0 _ ?_ (Same.refl _)))
        unfold fallB
        rw [decide_eq_true hin]
        rfl
      · rw [decide_eq_false hin]
        have mz : z ∈ ls := List.mem_of_getElem? hz
        have ef : fallB G fs z.1 = ((G.unb z.1).find? (freeC fs)).isNone := by
          unfold fallB
          rw [decide_eq_false hin]
          rfl
        refine iteT ⟨_, rfl, _, rfl, a, q, kS z.1, _, .ref z.2, rfl, rfl, dz.same s2, sq.key, kS_depth _, kvS_at V.ref LA.nd mz, _, rfl, z.2, d, N, _, fs, rfl, (un1 z mz).same s2, (dn1.same s2).r, Nat.le_trans (unb_five GO (LA.st z mz)) (by decide), fun c hc => Nat.le_trans (unb_nine c hc) (by decide), fun H5 s5 e => ?_, fun H5 p c s5 e ch => ?_⟩
        · refine ⟨rfl, true, by rw [decide_eq_true rfl], iteT ⟨_, rfl, k1 _ _ ?_ ⟨q, rfl, sq.same s5⟩ s5⟩⟩
          rw [ef, e]
          rfl
        · refine ⟨rfl, false, by rw [decide_eq_false (fun z => nomatch z)], iteF (k0 _ ?_ s5)⟩
          rw [ef, e]
          rfl
    · intro H2 ys h2 ey each s2
      obtain ⟨bs, e1, e2, e3⟩ := zip_refs (fun b s' => StAt H2 b s') (ys.map (·.1)) (ys.map (·.2)) (by rw [List.length_map, List.length_map]) fun k y s' hy hs => by
        rw [List.getElem?_map] at hy hs
        obtain ⟨q, hq, rfl⟩ := Option.map_eq_some_iff.mp hy
        rw [hq] at hs
        cases Option.some.inj hs
        exact each q (List.mem_of_getElem? hq)
      have h2a := s2 _ _ ha1
      refine ⟨h2a, h _ D bs ?_ (by rw [e2, ey]) (fun z hz => ?_) ?_ (back H2 s2)⟩
      · rw [upd_ne (ne_of h2 h2a (fun z => nomatch z)), h2, e1]
      · obtain ⟨l, x1, x2⟩ := e3 z hz
        refine ⟨l, ?_, ?_⟩
        · rw [upd_ne (ne_of x1 h2a (fun z => nomatch z))]; exact x1
        · unfold LtAt
          rw [upd_ne (ne_of x2 h2a (fun z => nomatch z))]; exact x2
      · cases e : H D with
        | none => rfl
        | some o =>
          have nDa : D ≠ a := fun e => by rw [e, ha1] at hD; cases hD
          rw [ba _ _ nDa e] at hD
          cases hD
end
end RL
/-! games: how long the wish lasts, all of it -/
namespace RL
open PySem PySem.Spec PyProof.Rows L2 RLM
/-- what is told behind so many beats -/
structure LastI (G : Gm) (L : List Stt) (b : Nat) (fs : List (Stt × Nat)) : Prop where
  nd : (fs.map (·.1)).Nodup
  val : ∀ q ∈ fs, q.1 ∈ L ∧ G.len b q.1 = some q.2
  all : ∀ s ∈ L, G.len b s ≠ none → s ∈ fs.map (·.1)
theorem LastI.in_ {G : Gm} {L : List Stt} {b : Nat} {fs : List (Stt × Nat)} (h : LastI G L b fs) {s : Stt} (hs : s ∈ L) : s ∈ fs.map (·.1) ↔ G.len b s ≠ none := by
  refine ⟨fun k => ?_, h.all s hs⟩
  obtain ⟨q, hq, e⟩ := List.mem_map.mp k
  rw [← e, (h.val q hq).2]
  exact fun z => nomatch z
theorem LastI.fall {G : Gm} {L : List Stt} {b : Nat} {fs : List (Stt × Nat)} (h : LastI G L b fs) (sh : Shut G L) {s : Stt} (hs : s ∈ L) : fallB G fs s = true ↔ G.ok b s = true ∧ G.ok (b + 1) s = false := by
  rw [← falls]
  unfold fallB
  rw [Bool.and_eq_true, Bool.not_eq_true', decide_eq_false_iff_not, h.in_ hs, Option.isNone_iff_eq_none, List.find?_eq_none]
  constructor
  · rintro ⟨h1, h2⟩
    refine ⟨Classical.not_not.mp h1, fun c hc => ?_⟩
    have := h2 c hc
    unfold freeC at this
    simp only [Bool.not_eq_true', Bool.not_eq_false, List.any_eq_true, decide_eq_true_eq] at this
    obtain ⟨s', hs', k⟩ := this
    exact ⟨s', hs', (h.in_ (sh s hs c hc s' hs')).mp k⟩
  · rintro ⟨h1, h2⟩
    refine ⟨fun z => z h1, fun c hc => ?_⟩
    obtain ⟨s', hs', k⟩ := h2 c hc
    unfold freeC
    simp only [Bool.not_eq_true', Bool.not_eq_false, List.any_eq_true, decide_eq_true_eq]
    exact ⟨s', hs', (h.in_ (sh s hs c hc s' hs')).mpr k⟩
theorem LastI.step {G : Gm} {L : List Stt} {b : Nat} {fs : List (Stt × Nat)} (h : LastI G L b fs) (nd : L.Nodup) (sh : Shut G L) : LastI G L (b + 1) (fs ++ (L.filter (fallB G fs)).map fun s => (s, b)) where
  nd := by
    rw [List.map_append, List.map_map]
    refine List.nodup_append.mpr ⟨h.nd, ?_, fun s h1 s' h2 e => ?_⟩
    · have e : ((fun q : Stt × Nat => q.1) ∘ fun s => (s, b)) = id := rfl
      rw [e, List.map_id]
      exact (List.filter_sublist).nodup nd
    · obtain ⟨s2, hs2, rfl⟩ := List.mem_map.mp h2
      have hf := (List.mem_filter.mp hs2).2
      unfold fallB at hf
      rw [Bool.and_eq_true, Bool.not_eq_true', decide_eq_false_iff_not] at hf
      exact hf.1 (by rw [e] at h1; exact h1)
  val := fun q hq => by
    rcases List.mem_append.mp hq with y | y
    · refine ⟨(h.val q y).1, ?_⟩
      rw [len_succ, (h.val q y).2]
    · obtain ⟨s, hs, rfl⟩ := List.mem_map.mp y
      obtain ⟨h1, h2⟩ := List.mem_filter.mp hs
      obtain ⟨k1, k2⟩ := (h.fall sh h1).mp h2
      refine ⟨h1, ?_⟩
      rw [len_succ, (len_none G b s).mpr k1]
      show (if G.ok (b + 1) s = true then none else some b) = some b
      rw [k2]
      rfl
  all := fun s hs ne => by
    rw [List.map_append]
    by_cases k : G.len b s = none
    · rw [len_succ, k] at ne
      have k2 : G.ok (b + 1) s = false := by
        cases e : G.ok (b + 1) s with
        | false => rfl
        | true =>
          exfalso
          apply ne
          show (if G.ok (b + 1) s = true then none else some b) = none
          rw [e]
          rfl
      refine List.mem_append_right _ (List.mem_map.mpr ⟨(s, b), List.mem_map.mpr ⟨s, List.mem_filter.mpr ⟨hs, (h.fall sh hs).mpr ⟨(len_none G b s).mp k, k2⟩⟩, rfl⟩, rfl⟩)
    · exact List.mem_append_left _ (h.all s hs k)
theorem filter_lt {α : Type} (p q : α → Bool) : ∀ (l : List α), (∀ x ∈ l, q x = true → p x = true) → (∃ x ∈ l, p x = true ∧ q x = false) → (l.filter q).length < (l.filter p).length
  | [], _, h => by
    obtain ⟨x, hx, _⟩ := h
    cases hx
  | y :: l, h1, h2 => by
    have le : (l.filter q).length ≤ (l.filter p).length := by
      clear h2
      induction l with
      | nil => exact Nat.le_refl _
      | cons z l ih =>
        have ih := ih fun x hx => h1 x (by rcases List.mem_cons.mp hx with e | e; exact e ▸ List.mem_cons_self ..; exact List.mem_cons_of_mem _ (List.mem_cons_of_mem _ e))
        rw [List.filter_cons, List.filter_cons]
        have k := h1 z (List.mem_cons_of_mem _ (List.mem_cons_self ..))
        cases hq : q z with
        | false =>
          cases hp : p z with
          | false => simpa using ih
          | true => simp; omega
        | true =>
          rw [k hq]
          simpa using ih
    rw [List.filter_cons, List.filter_cons]
    have k := h1 y (List.mem_cons_self ..)
    cases hq : q y with
    | true =>
      rw [k hq]
      obtain ⟨x, hx, hp, hq'⟩ := h2
      have hx' : x ∈ l := by
        rcases List.mem_cons.mp hx with e | e
        · rw [e, hq] at hq'; cases hq'
        · exact e
      have := filter_lt p q l (fun x hx => h1 x (List.mem_cons_of_mem _ hx)) ⟨x, hx', hp, hq'⟩
      simpa using this
    | false =>
      cases hp : p y with
      | true => simp; omega
      | false =>
        obtain ⟨x, hx, hp', hq'⟩ := h2
        have hx' : x ∈ l := by
          rcases List.mem_cons.mp hx with e | e
          · rw [e, hp] at hp'; cases hp'
          · exact e
        have := filter_lt p q l (fun x hx => h1 x (List.mem_cons_of_mem _ hx)) ⟨x, hx', hp', hq'⟩
        simpa using this
section
variable {P : Program} {w : World} {K : PySem.W.Frag} {mg : Str → Option Value} {base : Heap}
def spGLasts (P : Program) (w : World) (K : PySem.W.Frag) : Sp := fun vs H Q _ => ∃ (x a : Addr) (N : Addr → Prop) (G : Gm) (ls : List (Stt × Addr)), vs = [.ref x, .ref a] ∧ GmOk G ∧ LinksAt P w N H a G ls ∧ Shut G (ls.map (·.1)) ∧
  ∀ H' d fs b, DN P w H' d (kvS vI fs) → LastI G (ls.map (·.1)) b fs → (∀ s ∈ ls.map (·.1), G.ok b s = true → G.ok (b + 1) s = true) → H d = none → Same H H' → Q (.ref d) H'
theorem sc_Game_lasts_of : FnScope ["self", "links", "lasts", "beats", "fallen", "state"] ["self", "links"] (defScope s_Game_lasts_of) := ⟨rfl, rfl, rfl, by decide +kernel, rfl, by decide +kernel, by decide +kernel⟩
theorem ok_gLasts (T : Tx K mg) : Has P w K mg base (mC K "Game" "lasts_of") 3 ["self", "links"] (spGLasts P w K) := by
  obtain ⟨⟨fd_falling_states, F_falling_states, b_falling_states⟩, kp_falling_states⟩ := ok_falling (P := P) (w := w) (base := base) T
  obtain ⟨fd, F⟩ := T.d_Game_lasts_of
  refine ⟨⟨fd, F.ok sc_Game_lasts_of (fun vs H Q E h => ?_) (fun cdv A outer s H vs Q E hr h => ?_), F.bindsN fun _ _ _ _ _ _ us hl => match us, hl with | [_, _], _ => rfl⟩, F.kp⟩
  · obtain ⟨x, a, N, G, ls, rfl, _⟩ := h
    rfl
  · obtain ⟨x, a, N, G, ls, rfl, GO, LA, sh, h⟩ := h
    have hr_falling_states : Room 2 _ := hr.mono (by decide)
    refine ⟨_, PSs.nox (pss_cons (ps_set (i := 2) sc_Game_lasts_of.nd rfl (Or.inl rfl) pe_nnew)
      (pss_cons (ps_set (i := 3) sc_Game_lasts_of.nd rfl (Or.inl rfl) pe_int)
      (pss_cons (ps_set (i := 4) sc_Game_lasts_of.nd rfl (Or.inl rfl) (pe_call F_falling_states hr_falling_states rfl T.glo_falling_states kp_falling_states b_falling_states .nil pass0 (pa_cons (pv 1) (pa_cons (pv 2) pa_nil))))
      (pss_cons (ps_while PassesOwn.never (pt_truth (pv 4) (by intro _; rfl)) (pss_cons (ps_for PassesOwn.never rfl (piL (K := K) (pv 4)) (pg_name (i := 5) sc_Game_lasts_of.nd rfl (Or.inl rfl)) (pss_one (ps_nput (hr9 hr) (pv 2) (pv 5) (pv 3) rfl)))
      (pss_cons (ps_aug (i := 3) sc_Game_lasts_of.nd rfl (Or.inl rfl) pe_int ip_add)
      (pss_one (ps_set (i := 4) sc_Game_lasts_of.nd rfl (Or.inl rfl) (pe_call F_falling_states hr_falling_states rfl T.glo_falling_states kp_falling_states b_falling_states .nil pass0 (pa_cons (pv 1) (pa_cons (pv 2) pa_nil))))))))
      (pss_one (ps_ret (pv 2))))))), ?_⟩
    have few := states_few LA.nd (fun s' hs => by obtain ⟨q, hq, e⟩ := List.mem_map.mp hs; rw [← e]; exact LA.st q hq) GO.n8 GO.h3
    show ∀ (d : Addr) (od : HO), H d = none → DN P w (upd H d od) d [] → _
    intro d od hd dn0
    have s1 := same_upd (o := od) hd
    have nad : a ≠ d := fun e => by
      obtain ⟨xs, ea, _⟩ := LA.dn
      rw [e, hd] at ea
      cases ea
    generalize upd H d od = H1 at dn0 s1
    refine ⟨_, rfl, _, rfl, a, d, N, G, ls, [], rfl, GO, LA.same s1, dn0, nad, fun H2 r bs hr eb sb rn s2 => ?_⟩
    have dn2 := dn0.same s2
    have s02 := s1.trans s2
    have bL : bs.length ≤ 768 := by
      have := congrArg List.length eb
      rw [List.length_map] at this
      rw [this]
      exact Nat.le_trans (List.length_filter_le _ _) few
    refine ⟨fun m σ H3 => ∃ (b : Nat) (fs : List (Stt × Nat)) (bs : List (Addr × Stt)) (r : Addr) (v5 : Option V), σ = [some (.ref x), some (.ref a), some (.ref d), some (vI b), some (.ref r), v5] ∧ DN P w H3 d (kvS vI fs) ∧ LastI G (ls.map (·.1)) b fs ∧ H3 r = some (.lst (bs.map fun z => V.ref z.1)) ∧ bs.map (·.2) = (ls.map (·.1)).filter (fallB G fs) ∧ (∀ z ∈ bs, StAt H3 z.1 z.2) ∧ Same H H3 ∧ m = ((ls.map (·.1)).filter (G.ok b)).length,
      ⟨_, 0, [], bs, r, none, rfl, dn2, ⟨List.nodup_nil, fun q hq => (nomatch hq), fun s hs ne => absurd (len_zero G s) ne⟩, hr, eb, sb, s02, rfl⟩, ?_⟩
    clear hr eb sb rn bs r bL
    rintro m σ H3 ⟨b, fs, bs, r, v5, rfl, dn3, LI, hr3, eb, sb, s03, rfl⟩
    have nDr : ∀ ys, H3 d ≠ some (.lst ys) := dn3.not.2
    have nrd : r ≠ d := fun e => nDr _ (e ▸ hr3)
    have few2 : fs.length ≤ 768 := by
      have := nodup_sub_len (fs.map (·.1)) (ls.map (·.1)) LI.nd fun s hs => by
        obtain ⟨q, hq, e⟩ := List.mem_map.mp hs
        rw [← e]
        exact (LI.val q hq).1
      rw [List.length_map] at this
      omega
    refine ⟨_, rfl, !bs.isEmpty, .inl ⟨_, SqL.of hr3, by cases bs <;> rfl⟩, ?_⟩
    cases ebs : bs with
    | nil =>
      refine iteF ⟨_, rfl, h H3 d fs b dn3 LI (fun s hs k => ?_) hd s03⟩
      cases e : G.ok (b + 1) s with
      | true => rfl
      | false =>
        have := List.mem_filter.mpr ⟨hs, (LI.fall sh hs).mpr ⟨k, e⟩⟩
        rw [← eb, ebs] at this
        cases this
    | cons z0 rest =>
      refine iteT ?_
      have z0in : z0.2 ∈ (ls.map (·.1)).filter (fallB G fs) := by rw [← eb, ebs]; exact List.mem_map.mpr ⟨z0, List.mem_cons_self .., rfl⟩
      refine ⟨fun σ H3 => ∃ (fs : List (Stt × Nat)) (bs : List (Addr × Stt)) (r : Addr) (v5 : Option V), σ = [some (.ref x), some (.ref a), some (.ref d), some (vI (b + 1)), some (.ref r), v5] ∧ DN P w H3 d (kvS vI fs) ∧ LastI G (ls.map (·.1)) (b + 1) fs ∧ H3 r = some (.lst (bs.map fun z => V.ref z.1)) ∧ bs.map (·.2) = (ls.map (·.1)).filter (fallB G fs) ∧ (∀ z ∈ bs, StAt H3 z.1 z.2) ∧ Same H H3,
        fun σ' H' ⟨fs, bs, r, v5, e1, e2, e3, e4, e5, e6, e7⟩ => ⟨_, ?_, b + 1, fs, bs, r, v5, e1, e2, e3, e4, e5, e6, e7, rfl⟩, ?_⟩
      · obtain ⟨k1, k2⟩ := List.mem_filter.mp z0in
        obtain ⟨k3, k4⟩ := (LI.fall sh k1).mp k2
        exact filter_lt (G.ok b) (G.ok (b + 1)) _ (fun s _ k => ok_le G b s k) ⟨z0.2, k1, k3, k4⟩
      refine ⟨_, rfl, r, rfl, ⟨_, SqL.of hr3⟩, ?_⟩
      refine for_it (walk_list (K := K) (a := r) (xs := bs.map fun z => V.ref z.1)) (fun i σ H4 => (∃ v5 : Option V, σ = [some (.ref x), some (.ref a), some (.ref d), some (vI b), some (.ref r), v5]) ∧ DN P w H4 d (kvS vI (fs ++ ((bs.take i).map fun z => (z.2, b)))) ∧ ButU d H3 H4)
        ⟨⟨_, rfl⟩, by rw [List.take_zero, List.map_nil, List.append_nil]; exact dn3, fun c o _ h => h⟩ (fun i σ H4 _ ⟨_, _, bu⟩ => SqL.of (bu _ _ nrd hr3)) ?_ ?_
      · rintro i y σ H4 H5 hi ⟨⟨v5, rfl⟩, dn4, bu⟩ ⟨rfl, hy⟩
        rw [List.getElem?_map] at hy
        obtain ⟨z, hz, rfl⟩ := Option.map_eq_some_iff.mp hy
        have sz := (sb z (List.mem_of_getElem? hz)).but bu dn3.not.1
        have et : bs.take (i + 1) = bs.take i ++ [z] := by
          rw [List.take_add_one, hz]
          rfl
        have lb : i < bs.length := (List.getElem?_eq_some_iff.mp hz).1
        have lb2 : bs.length ≤ 768 := by
          have := congrArg List.length eb
          rw [List.length_map] at this
          rw [this]
          exact Nat.le_trans (List.length_filter_le _ _) few
        refine ⟨_, rfl, _, rfl, _, rfl, d, z.1, kS z.2, _, rfl, rfl, dn4, sz.key, kS_depth _, ?_, fun o dn5 => ⟨⟨_, rfl⟩, ?_, fun c o' ne h => by rw [upd_ne ne]; exact bu _ _ ne h⟩⟩
        · rw [List.length_map, List.length_append, List.length_map, List.length_take]
          exact Nat.lt_of_le_of_lt (show fs.length + min i bs.length ≤ 2000 by omega) (by decide)
        · rw [kvS_put vI (s := z.2) (a := b)] at dn5
          · rw [et, List.map_append, ← List.append_assoc]
            exact dn5
          · rw [List.map_append, List.map_map]
            intro hm
            have zin : z.2 ∈ (ls.map (·.1)).filter (fallB G fs) := by rw [← eb]; exact List.mem_map.mpr ⟨z, List.mem_of_getElem? hz, rfl⟩
            rcases List.mem_append.mp hm with y | y
            · have hf := (List.mem_filter.mp zin).2
              unfold fallB at hf
              rw [Bool.and_eq_true, Bool.not_eq_true', decide_eq_false_iff_not] at hf
              exact hf.1 y
            · have ndb : (bs.map (·.2)).Nodup := by rw [eb]; exact (List.filter_sublist).nodup LA.nd
              rw [← List.take_append_drop i bs, List.map_append] at ndb
              have zd : z ∈ bs.drop i := List.mem_iff_getElem?.mpr ⟨0, by rw [List.getElem?_drop]; exact hz⟩
              obtain ⟨y', hy', e⟩ := List.mem_map.mp y
              exact (List.nodup_append.mp ndb).2.2 _ (List.mem_map.mpr ⟨y', hy', rfl⟩) _ (List.mem_map.mpr ⟨z, zd, rfl⟩) e
      · rintro σ H4 ⟨⟨v5, rfl⟩, dn4, bu⟩
        rw [List.length_map, List.take_length] at dn4
        have e4 : (bs.map fun z => (z.2, b)) = ((ls.map (·.1)).filter (fallB G fs)).map fun s => (s, b) := by
          rw [← eb, List.map_map]
          rfl
        rw [e4] at dn4
        have s04 : Same H H4 := fun c o e => bu _ _ (fun z => by rw [z, hd] at e; cases e) (s03 _ _ e)
        have LA4 := LA.same s04
        have LI4 := LI.step LA.nd sh
        refine ⟨_, rfl, _, _, rfl, rfl, ?_⟩
        refine ⟨_, rfl, _, rfl, a, d, N, G, ls, _, rfl, GO, LA4, dn4, nad, fun H5 r' bs' hr' eb' sb' rn' s5 => ?_⟩
        exact ⟨_, bs', r', _, rfl, dn4.same s5, LI4, hr', eb', sb', s04.trans s5⟩
/-- a number of beats, or None -/
abbrev vLast (r : Option Nat) : V := match r with
  | some n => vI n
  | none => .non
def spGLasting (K : PySem.W.Frag) : Sp := fun vs H Q _ => ∃ (c x lt : Addr) (G : Gm) (s : Stt), vs = [.ref x, .ref lt, vI s.1] ∧ GameAt K c H x G ∧ G.St s ∧ LtAt H lt s.2 ∧ ∀ H' r, Same H H' → Lasts G s r → Q (vLast r) H'
theorem sc_Game_lasting : FnScope ["self", "lot", "turn"] ["self", "lot", "turn"] (defScope s_Game_lasting) := ⟨rfl, rfl, rfl, by decide +kernel, rfl, by decide +kernel, by decide +kernel⟩
theorem okf_gLasting (T : Tx K mg) {kws : List (Str × V)} {fd : FuncData} (F : FunD K "lasting" "Game.lasting" (defArgs s_Game_lasting) (defBody s_Game_lasting) (defScope s_Game_lasting) [] kws (mC K "Game" "lasting") fd) : FnOk P w K mg base CX0 7 (mC K "Game" "lasting") fd ["self", "lot", "turn"] (spGLasting K) := by
  obtain ⟨⟨fd_check_lot, F_check_lot, b_check_lot⟩, kp_check_lot⟩ := ok_gLot (P := P) (w := w) (base := base) T
  obtain ⟨⟨fd_check_turn, F_check_turn, b_check_turn⟩, kp_check_turn⟩ := ok_gTurn (P := P) (w := w) (base := base) T
  obtain ⟨⟨fd_lasts_of, F_lasts_of, b_lasts_of⟩, kp_lasts_of⟩ := ok_gLasts (P := P) (w := w) (base := base) T
  obtain ⟨⟨fd_links_from, F_links_from, b_links_from⟩, kp_links_from⟩ := ok_gLinks (P := P) (w := w) (base := base) T
  refine F.ok sc_Game_lasting (fun vs H Q E h => ?_) (fun cdv A outer s H vs Q E hr h => ?_)
  · obtain ⟨c, x, lt, G, s, rfl, _⟩ := h
    rfl
  · obtain ⟨c, x, lt, G, st, rfl, GA, S, ht, h⟩ := h
    have hr_check_lot : Room 6 _ := hr.mono (by decide)
    have hr_check_turn : Room 3 _ := hr.mono (by decide)
    have hr_lasts_of : Room 3 _ := hr.mono (by decide)
    have hr_links_from : Room 4 _ := hr.mono (by decide)
    refine ⟨_, PSs.nox (pss_cons (ps_expr (pe_meth (pv 0) T.cl_Game T.m_Game_check_lot F_check_lot hr_check_lot b_check_lot .nil pass0 (pa_cons (pv 1) pa_nil)))
      (pss_cons (ps_expr (pe_meth (pv 0) T.cl_Game T.m_Game_check_turn F_check_turn hr_check_turn b_check_turn .nil pass0 (pa_cons (pv 2) pa_nil)))
      (pss_one (ps_ret (pe_nget1 (hr9 hr) (pe_meth (pv 0) T.cl_Game T.m_Game_lasts_of F_lasts_of hr_lasts_of b_lasts_of .nil pass0 (pa_cons (pe_meth (pv 0) T.cl_Game T.m_Game_links_from F_links_from hr_links_from b_links_from .nil pass0 (pa_cons (pv 2) (pa_cons (pv 1) pa_nil))) pa_nil)) (pe_tup (pa_cons (pv 2) (pa_cons (pv 1) pa_nil))) ⟨by rfl, by rfl, by rfl, by rfl⟩))))), ?_⟩
    obtain ⟨dx, b, e, o, es, us, E, h1, _⟩ := GA.ex
    refine ⟨_, rfl, x, dx, _, rfl, h1, (by rfl), _, rfl, c, x, lt, G, st, rfl, GA, ht, S, fun H1 s1 => ?_⟩
    refine ⟨_, rfl, x, dx, _, rfl, s1 _ _ h1, (by rfl), _, rfl, c, x, G, st.1, rfl, GA.same s1, S.1, ?_⟩
    refine ⟨_, rfl, x, dx, _, rfl, s1 _ _ h1, (by rfl), _, rfl, x, dx, _, rfl, s1 _ _ h1, (by rfl), _, rfl, _, rfl, c, x, lt, G, st, rfl, GA.same s1, S, s1 _ _ ht, fun H2 a ls LA sh sin an s2 => ?_⟩
    refine ⟨x, a, _, G, ls, rfl, GA.ok, LA, sh, fun H3 d fs b dn LI stab dnn s3 => ?_⟩
    refine ⟨d, rfl, ⟨_, dn.r⟩, _, rfl, _, rfl, (by show 2 ≤ sizeLine; decide), fun p hp => ?_⟩
    have s4 := same_upd (o := HO.tup [vI st.1, .ref lt]) hp
    have s04 := ((s1.trans s2).trans s3).trans s4
    refine ⟨p, kS st, _, rfl, (dn.same s4).r, StAt.key ⟨lt, upd_same, s04 _ _ ht⟩, kS_depth _, ?_⟩
    have ev : (valV (kvS vI fs) (kS st)).getD V.non = vLast (G.len b st) := by
      cases e : G.len b st with
      | some n =>
        have hm : st ∈ fs.map (·.1) := LI.all st sin (by rw [e]; exact fun z => nomatch z)
        obtain ⟨q, hq, rfl⟩ := List.mem_map.mp hm
        have := (LI.val q hq).2
        rw [e] at this
        rw [kvS_at vI LI.nd (s := q.1) (a := n) (by rw [Option.some.inj this]; exact hq)]
        rfl
      | none =>
        have hm : st ∉ fs.map (·.1) := fun z => (LI.in_ sin).mp z e
        have := kvS_in vI st fs
        rw [decide_eq_false hm] at this
        cases k : valV (kvS vI fs) (kS st) with
        | none => rfl
        | some v => rw [k] at this; cases this
    rw [ev]
    exact h _ _ s04 (len_lasts sh stab sin)
theorem ok_gLasting (T : Tx K mg) : HasK P w K mg base (mC K "Game" "lasting") 7 ["self", "lot", "turn"] 2 ["turn"] (spGLasting K) := by
  obtain ⟨fd, F⟩ := T.d_Game_lasting
  exact ⟨⟨fd, okf_gLasting T F, kbindsA F 2 ["turn"] fun _ _ _ _ _ _ us ws h1 h2 => match us, ws, h1, h2 with | [_, _], [_], _, _ => rfl⟩, F.kp⟩
end
end RL
/-! A dict comprehension with two clauses. -/
namespace RL
open PySem PySem.Spec PyProof.Rows L2
section
variable {prog : Program} {w : World} {A : Around} {R : Result → Shared → Prop} {s : Shared} {kx vx ta ia tb ib : Expr} {fa fb : List Expr} {sc : Scope} {pos : Pos} {it : Value} {D : Addr} {env : Env}
/-- the expression -/
abbrev dc2E (kx vx ta ia : Expr) (fa : List Expr) (tb ib : Expr) (fb : List Expr) (sc : Scope) (pos : Pos) : Expr := .DictComp kx vx [⟨ta, ia, fa, 0⟩, ⟨tb, ib, fb, 0⟩] sc pos
/-- the tests of a clause -/
abbrev testsOfD (fs : List Expr) (env : Env) : Sem Bool := forIn fs true fun c r => if r = true then do let ok ← isTrue c env (eval c env); pure (ForInStep.yield ok) else pure (ForInStep.yield r)
theorem turnD2o : compTurn (dc2E kx vx ta ia fa tb ib fb sc pos) 0 it (.ref D) env = (do
      standAt ia.pos
      match ← pyNext it with
      | none => pure (.done .next)
      | some v =>
        letOwnedTupleGo ta it v
        assign ta env v
        let ok ← testsOfD fa env
        if ok then
          let x ← eval ib env
          standAt ib.pos
          let x ← foldedSetIterable ib env x
          let _ ← runOwn (.compStart (dc2E kx vx ta ia fa tb ib fb sc pos) 1 (← holding [x] (pyIter x)) (.ref D) env) env
        again (.compLoop (dc2E kx vx ta ia fa tb ib fb sc pos) 0 it (.ref D) env)) := by rfl
theorem turnD2i : compTurn (dc2E kx vx ta ia fa tb ib fb sc pos) 1 it (.ref D) env = (do
      standAt ib.pos
      match ← pyNext it with
      | none => pure (.done .next)
      | some v =>
        letOwnedTupleGo tb it v
        assign tb env v
        let ok ← testsOfD fb env
        if ok then
          (do
            let kv ← eval kx env
            let vv ← holding [kv] (eval vx env)
            standAt { kx.pos with endLine := vx.pos.endLine, endCol := vx.pos.endCol }
            holding [kv, vv] (dictSet D kv vv))
        again (.compLoop (dc2E kx vx ta ia fa tb ib fb sc pos) 1 it (.ref D) env)) := by rfl
/-- what is noted where it raises -/
abbrev NtD (prog : Program) (w : World) (A : Around) (env : Env) (R : Result → Shared → Prop) : Value → Shared → Prop := notedBy (model prog w) A env fun e s' => R (.error e) s'
theorem loopD2o (hs : ∀ x, foldedSetIterable ib env x = pure x) (J : Nat → Shared → Prop)
    (turn : ∀ n s, J n s → wpAny (model prog w) A (pyNext it) (fun r s1 => match r with
      | none => R (.ok .next) s1
      | some v => wpAny (model prog w) A (letOwnedTupleGo ta it v) (fun _ s2 => wpAny (model prog w) A (assign ta env v) (fun _ s3 => wpAny (model prog w) A (testsOfD fa env) (fun ok s4 =>
            if ok = true then wpAny (model prog w) A (eval ib env) (fun x s5 => wpAny (model prog w) A (pyIter x) (fun jt s6 =>
              codeAny (model prog w) A (.compStart (dc2E kx vx ta ia fa tb ib fb sc pos) 1 jt (.ref D) env) (fun r s' => match r with
                | .ok _ => ∃ m, m < n ∧ J m s'
                | .error _ => False) s6) (NtD prog w A env R) s5) (NtD prog w A env R) s4
            else ∃ m, m < n ∧ J m s4) (NtD prog w A env R) s3) (NtD prog w A env R) s2) (NtD prog w A env R) s1) (NtD prog w A env R) s)
    (n : Nat) (h : J n s) : codeAny (model prog w) A (.compLoop (dc2E kx vx ta ia fa tb ib fb sc pos) 0 it (.ref D) env) R s := by
  refine codeAny_loop rfl J (fun n s hJ => ?_) n h
  show wpAny _ A ((compTurn (dc2E kx vx ta ia fa tb ib fb sc pos) 0 it (.ref D) env).onRaise (fun x => do noteFrame x env; theTreesLotGoes x)) _ _ s
  refine wpAny_noted ?_
  rw [turnD2o]
  refine wpAny_bind (wpAny_standAt (wpAny_bind (wpAny_mono (turn n s hJ) (fun r s1 h1 => ?_) fun _ _ z => z)))
  cases r with
  | none => exact wpAny_pure h1
  | some v =>
    refine wpAny_bind (wpAny_mono h1 (fun _ s2 h2 => wpAny_bind (wpAny_mono h2 (fun _ s3 h3 => wpAny_bind (wpAny_mono h3 (fun ok s4 h4 => ?_) fun _ _ z => z)) fun _ _ z => z)) fun _ _ z => z)
    cases ok with
    | false => exact wpAny_pure ⟨rfl, h4⟩
    | true =>
      refine wpAny_bind (wpAny_mono h4 (fun x s5 h5 => ?_) fun _ _ z => z)
      refine wpAny_bind (wpAny_standAt (wpAny_bind (wpAny_of_eq (hs x) (wpAny_bind (wpAny_holding (wpAny_mono h5 (fun jt s6 h6 => ?_) fun _ _ z => z))))))
      refine wpAny_bind (wpAny_runOwn ?_)
      rw [Around.mark_none]
      refine codeAny_mono h6 fun r s' hr => ?_
      cases r with
      | ok f =>
        first
          | exact wpAny_pure ⟨rfl, hr⟩
          | exact wpAny_bind (wpAny_pure (wpAny_pure ⟨rfl, hr⟩))
      | error e => exact hr.elim
theorem loopD2i (J : Nat → Shared → Prop)
    (turn : ∀ n s, J n s → wpAny (model prog w) A (pyNext it) (fun r s1 => match r with
      | none => R (.ok .next) s1
      | some v => wpAny (model prog w) A (letOwnedTupleGo tb it v) (fun _ s2 => wpAny (model prog w) A (assign tb env v) (fun _ s3 => wpAny (model prog w) A (testsOfD fb env) (fun ok s4 =>
            if ok = true then wpAny (model prog w) A (eval kx env) (fun kv s5 => wpAny (model prog w) A (eval vx env) (fun vv s6 => wpAny (model prog w) A (dictSet D kv vv) (fun _ s7 => ∃ m, m < n ∧ J m s7) (NtD prog w A env R) s6) (NtD prog w A env R) s5) (NtD prog w A env R) s4
            else ∃ m, m < n ∧ J m s4) (NtD prog w A env R) s3) (NtD prog w A env R) s2) (NtD prog w A env R) s1) (NtD prog w A env R) s)
    (n : Nat) (h : J n s) : codeAny (model prog w) A (.compLoop (dc2E kx vx ta ia fa tb ib fb sc pos) 1 it (.ref D) env) R s := by
  refine codeAny_loop rfl J (fun n s hJ => ?_) n h
  show wpAny _ A ((compTurn (dc2E kx vx ta ia fa tb ib fb sc pos) 1 it (.ref D) env).onRaise (fun x => do noteFrame x env; theTreesLotGoes x)) _ _ s
  refine wpAny_noted ?_
  rw [turnD2i]
  refine wpAny_bind (wpAny_standAt (wpAny_bind (wpAny_mono (turn n s hJ) (fun r s1 h1 => ?_) fun _ _ z => z)))
  cases r with
  | none => exact wpAny_pure h1
  | some v =>
    refine wpAny_bind (wpAny_mono h1 (fun _ s2 h2 => wpAny_bind (wpAny_mono h2 (fun _ s3 h3 => wpAny_bind (wpAny_mono h3 (fun ok s4 h4 => ?_) fun _ _ z => z)) fun _ _ z => z)) fun _ _ z => z)
    cases ok with
    | false => exact wpAny_pure ⟨rfl, h4⟩
    | true => exact wpAny_bind (wpAny_bind (wpAny_mono h4 (fun kv s5 h5 => wpAny_bind (wpAny_holding (wpAny_mono h5 (fun vv s6 h6 => wpAny_bind (wpAny_standAt (wpAny_holding (wpAny_mono h6 (fun _ s7 h7 => wpAny_pure ⟨rfl, h7⟩) fun _ _ z => z)))) fun _ _ z => z))) fun _ _ z => z))
theorem startD2 {k : Nat} (hk : k = 0 ∨ k = 1) (h0 : codeAny (model prog w) A (.compLoop (dc2E kx vx ta ia fa tb ib fb sc pos) k it (.ref D) env) R s)
    (h : wpAny (model prog w) A (pyIter it) (fun jt s' => codeAny (model prog w) A (.compLoop (dc2E kx vx ta ia fa tb ib fb sc pos) k jt (.ref D) env) R s') (NtD prog w A env R) s) :
    codeAny (model prog w) A (.compStart (dc2E kx vx ta ia fa tb ib fb sc pos) k it (.ref D) env) R s := by
  refine codeAny_of_tree ?_
  show wpAny _ _ ((compStart (dc2E kx vx ta ia fa tb ib fb sc pos) k it (.ref D) env).onRaise (fun x => do noteFrame x env; standAt theWindowsPlace)) _ _ s
  refine wpAny_notedAt ?_
  rcases hk with e | e
  all_goals
    subst e
    unfold compStart
    show wpAny _ _ (ask >>= _) _ _ s
    refine wpAny_bind (wpAny_askSetting (wpAny_ite ?_))
    split
    · first
        | exact wpAny_bind (wpAny_pure (wpAny_pure (And.intro rfl h0)))
        | exact wpAny_pure (And.intro rfl h0)
    · refine wpAny_bind (wpAny_rule ?_)
      first
        | (show wpAny _ _ (standAt ia.pos >>= _) _ _ s; exact wpAny_bind (wpAny_standAt (wpAny_bind (wpAny_mono h (fun jt s' h' => wpAny_pure (And.intro rfl h')) fun _ _ z => z))))
        | (show wpAny _ _ (standAt ib.pos >>= _) _ _ s; exact wpAny_bind (wpAny_standAt (wpAny_bind (wpAny_mono h (fun jt s' h' => wpAny_pure (And.intro rfl h')) fun _ _ z => z))))
end
section
variable {X : Cx}
/-- the reading: D the new dict -/
def tDc2 (wa : TI) (ga : TG) (fa : TT) (wb : TI) (gb : TG) (fb : TT) (tk tv : TE) (vs vb : List Nat) : TE := fun σ H Q => wa σ H fun J H1 => ∀ D, H1 D = none → ∃ W : Nat → Nat → Hp → Prop, (∃ m, W 0 m (upd H1 D (.dK []))) ∧ ∀ i m H, W i m H →
  (J.stop i H ∧ Q (.ref D) H) ∨ (J.go i H ∧ ∃ Nx : Hp → Prop, (∀ H', Nx H' → ∃ m', m' < m ∧ W (i + 1) m' H') ∧ ∀ x H', J.yld i H x H' → ga x (wipe σ vs) H' fun σ2 H2 => wipe σ2 vs = wipe σ vs ∧ fa σ2 H2 fun b H3 =>
    if b = true then wb σ2 H3 fun J1 H4 => ∃ W1 : Nat → Nat → Hp → Prop, (∃ m, W1 0 m H4) ∧ ∀ j k H, W1 j k H →
      (J1.stop j H ∧ Nx H) ∨ (J1.go j H ∧ ∃ Ny : Hp → Prop, (∀ H', Ny H' → ∃ k', k' < k ∧ W1 (j + 1) k' H') ∧ ∀ x H', J1.yld j H x H' → gb x (wipe σ2 vb) H' fun σ3 H5 => wipe σ3 vb = wipe σ2 vb ∧ fb σ3 H5 fun b H6 =>
        if b = true then tk σ3 H6 fun y H7 => tv σ3 H7 fun z H8 => ∃ (kvs : List (Key × V)) (k : Key), y = kV k ∧ H8 D = some (.dK kvs) ∧ kvs.length < sizeLine ∧ Ny (upd H8 D (.dK (putK kvs k z))) else Ny H6)
    else Nx H3)
theorem dc2_core {pins : List (Addr × Obj)} {s : Shared} {σ : L2.St} {H : Hp} {Q : VK} {use : Option (Value → Sem Unit)} {Qf : Value → Shared → Prop} {pos' : Pos} {kx vx ta ia tb ib : Expr} {ea eb : List Expr} {sc : Scope} {own : List (Str × Nat)} {vs1 : List Nat} {pos : Pos} {wa wb : TI} {ga gb : TG} {fa fb : TT} {tk tv : TE} (hc : X.calm = true) (hN : X.N.Nodup) (I : L2.Inv X pins σ H s) (hi : PI X ta ia wa) (ok : BlkOk X.N X.env.scope sc own) (hv : ∀ i ∈ vs1, i ∈ own.map (·.2))
    (hg : ∀ (s : Shared) (H : Hp) (C : Addr) (cl : List (Str × Addr)) (fp : List Addr), PG (X.blk s H sc (compEnvC sc cl C X.env) fp) ta ga) (ht : ∀ (s : Shared) (H : Hp) (C : Addr) (cl : List (Str × Addr)) (fp : List Addr), PTs (X.blk s H sc (compEnvC sc cl C X.env) fp) ea fa)
    (hi1 : ∀ (s : Shared) (H : Hp) (C : Addr) (cl : List (Str × Addr)) (fp : List Addr), PI (X.blk s H sc (compEnvC sc cl C X.env) fp) tb ib wb)
    (hg1 : ∀ (s : Shared) (H : Hp) (C : Addr) (cl : List (Str × Addr)) (fp : List Addr), PG (X.blk s H sc (compEnvC sc cl C X.env) fp) tb gb) (ht1 : ∀ (s : Shared) (H : Hp) (C : Addr) (cl : List (Str × Addr)) (fp : List Addr), PTs (X.blk s H sc (compEnvC sc cl C X.env) fp) eb fb)
    (hk : ∀ (s : Shared) (H : Hp) (C : Addr) (cl : List (Str × Addr)) (fp : List Addr), PE (X.blk s H sc (compEnvC sc cl C X.env) fp) kx tk)
    (he : ∀ (s : Shared) (H : Hp) (C : Addr) (cl : List (Str × Addr)) (fp : List Addr), PE (X.blk s H sc (compEnvC sc cl C X.env) fp) vx tv) (hs : ∀ x, foldedSetIterable ia X.env x = pure x) (hs1 : ∀ env x, foldedSetIterable ib env x = pure x)
    (h : tDc2 wa ga fa wb gb fb tk tv (own.map (·.2)) vs1 σ H Q)
    (hRR : ∀ D C s' m H', L2.Inv X pins σ H' s' → Q (.ref D) H' → s'.heap.Ns C m → FpOk X pins H' C → compPost (model X.prog X.w) X.A X.xe use Qf (.ref D) C (.ok .next) s') :
    wpAny (model X.prog X.w) X.A (comprehension (dc2E kx vx ta ia ea tb ib eb sc pos) sc X.env pos' newDict false (eval ia X.env) use) Qf X.xe s := by
  have cells : ∀ y ∈ sc.names, y.2 = .free → ∃ c, X.env.cells.lookup y.1 = some c := fun y hy e => (ok.free y hy e).elim (fun k => I.ok.has _ (.inl k)) fun k => I.ok.has _ (.inr k)
  refine wpAny_comprehension_free (use := use) rfl hs (closure_ok cells) ok.kind (fun y hy e => by rw [ok.uniq y hy, e]) (thn (hi.run pins s σ H _ I h) fun xv s1 hx => thn hx fun itv s2 h2 => ?_)
  obtain ⟨it, fp, tn, J, H2, e, I2, T, st2, f2, q⟩ := h2
  subst e
  refine wpAny_newObj_type (newEnv_comp ?_)
  generalize hD : s2.heap.objs.size = D
  obtain ⟨W, ⟨m0, w0⟩, turn⟩ := q D (I2.hok.fresh (Nat.le_of_eq hD))
  generalize hs3 : ({ s2 with heap := s2.heap.push { cls := .type "dict", data := .dict #[] } } : Shared) = s3
  have hp3 : s3.heap = s2.heap.push { cls := .type "dict", data := .dict #[] } := by rw [← hs3]
  have I3 : L2.Inv X pins σ (upd H2 D (.dK [])) s3 := by
    rw [← hs3]
    refine I2.laid (t' := s2.toks) (fun b o e => Heap.get?_push_of_some _ e) (Nat.le_of_eq hD) ?_
    rw [← hD]
    exact dk_empty s2.heap I2.big
  have small : ∀ b ∈ fp, b < s2.heap.objs.size := fun b hb => (T.obj _ _ st2 b hb).elim fun o e => Heap.lt_size e.1
  have f3 : ∀ b ∈ fp, FpOk X pins (upd H2 D (.dK [])) b ∧ b < s3.heap.objs.size := fun b hb => by
    refine ⟨⟨?_, (f2 b hb).2⟩, by rw [hp3, Heap.size_push]; exact Nat.lt_succ_of_lt (small b hb)⟩
    rw [upd_ne (by rw [← hD]; exact Nat.ne_of_lt (small b hb))]
    exact (f2 b hb).1
  have st3 : tn 0 s3.heap := T.keep _ _ _ st2 fun b _ o e => by rw [hp3]; exact Heap.get?_push_of_some _ e
  have I4 := block_start I3 ok hN f3
  generalize hcs : cellsFrom (s3.heap.objs.size + 1) sc.names (cloFrom X.env.cells sc.names []) = cs at I4
  have pg := hg s3 (upd H2 D (.dK [])) s3.heap.objs.size cs fp
  have pt := ht s3 (upd H2 D (.dK [])) s3.heap.objs.size cs fp
  have pk := hk s3 (upd H2 D (.dK [])) s3.heap.objs.size cs fp
  have pe := he s3 (upd H2 D (.dK [])) s3.heap.objs.size cs fp
  have qi := hi1 s3 (upd H2 D (.dK [])) s3.heap.objs.size cs fp
  have qg := hg1 s3 (upd H2 D (.dK [])) s3.heap.objs.size cs fp
  have qt := ht1 s3 (upd H2 D (.dK [])) s3.heap.objs.size cs fp
  show codeAny _ _ (.compStart (dc2E kx vx ta ia ea tb ib eb sc pos) 0 (.ref it) (.ref D) (compEnvC sc cs s3.heap.objs.size X.env)) (compPost (model X.prog X.w) X.A X.xe use Qf (.ref D) s3.heap.objs.size) { s3 with heap := pushCells (s3.heap.push { cls := .type "dict", data := .dict #[] }) sc.names }
  have nfp : ∀ b ∈ fp, (upd H2 D (.dK [])) b = none := fun b hb => (f3 b hb).1.1
  generalize hce : compEnvC sc cs s3.heap.objs.size X.env = ce at I4 pg pt pk pe qi qg qt ⊢
  have cL : ce.locals = s3.heap.objs.size := by subst hce; rfl
  generalize hH3 : upd H2 D (.dK []) = H3 at I3 I4 pg pt pk pe qi qg qt w0 nfp f3
  generalize hs4 : ({ s3 with heap := pushCells (s3.heap.push { cls := .type "dict", data := .dict #[] }) sc.names } : Shared) = s4 at I4 ⊢
  have st4 : tn 0 s4.heap := T.keep _ _ _ st3 fun b _ o e => by rw [← hs4]; exact pushCells_keeps _ _ _ _ (Heap.get?_push_of_some _ e)
  generalize hv0 : wipe σ (own.map (·.2)) = σ0 at I4 turn
  have len0 : σ0.length = σ.length := by rw [← hv0, wipe_length]
  have stat : ∀ {τ : L2.St} {H' : Hp} {s' : Shared}, L2.Inv (X.blk s3 H3 sc ce fp) [] τ H' s' → (∀ b ∈ fp, H' b = none) → ∀ b ∈ fp, FpOk (X.blk s3 H3 sc ce fp) [] H' b := fun {τ H' s'} I' hn b hb =>
    ⟨hn b hb, (I'.ok.exf b hb).1, I'.ok.exfs b hb, .inl hb, fun x c e => (I'.ok.exf b hb).2 x c e, fun p hp => absurd (show p ∈ ([] : List (Addr × Obj)) ++ [] from hp) (by simp)⟩
  -- between the turns of the first clause
  let Jo : Nat → Shared → Prop := fun n s' => ∃ i H', L2.Inv (X.blk s3 H3 sc ce fp) [] σ0 H' s' ∧ tn i s'.heap ∧ (∀ b ∈ fp, H' b = none) ∧ W i n H'
  have main : codeAny (model X.prog X.w) X.A (.compLoop (dc2E kx vx ta ia ea tb ib eb sc pos) 0 (.ref it) (.ref D) ce) (compPost (model X.prog X.w) X.A X.xe use Qf (.ref D) s3.heap.objs.size) s4 := by
    refine loopD2o (hs1 ce) Jo ?_ m0 ⟨0, H3, I4, st4, nfp, w0⟩
    rintro n s5 ⟨i, H5, I5, st5, n5, w5⟩
    rcases turn i n H5 w5 with ⟨stop, qq⟩ | ⟨go, Nx, hNx, step⟩
    · refine thnF (T.done (X.blk s3 H3 sc ce fp) rfl rfl rfl hc i [] s5 _ H5 (fun _ _ => False) I5 (stat I5 n5) st5 stop) fun r s6 ⟨hr, I6⟩ => ?_
      subst hr
      have I7 : L2.Inv X pins σ H5 s6 := I3.call' (ch := fp) I6.os I6.base I6.hok I6.bare fun b hb => ⟨(f3 b hb).1.2.2.2.1, (f3 b hb).1.2.1, (f3 b hb).1.2.2.2.2.1, (f3 b hb).1.2.2.2.2.2⟩
      have nC : H5 s3.heap.objs.size = none := by
        rw [← cL]
        exact I6.free
      obtain ⟨m, hn, _⟩ := I6.loc
      have hn : s6.heap.Ns ce.locals m := hn
      rw [cL] at hn
      exact hRR D s3.heap.objs.size s6 m H5 I7 qq hn (I3.fpOk (Nat.le_refl _) nC)
    · refine thnF (T.item (X.blk s3 H3 sc ce fp) rfl rfl rfl hc i [] s5 _ H5 (fun _ _ => False) I5 (stat I5 n5) st5 go) fun r s6 ⟨u, hr, h6⟩ => ?_
      subst hr
      refine thnF h6 fun _ s7 ⟨x, H7, I7, r7, y7, st7, n7⟩ => ?_
      have I7p := I7.pinned (stat I7 n7) (T.obj _ _ st7)
      refine thnF (pg.run _ s7 _ H7 x u _ I7p r7 (step x H7 y7)) fun _ s8 ⟨σ8, H8, I8, hw8, q8⟩ => ?_
      refine thnF (pt.run _ s8 σ8 H8 _ I8 q8) fun b s9 ⟨H9, I9, q9⟩ => ?_
      have back : ∀ {τ : L2.St} {s' : Shared} {H' : Hp}, L2.Inv (X.blk s3 H3 sc ce fp) ([] ++ pinsAt fp s7.heap) τ H' s' → σ0.length = τ.length → (∀ (j : Nat) v, σ0[j]? = some (some v) → τ[j]? = some (some v)) → Nx H' → ∃ m, m < n ∧ Jo m s' := fun {τ s' H'} I' hl hk nx => by
        obtain ⟨m1, hm, w1⟩ := hNx H' nx
        have pin : ∀ b ∈ fp, ∀ o, s7.heap.get? b = some o → s'.heap.get? b = some o ∧ H' b = none := fun b hb o e =>
          let z := I'.pin (b, o) (List.mem_append_right _ (List.mem_append_right _ (mem_pinsAt hb e)))
          ⟨z.1, z.2.1⟩
        refine ⟨m1, hm, i + 1, H', (I'.unpinned (pins := [])).weak hl hk, T.keep _ _ _ st7 fun b hb o e => (pin b hb o e).1, fun b hb => ?_, w1⟩
        obtain ⟨o, e, _⟩ := T.obj _ _ st7 b hb
        exact (pin b hb o e).2
      have l8 : σ0.length = σ8.length := by rw [← hw8, wipe_length]
      have k8 : ∀ (j : Nat) v, σ0[j]? = some (some v) → σ8[j]? = some (some v) ∧ (wipe σ8 vs1)[j]? = some (some v) := fun j v e => by
        rw [← hw8] at e
        obtain ⟨e1, e2⟩ := wipe_some e
        refine ⟨e1, ?_⟩
        rw [wipe_out fun z => e2 (hv j z)]
        exact e1
      cases b with
      | false =>
        simp only [Bool.false_eq_true, if_false] at q9 ⊢
        exact back I9 l8 (fun j v e => (k8 j v e).1) q9
      | true =>
        simp only [if_true] at q9 ⊢
        refine thnF (qi.run _ s9 σ8 H9 _ I9 q9) fun xv s10 hx => thnF hx fun itv s11 h11 => ?_
        obtain ⟨jt, fq, tq, J1, H11, e1, I11, T1, st11, f11, W1, ⟨m1, w1⟩, turn1⟩ := h11
        subst e1
        have stat1 : ∀ {H' : Hp}, (∀ b ∈ fq, H' b = none) → ∀ b ∈ fq, FpOk (X.blk s3 H3 sc ce fp) ([] ++ pinsAt fp s7.heap) H' b := fun hn b hb => ⟨hn b hb, (f11 b hb).2⟩
        let Ji : Nat → Shared → Prop := fun k s' => ∃ j H', L2.Inv (X.blk s3 H3 sc ce fp) ([] ++ pinsAt fp s7.heap) (wipe σ8 vs1) H' s' ∧ tq j s'.heap ∧ (∀ b ∈ fq, H' b = none) ∧ W1 j k H'
        have inner : codeAny (model X.prog X.w) X.A (.compLoop (dc2E kx vx ta ia ea tb ib eb sc pos) 1 (.ref jt) (.ref D) ce) (fun r s' => match r with
              | .ok _ => ∃ m, m < n ∧ Jo m s'
              | .error _ => False) s11 := by
          refine loopD2i Ji ?_ m1 ⟨0, H11, I11.weak (wipe_length _ _) (fun j v e => (wipe_some e).1), st11, fun b hb => (f11 b hb).1, w1⟩
          rintro k s12 ⟨j, H12, I12, st12, n12, w12⟩
          rcases turn1 j k H12 w12 with ⟨stop1, nx1⟩ | ⟨go1, Ny, hNy, step1⟩
          · refine thnF (T1.done (X.blk s3 H3 sc ce fp) rfl rfl rfl hc j _ s12 (wipe σ8 vs1) H12 (fun _ _ => False) I12 (stat1 n12) st12 stop1) fun r s13 ⟨hr, I13⟩ => ?_
            subst hr
            exact back I13 (l8.trans (wipe_length σ8 vs1).symm) (fun j v e => (k8 j v e).2) nx1
          · refine thnF (T1.item (X.blk s3 H3 sc ce fp) rfl rfl rfl hc j _ s12 (wipe σ8 vs1) H12 (fun _ _ => False) I12 (stat1 n12) st12 go1) fun r s13 ⟨u1, hr, h13⟩ => ?_
            subst hr
            refine thnF h13 fun _ s14 ⟨x1, H14, I14, r14, y14, st14, n14⟩ => ?_
            have I14p := I14.pinned (stat1 n14) (T1.obj _ _ st14)
            refine thnF (qg.run _ s14 (wipe σ8 vs1) H14 x1 u1 _ I14p r14 (step1 x1 H14 y14)) fun _ s15 ⟨σ15, H15, I15, hw15, q15⟩ => ?_
            refine thnF (qt.run _ s15 σ15 H15 _ I15 q15) fun b1 s16 ⟨H16, I16, q16⟩ => ?_
            have back1 : ∀ {s' : Shared} {H' : Hp}, L2.Inv (X.blk s3 H3 sc ce fp) (([] ++ pinsAt fp s7.heap) ++ pinsAt fq s14.heap) σ15 H' s' → Ny H' → ∃ m, m < k ∧ Ji m s' := fun {s' H'} I' nx => by
              obtain ⟨m2, hm, w2⟩ := hNy H' nx
              have pin : ∀ b ∈ fq, ∀ o, s14.heap.get? b = some o → s'.heap.get? b = some o ∧ H' b = none := fun b hb o e =>
                let z := I'.pin (b, o) (List.mem_append_right _ (List.mem_append_right _ (mem_pinsAt hb e)))
                ⟨z.1, z.2.1⟩
              refine ⟨m2, hm, j + 1, H', I'.unpinned.weak (by rw [← hw15, wipe_length]) (fun j v e => by rw [← hw15] at e; exact (wipe_some e).1), T1.keep _ _ _ st14 fun b hb o e => (pin b hb o e).1, fun b hb => ?_, w2⟩
              obtain ⟨o, e, _⟩ := T1.obj _ _ st14 b hb
              exact (pin b hb o e).2
            cases b1 with
            | false =>
              simp only [Bool.false_eq_true, if_false] at q16 ⊢
              exact back1 I16 q16
            | true =>
              simp only [if_true] at q16 ⊢
              refine thnF (pk.run _ s16 σ15 H16 _ I16 q16) fun z s17 ⟨yk, H17, I17, r17, q17⟩ => ?_
              refine thnF (pe.run _ s17 σ15 H17 _ I17 q17) fun z2 s18 ⟨yv, H18, I18, r18, kvs, ky, ek, hD18, hz18, nx⟩ => ?_
              subst ek
              exact d_dictSet (X := X.blk s3 H3 sc ce fp) I18 hD18 hz18 r17 r18 fun s19 I19 => back1 I19 nx
        exact startD2 (.inr rfl) inner (T1.self X.A 0 _ _ _ st11 inner)
  exact startD2 (.inl rfl) main (T.self X.A 0 _ _ _ st4 main)
theorem pe_dc2 {kx vx ta ia tb ib : Expr} {ea eb : List Expr} {sc : Scope} {own : List (Str × Nat)} {vs1 : List Nat} {pos : Pos} {wa wb : TI} {ga gb : TG} {fa fb : TT} {tk tv : TE} (hc : X.calm = true) (hN : X.N.Nodup) (hi : PI X ta ia wa) (ok : BlkOk X.N X.env.scope sc own) (hv : ∀ i ∈ vs1, i ∈ own.map (·.2))
    (hg : ∀ (s : Shared) (H : Hp) (C : Addr) (cl : List (Str × Addr)) (fp : List Addr), PG (X.blk s H sc (compEnvC sc cl C X.env) fp) ta ga) (ht : ∀ (s : Shared) (H : Hp) (C : Addr) (cl : List (Str × Addr)) (fp : List Addr), PTs (X.blk s H sc (compEnvC sc cl C X.env) fp) ea fa)
    (hi1 : ∀ (s : Shared) (H : Hp) (C : Addr) (cl : List (Str × Addr)) (fp : List Addr), PI (X.blk s H sc (compEnvC sc cl C X.env) fp) tb ib wb)
    (hg1 : ∀ (s : Shared) (H : Hp) (C : Addr) (cl : List (Str × Addr)) (fp : List Addr), PG (X.blk s H sc (compEnvC sc cl C X.env) fp) tb gb) (ht1 : ∀ (s : Shared) (H : Hp) (C : Addr) (cl : List (Str × Addr)) (fp : List Addr), PTs (X.blk s H sc (compEnvC sc cl C X.env) fp) eb fb)
    (hk : ∀ (s : Shared) (H : Hp) (C : Addr) (cl : List (Str × Addr)) (fp : List Addr), PE (X.blk s H sc (compEnvC sc cl C X.env) fp) kx tk)
    (he : ∀ (s : Shared) (H : Hp) (C : Addr) (cl : List (Str × Addr)) (fp : List Addr), PE (X.blk s H sc (compEnvC sc cl C X.env) fp) vx tv) (hs : ∀ x, foldedSetIterable ia X.env x = pure x := by intro _; rfl) (hs1 : ∀ env x, foldedSetIterable ib env x = pure x := by intro _ _; rfl) :
    PE X (dc2E kx vx ta ia ea tb ib eb sc pos) (tDc2 wa ga fa wb gb fb tk tv (own.map (·.2)) vs1) := by
  refine ⟨fun pins s σ H Q I h => ?_⟩
  rw [arm_eval_DictComp]
  refine dc2_core hc hN I hi ok hv hg ht hi1 hg1 ht1 hk he hs hs1 h fun D C s' m H' I' q hn f => ⟨m, hn, fun h'' sb => ?_⟩
  obtain ⟨f0, f1, f2, f3, f4, f5⟩ := f
  exact ⟨.ref D, H', I'.turned (t' := s'.toks) (fun b o hb e => (sb.2 b hb).trans e) f0 f1 f3 f4 f5, rfl, q⟩
theorem ps_setDc2 {i : Nat} {y : Str} {py spos : Pos} {kx vx ta ia tb ib : Expr} {ea eb : List Expr} {sc : Scope} {own : List (Str × Nat)} {vs1 : List Nat} {pos : Pos} {wa wb : TI} {ga gb : TG} {fa fb : TT} {tk tv : TE} (hc : X.calm = true) (hN : X.N.Nodup) (hy : X.N[i]? = some y) (hyl : X.env.scope.names.lookup y = some .local) (hsw : swapsWith (dc2E kx vx ta ia ea tb ib eb sc pos) (some (.Name y py)) spos.line X.env = pure true) (hi : PI X ta ia wa) (ok : BlkOk X.N X.env.scope sc own) (hv : ∀ i ∈ vs1, i ∈ own.map (·.2))
    (hg : ∀ (s : Shared) (H : Hp) (C : Addr) (cl : List (Str × Addr)) (fp : List Addr), PG (X.blk s H sc (compEnvC sc cl C X.env) fp) ta ga) (ht : ∀ (s : Shared) (H : Hp) (C : Addr) (cl : List (Str × Addr)) (fp : List Addr), PTs (X.blk s H sc (compEnvC sc cl C X.env) fp) ea fa)
    (hi1 : ∀ (s : Shared) (H : Hp) (C : Addr) (cl : List (Str × Addr)) (fp : List Addr), PI (X.blk s H sc (compEnvC sc cl C X.env) fp) tb ib wb)
    (hg1 : ∀ (s : Shared) (H : Hp) (C : Addr) (cl : List (Str × Addr)) (fp : List Addr), PG (X.blk s H sc (compEnvC sc cl C X.env) fp) tb gb) (ht1 : ∀ (s : Shared) (H : Hp) (C : Addr) (cl : List (Str × Addr)) (fp : List Addr), PTs (X.blk s H sc (compEnvC sc cl C X.env) fp) eb fb)
    (hk : ∀ (s : Shared) (H : Hp) (C : Addr) (cl : List (Str × Addr)) (fp : List Addr), PE (X.blk s H sc (compEnvC sc cl C X.env) fp) kx tk)
    (he : ∀ (s : Shared) (H : Hp) (C : Addr) (cl : List (Str × Addr)) (fp : List Addr), PE (X.blk s H sc (compEnvC sc cl C X.env) fp) vx tv) (hs : ∀ x, foldedSetIterable ia X.env x = pure x := by intro _; rfl) (hs1 : ∀ env x, foldedSetIterable ib env x = pure x := by intro _ _; rfl) :
    PS X (.Assign [.Name y py] (dc2E kx vx ta ia ea tb ib eb sc pos) spos) (tAsg (tDc2 wa ga fa wb gb fb tk tv (own.map (·.2)) vs1) (gName i)) := by
  refine ⟨fun pins s σ H D I h => ?_⟩
  rw [exec_Assign_Name_used _ _ _ _ hsw]
  refine wpAny_bind (wpAny_standAt (wpAny_bind ?_))
  show wpAny _ X.A (do let _ ← comprehension (dc2E kx vx ta ia ea tb ib eb sc pos) sc X.env (firstIterPos [⟨ta, ia, ea, 0⟩, ⟨tb, ib, eb, 0⟩] pos) newDict false (eval ia X.env) (some (assign (.Name y py) X.env))) _ _ s
  have h : tDc2 wa ga fa wb gb fb tk tv (own.map (·.2)) vs1 σ H (fun x H1 => gName i x σ H1 D.nx) := h
  refine wpAny_bind (thn (dc2_core (Qf := fun _ s' => SP X pins D .next s') hc hN I hi ok hv hg ht hi1 hg1 ht1 hk he hs hs1 h fun L C s' m H' I' q hn f => ?_) fun _ s' hq => wpAny_pure (wpAny_pure hq))
  show wpAny _ _ (assign (.Name y py) X.env (.ref L)) _ _ _
  refine wpAny_assign_Name (store_ok2 (v := V.ref L) I' hN hy (.inl hyl) rfl (fun s2 I2 ⟨a, sb, ha⟩ => ?_) (.inr hyl))
  obtain ⟨f0, f1, f2, f3, f4, f5⟩ := f
  have haC : C ≠ a := by
    rcases ha with z | z
    · rw [z]; exact f1
    · exact fun e => f4 y a z e.symm
  refine ⟨m, hn.sameBut sb haC, fun h3 sb3 => ?_⟩
  exact ⟨_, H', I2.turned (t' := s2.toks) (fun b o hb e => (sb3.2 b hb).trans e) f0 f1 f3 f4 f5, q⟩
theorem ps_setDc {i : Nat} {y : Str} {py spos : Pos} {kx vx tg iter : Expr} {ifs : List Expr} {scope : Scope} {own : List (Str × Nat)} {pos : Pos} {wi : TI} {g : TG} {tt : TT} {tk tv : TE} (hc : X.calm = true) (hN : X.N.Nodup) (hy : X.N[i]? = some y) (hyl : X.env.scope.names.lookup y = some .local)
    (hsw : swapsWith (.DictComp kx vx [⟨tg, iter, ifs, 0⟩] scope pos) (some (.Name y py)) spos.line X.env = pure true) (hi : PI X tg iter wi) (ok : BlkOk X.N X.env.scope scope own)
    (hg : ∀ (s : Shared) (H : Hp) (C : Addr) (cl : List (Str × Addr)) (fp : List Addr), PG (X.blk s H scope (compEnvC scope cl C X.env) fp) tg g) (ht : ∀ (s : Shared) (H : Hp) (C : Addr) (cl : List (Str × Addr)) (fp : List Addr), PTs (X.blk s H scope (compEnvC scope cl C X.env) fp) ifs tt)
    (hk : ∀ (s : Shared) (H : Hp) (C : Addr) (cl : List (Str × Addr)) (fp : List Addr), PE (X.blk s H scope (compEnvC scope cl C X.env) fp) kx tk)
    (he : ∀ (s : Shared) (H : Hp) (C : Addr) (cl : List (Str × Addr)) (fp : List Addr), PE (X.blk s H scope (compEnvC scope cl C X.env) fp) vx tv) (hs : ∀ x, foldedSetIterable iter X.env x = pure x := by intro _; rfl) :
    PS X (.Assign [.Name y py] (.DictComp kx vx [⟨tg, iter, ifs, 0⟩] scope pos) spos) (tAsg (tDc wi g tt tk tv (own.map (·.2))) (gName i)) := by
  refine ⟨fun pins s σ H D I h => ?_⟩
  rw [exec_Assign_Name_used _ _ _ _ hsw]
  refine wpAny_bind (wpAny_standAt (wpAny_bind ?_))
  show wpAny _ X.A (do let _ ← comprehension (.DictComp kx vx [⟨tg, iter, ifs, 0⟩] scope pos) scope X.env (firstIterPos [⟨tg, iter, ifs, 0⟩] pos) newDict false (eval iter X.env) (some (assign (.Name y py) X.env))) _ _ s
  have h : tDc wi g tt tk tv (own.map (·.2)) σ H (fun x H1 => gName i x σ H1 D.nx) := h
  refine wpAny_bind (thn (dc_core (Qf := fun _ s' => SP X pins D .next s') hc hN I hi ok hg ht hk he hs h fun L C s' m H' I' q hn f => ?_) fun _ s' hq => wpAny_pure (wpAny_pure hq))
  show wpAny _ _ (assign (.Name y py) X.env (.ref L)) _ _ _
  refine wpAny_assign_Name (store_ok2 (v := V.ref L) I' hN hy (.inl hyl) rfl (fun s2 I2 ⟨a, sb, ha⟩ => ?_) (.inr hyl))
  obtain ⟨f0, f1, f2, f3, f4, f5⟩ := f
  have haC : C ≠ a := by
    rcases ha with z | z
    · rw [z]; exact f1
    · exact fun e => f4 y a z e.symm
  refine ⟨m, hn.sameBut sb haC, fun h3 sb3 => ?_⟩
  exact ⟨_, H', I2.turned (t' := s2.toks) (fun b o hb e => (sb3.2 b hb).trans e) f0 f1 f3 f4 f5, q⟩
theorem swd_true {kx vx : Expr} {gs : List Comprehension} {scope : Scope} {pos py : Pos} {y : Str} {l : Nat} {env : Env} (hk : env.scope.kind = .function) (hy : env.scope.names.lookup y = some .local) (hl : (py.line == pos.line) = true)
    (ha : (scope.names.any fun (n, k) => n == y && (k == .local || k == .cell)) = false) : swapsWith (.DictComp kx vx gs scope pos) (some (.Name y py)) l env = pure true := by
  have ky : env.kindOf y = some .local := hy
  have hb : env.blockKind = .function := by unfold Env.blockKind; rw [hk]; rfl
  unfold swapsWith
  simp only [hb, ky, ha, Expr.pos, hl]
  rfl
end
end RL
/-! A dict comprehension with one clause whose keys are nested tuples. -/
namespace RL
open PySem PySem.Spec PyProof.Rows L2
section
variable {X : Cx} {pins : List (Addr × Obj)} {σ : L2.St} {H : Hp} {s : Shared} {a b : Addr} {k : NestedKey} {v d : V} {kvs : List (NestedKey × V)} {u r : Value} {A : Around} {E : Value → Shared → Prop}
theorem n_dictSet {Q : Unit → Shared → Prop} (hu : A.units + 9 < cLine) (I : L2.Inv X pins σ H s) (g : DN X.prog X.w H a kvs) (hk : NKy H k (.ref b)) (hd : k.depth ≤ 8) (rv : RelV v r) (hl : kvs.length < sizeLine)
    (h : ∀ s' o, L2.Inv X pins σ (upd H a o) s' → DN X.prog X.w (upd H a o) a (putK kvs k v) → Q () s') : wpAny (model X.prog X.w) A (dictSet a (.ref b) r) Q E s := by
  obtain ⟨xs, e, n, z⟩ := g
  obtain ⟨l, hs, ys, rel, dd⟩ := n_rdx I (.inl e) n
  have lx : xs.length = kvs.length := by rw [← z]; unfold kvN; rw [List.length_map]
  have ly : xs.length = ys.length := Paired.length rel
  refine wpAny_dictSet_heap (hsz := by omega) (show A.units + 8 < cLine by omega) (n_is I hk hd) dd fun h' dd' hss => ?_
  obtain ⟨q, es', ep', hq, h2', h3', h4', _, h5'⟩ := dd'
  have nt : ∀ zs, dNo X.prog X.w a xs ≠ .tup zs := fun zs y => nomatch y
  refine h _ (dNo X.prog X.w a (putE xs k b v)) ?_ ⟨putE xs k b v, upd_same, (NAll.putE n hk hd).put e nt, by rw [kvN_put, z]⟩
  have pl : (putE xs k b v).length ≤ sizeLine := by
    have h1 : (putE xs k b v).length = (putK kvs k v).length := by
      rw [← z, ← kvN_put]
      unfold kvN
      rw [List.length_map]
    have h2 := length_putK kvs k v
    omega
  exact d_write (ob := dNo X.prog X.w a (putE xs k b v)) I (by rw [e]; exact True.intro) hss ⟨q, hq⟩ ⟨⟨pl, hs, _, rel.put k rv, q, es', ep', hq, h2', h3', h4', h5'⟩, ⟨q, hq⟩, fun h1 h2 ph kp => by
    obtain ⟨p1, p2, ys2, p3, o2, es2, ep2, p4, p5⟩ := ph
    exact ⟨p1, p2, ys2, p3, o2, es2, ep2, kp _ p4, p5⟩⟩
end
section
variable {X : Cx}
/-- the reading: D the new dict -/
def tDcN (P : Program) (w : World) (wa : TI) (ga : TG) (fa : TT) (tk tv : TE) (vs : List Nat) : TE := fun σ H Q => wa σ H fun J H1 => ∀ D o, H1 D = none → DN P w (upd H1 D o) D [] → ∃ W : Nat → Nat → Hp → Prop, (∃ m, W 0 m (upd H1 D o)) ∧ ∀ i m H, W i m H →
  (J.stop i H ∧ Q (.ref D) H) ∨ (J.go i H ∧ ∃ Nx : Hp → Prop, (∀ H', Nx H' → ∃ m', m' < m ∧ W (i + 1) m' H') ∧ ∀ x H', J.yld i H x H' → ga x (wipe σ vs) H' fun σ2 H2 => wipe σ2 vs = wipe σ vs ∧ fa σ2 H2 fun b H3 =>
    if b = true then tk σ2 H3 fun y H4 => tv σ2 H4 fun z H5 => ∃ (kb : Addr) (k : NestedKey) (kvs : List (NestedKey × V)), y = .ref kb ∧ DN P w H5 D kvs ∧ NKy H5 k (.ref kb) ∧ k.depth ≤ 8 ∧ kvs.length < sizeLine ∧ ∀ o, DN P w (upd H5 D o) D (putK kvs k z) → Nx (upd H5 D o) else Nx H3)
theorem dcN_core {pins : List (Addr × Obj)} {s : Shared} {σ : L2.St} {H : Hp} {Q : VK} {use : Option (Value → Sem Unit)} {Qf : Value → Shared → Prop} {pos' : Pos} {kx vx ta ia : Expr} {ea : List Expr} {sc : Scope} {own : List (Str × Nat)} {pos : Pos} {wa : TI} {ga : TG} {fa : TT} {tk tv : TE} (hu : X.A.units + 9 < cLine) (hc : X.calm = true) (hN : X.N.Nodup) (I : L2.Inv X pins σ H s) (hi : PI X ta ia wa) (ok : BlkOk X.N X.env.scope sc own)
    (hg : ∀ (s : Shared) (H : Hp) (C : Addr) (cl : List (Str × Addr)) (fp : List Addr), PG (X.blk s H sc (compEnvC sc cl C X.env) fp) ta ga) (ht : ∀ (s : Shared) (H : Hp) (C : Addr) (cl : List (Str × Addr)) (fp : List Addr), PTs (X.blk s H sc (compEnvC sc cl C X.env) fp) ea fa)
    (hk : ∀ (s : Shared) (H : Hp) (C : Addr) (cl : List (Str × Addr)) (fp : List Addr), PE (X.blk s H sc (compEnvC sc cl C X.env) fp) kx tk)
    (he : ∀ (s : Shared) (H : Hp) (C : Addr) (cl : List (Str × Addr)) (fp : List Addr), PE (X.blk s H sc (compEnvC sc cl C X.env) fp) vx tv) (hs : ∀ x, foldedSetIterable ia X.env x = pure x)
    (h : tDcN X.prog X.w wa ga fa tk tv (own.map (·.2)) σ H Q)
    (hRR : ∀ D C s' m H', L2.Inv X pins σ H' s' → Q (.ref D) H' → s'.heap.Ns C m → FpOk X pins H' C → compPost (model X.prog X.w) X.A X.xe use Qf (.ref D) C (.ok .next) s') :
    wpAny (model X.prog X.w) X.A (comprehension (.DictComp kx vx [⟨ta, ia, ea, 0⟩] sc pos) sc X.env pos' newDict false (eval ia X.env) use) Qf X.xe s := by
  have cells : ∀ y ∈ sc.names, y.2 = .free → ∃ c, X.env.cells.lookup y.1 = some c := fun y hy e => (ok.free y hy e).elim (fun k => I.ok.has _ (.inl k)) fun k => I.ok.has _ (.inr k)
  refine wpAny_comprehension_free (use := use) rfl hs (closure_ok cells) ok.kind (fun y hy e => by rw [ok.uniq y hy, e]) (thn (hi.run pins s σ H _ I h) fun xv s1 hx => thn hx fun itv s2 h2 => ?_)
  obtain ⟨it, fp, tn, J, H2, e, I2, T, st2, f2, q⟩ := h2
  subst e
  refine wpAny_newObj_type (newEnv_comp ?_)
  generalize hD : s2.heap.objs.size = D
  obtain ⟨W, ⟨m0, w0⟩, turn⟩ := q D (dNo X.prog X.w D []) (I2.hok.fresh (Nat.le_of_eq hD)) ⟨[], upd_same, (fun x hx => nomatch hx), rfl⟩
  generalize hs3 : ({ s2 with heap := s2.heap.push { cls := .type "dict", data := .dict #[] } } : Shared) = s3
  have hp3 : s3.heap = s2.heap.push { cls := .type "dict", data := .dict #[] } := by rw [← hs3]
  have I3 : L2.Inv X pins σ (upd H2 D (dNo X.prog X.w D [])) s3 := by
    rw [← hs3]
    refine I2.laid (t' := s2.toks) (fun b o e => Heap.get?_push_of_some _ e) (Nat.le_of_eq hD) ?_
    rw [← hD]
    exact n_empty s2.heap I2.big
  have small : ∀ b ∈ fp, b < s2.heap.objs.size := fun b hb => (T.obj _ _ st2 b hb).elim fun o e => Heap.lt_size e.1
  have f3 : ∀ b ∈ fp, FpOk X pins (upd H2 D (dNo X.prog X.w D [])) b ∧ b < s3.heap.objs.size := fun b hb => by
    refine ⟨⟨?_, (f2 b hb).2⟩, by rw [hp3, Heap.size_push]; exact Nat.lt_succ_of_lt (small b hb)⟩
    rw [upd_ne (by rw [← hD]; exact Nat.ne_of_lt (small b hb))]
    exact (f2 b hb).1
  have st3 : tn 0 s3.heap := T.keep _ _ _ st2 fun b _ o e => by rw [hp3]; exact Heap.get?_push_of_some _ e
  have I4 := block_start I3 ok hN f3
  generalize hcs : cellsFrom (s3.heap.objs.size + 1) sc.names (cloFrom X.env.cells sc.names []) = cs at I4
  have pg := hg s3 (upd H2 D (dNo X.prog X.w D [])) s3.heap.objs.size cs fp
  have pt := ht s3 (upd H2 D (dNo X.prog X.w D [])) s3.heap.objs.size cs fp
  have pk := hk s3 (upd H2 D (dNo X.prog X.w D [])) s3.heap.objs.size cs fp
  have pe := he s3 (upd H2 D (dNo X.prog X.w D [])) s3.heap.objs.size cs fp
  show codeAny _ _ (.compStart (.DictComp kx vx [⟨ta, ia, ea, 0⟩] sc pos) 0 (.ref it) (.ref D) (compEnvC sc cs s3.heap.objs.size X.env)) (compPost (model X.prog X.w) X.A X.xe use Qf (.ref D) s3.heap.objs.size) { s3 with heap := pushCells (s3.heap.push { cls := .type "dict", data := .dict #[] }) sc.names }
  have nfp : ∀ b ∈ fp, (upd H2 D (dNo X.prog X.w D [])) b = none := fun b hb => (f3 b hb).1.1
  generalize hce : compEnvC sc cs s3.heap.objs.size X.env = ce at I4 pg pt pk pe ⊢
  have cL : ce.locals = s3.heap.objs.size := by subst hce; rfl
  generalize hH3 : upd H2 D (dNo X.prog X.w D []) = H3 at I3 I4 pg pt pk pe w0 nfp f3
  generalize hs4 : ({ s3 with heap := pushCells (s3.heap.push { cls := .type "dict", data := .dict #[] }) sc.names } : Shared) = s4 at I4 ⊢
  have st4 : tn 0 s4.heap := T.keep _ _ _ st3 fun b _ o e => by rw [← hs4]; exact pushCells_keeps _ _ _ _ (Heap.get?_push_of_some _ e)
  generalize hv0 : wipe σ (own.map (·.2)) = σ0 at I4 turn
  have len0 : σ0.length = σ.length := by rw [← hv0, wipe_length]
  have stat : ∀ {τ : L2.St} {H' : Hp} {s' : Shared}, L2.Inv (X.blk s3 H3 sc ce fp) [] τ H' s' → (∀ b ∈ fp, H' b = none) → ∀ b ∈ fp, FpOk (X.blk s3 H3 sc ce fp) [] H' b := fun {τ H' s'} I' hn b hb =>
    ⟨hn b hb, (I'.ok.exf b hb).1, I'.ok.exfs b hb, .inl hb, fun x c e => (I'.ok.exf b hb).2 x c e, fun p hp => absurd (show p ∈ ([] : List (Addr × Obj)) ++ [] from hp) (by simp)⟩
  -- between the turns of the first clause
  let Jo : Nat → Shared → Prop := fun n s' => ∃ i H', L2.Inv (X.blk s3 H3 sc ce fp) [] σ0 H' s' ∧ tn i s'.heap ∧ (∀ b ∈ fp, H' b = none) ∧ W i n H'
  have main : codeAny (model X.prog X.w) X.A (.compLoop (.DictComp kx vx [⟨ta, ia, ea, 0⟩] sc pos) 0 (.ref it) (.ref D) ce) (compPost (model X.prog X.w) X.A X.xe use Qf (.ref D) s3.heap.objs.size) s4 := by
    refine compLoop_anyD Jo ?_ m0 ⟨0, H3, I4, st4, nfp, w0⟩
    rintro n s5 ⟨i, H5, I5, st5, n5, w5⟩
    rcases turn i n H5 w5 with ⟨stop, qq⟩ | ⟨go, Nx, hNx, step⟩
    · refine thnF (T.done (X.blk s3 H3 sc ce fp) rfl rfl rfl hc i [] s5 _ H5 (fun _ _ => False) I5 (stat I5 n5) st5 stop) fun r s6 ⟨hr, I6⟩ => ?_
      subst hr
      have I7 : L2.Inv X pins σ H5 s6 := I3.call' (ch := fp) I6.os I6.base I6.hok I6.bare fun b hb => ⟨(f3 b hb).1.2.2.2.1, (f3 b hb).1.2.1, (f3 b hb).1.2.2.2.2.1, (f3 b hb).1.2.2.2.2.2⟩
      have nC : H5 s3.heap.objs.size = none := by
        rw [← cL]
        exact I6.free
      obtain ⟨m, hn, _⟩ := I6.loc
      have hn : s6.heap.Ns ce.locals m := hn
      rw [cL] at hn
      exact hRR D s3.heap.objs.size s6 m H5 I7 qq hn (I3.fpOk (Nat.le_refl _) nC)
    · refine thnF (T.item (X.blk s3 H3 sc ce fp) rfl rfl rfl hc i [] s5 _ H5 (fun _ _ => False) I5 (stat I5 n5) st5 go) fun r s6 ⟨u, hr, h6⟩ => ?_
      subst hr
      refine thnF h6 fun _ s7 ⟨x, H7, I7, r7, y7, st7, n7⟩ => ?_
      have I7p := I7.pinned (stat I7 n7) (T.obj _ _ st7)
      refine thnF (pg.run _ s7 _ H7 x u _ I7p r7 (step x H7 y7)) fun _ s8 ⟨σ8, H8, I8, hw8, q8⟩ => ?_
      refine thnF (pt.run _ s8 σ8 H8 _ I8 q8) fun b s9 ⟨H9, I9, q9⟩ => ?_
      have back : ∀ {τ : L2.St} {s' : Shared} {H' : Hp}, L2.Inv (X.blk s3 H3 sc ce fp) ([] ++ pinsAt fp s7.heap) τ H' s' → σ0.length = τ.length → (∀ (j : Nat) v, σ0[j]? = some (some v) → τ[j]? = some (some v)) → Nx H' → ∃ m, m < n ∧ Jo m s' := fun {τ s' H'} I' hl hk nx => by
        obtain ⟨m1, hm, w1⟩ := hNx H' nx
        have pin : ∀ b ∈ fp, ∀ o, s7.heap.get? b = some o → s'.heap.get? b = some o ∧ H' b = none := fun b hb o e =>
          let z := I'.pin (b, o) (List.mem_append_right _ (List.mem_append_right _ (mem_pinsAt hb e)))
          ⟨z.1, z.2.1⟩
        refine ⟨m1, hm, i + 1, H', (I'.unpinned (pins := [])).weak hl hk, T.keep _ _ _ st7 fun b hb o e => (pin b hb o e).1, fun b hb => ?_, w1⟩
        obtain ⟨o, e, _⟩ := T.obj _ _ st7 b hb
        exact (pin b hb o e).2
      have l8 : σ0.length = σ8.length := by rw [← hw8, wipe_length]
      have k8 : ∀ (j : Nat) v, σ0[j]? = some (some v) → σ8[j]? = some (some v) := fun j v e => by
        rw [← hw8] at e
        exact (wipe_some e).1
      cases b with
      | false =>
        simp only [Bool.false_eq_true, if_false] at q9 ⊢
        exact back I9 l8 k8 q9
      | true =>
        simp only [if_true] at q9 ⊢
        refine thnF (pk.run _ s9 σ8 H9 _ I9 q9) fun z s10 ⟨yk, H10, I10, r10, q10⟩ => ?_
        refine thnF (pe.run _ s10 σ8 H10 _ I10 q10) fun z2 s11 ⟨yv, H11, I11, r11, kb, k, kvs, ey, dn, ky, dp, len, nx⟩ => ?_
        subst ey
        obtain rfl : z = Value.ref kb := r10
        exact n_dictSet (X := X.blk s3 H3 sc ce fp) hu I11 dn ky dp r11 len fun s12 o I12 dn2 => back I12 l8 k8 (nx o dn2)
  exact codeAny_compStart_dict main (T.self X.A 0 _ _ _ st4 main)
theorem pe_dcN {P : Program} {w : World} {kx vx ta ia : Expr} {ea : List Expr} {sc : Scope} {own : List (Str × Nat)} {pos : Pos} {wa : TI} {ga : TG} {fa : TT} {tk tv : TE} (hu : X.A.units + 9 < cLine) (hc : X.calm = true) (hN : X.N.Nodup) (hi : PI X ta ia wa) (ok : BlkOk X.N X.env.scope sc own)
    (hg : ∀ (s : Shared) (H : Hp) (C : Addr) (cl : List (Str × Addr)) (fp : List Addr), PG (X.blk s H sc (compEnvC sc cl C X.env) fp) ta ga) (ht : ∀ (s : Shared) (H : Hp) (C : Addr) (cl : List (Str × Addr)) (fp : List Addr), PTs (X.blk s H sc (compEnvC sc cl C X.env) fp) ea fa)
    (hk : ∀ (s : Shared) (H : Hp) (C : Addr) (cl : List (Str × Addr)) (fp : List Addr), PE (X.blk s H sc (compEnvC sc cl C X.env) fp) kx tk)
    (he : ∀ (s : Shared) (H : Hp) (C : Addr) (cl : List (Str × Addr)) (fp : List Addr), PE (X.blk s H sc (compEnvC sc cl C X.env) fp) vx tv) (hs : ∀ x, foldedSetIterable ia X.env x = pure x := by intro _; rfl) (hP : X.prog = P := by rfl) (hw : X.w = w := by rfl) :
    PE X (.DictComp kx vx [⟨ta, ia, ea, 0⟩] sc pos) (tDcN P w wa ga fa tk tv (own.map (·.2))) := by
  subst hP hw
  refine ⟨fun pins s σ H Q I h => ?_⟩
  rw [arm_eval_DictComp]
  refine dcN_core hu hc hN I hi ok hg ht hk he hs h fun D C s' m H' I' q hn f => ⟨m, hn, fun h2 but => ?_⟩
  exact ⟨.ref D, H', I'.turned (t' := s'.toks) (fun b o hb e => (but.2 b hb).trans e) f.1 f.2.1 f.2.2.2.1 f.2.2.2.2.1 f.2.2.2.2.2, rfl, q⟩
theorem ps_setDcN {P : Program} {w : World} {i : Nat} {y : Str} {py spos : Pos} {kx vx ta ia : Expr} {ea : List Expr} {sc : Scope} {own : List (Str × Nat)} {pos : Pos} {wa : TI} {ga : TG} {fa : TT} {tk tv : TE} (hu : X.A.units + 9 < cLine) (hc : X.calm = true) (hN : X.N.Nodup) (hy : X.N[i]? = some y) (hyl : X.env.scope.names.lookup y = some .local)
    (hsw : swapsWith (.DictComp kx vx [⟨ta, ia, ea, 0⟩] sc pos) (some (.Name y py)) spos.line X.env = pure true) (hi : PI X ta ia wa) (ok : BlkOk X.N X.env.scope sc own)
    (hg : ∀ (s : Shared) (H : Hp) (C : Addr) (cl : List (Str × Addr)) (fp : List Addr), PG (X.blk s H sc (compEnvC sc cl C X.env) fp) ta ga) (ht : ∀ (s : Shared) (H : Hp) (C : Addr) (cl : List (Str × Addr)) (fp : List Addr), PTs (X.blk s H sc (compEnvC sc cl C X.env) fp) ea fa)
    (hk : ∀ (s : Shared) (H : Hp) (C : Addr) (cl : List (Str × Addr)) (fp : List Addr), PE (X.blk s H sc (compEnvC sc cl C X.env) fp) kx tk)
    (he : ∀ (s : Shared) (H : Hp) (C : Addr) (cl : List (Str × Addr)) (fp : List Addr), PE (X.blk s H sc (compEnvC sc cl C X.env) fp) vx tv) (hs : ∀ x, foldedSetIterable ia X.env x = pure x := by intro _; rfl) (hP : X.prog = P := by rfl) (hw : X.w = w := by rfl) :
    PS X (.Assign [.Name y py] (.DictComp kx vx [⟨ta, ia, ea, 0⟩] sc pos) spos) (tAsg (tDcN P w wa ga fa tk tv (own.map (·.2))) (gName i)) := by
  subst hP hw
  refine ⟨fun pins s σ H D I h => ?_⟩
  rw [exec_Assign_Name_used _ _ _ _ hsw]
  refine wpAny_bind (wpAny_standAt (wpAny_bind ?_))
  show wpAny _ X.A (do let _ ← comprehension (.DictComp kx vx [⟨ta, ia, ea, 0⟩] sc pos) sc X.env (firstIterPos [⟨ta, ia, ea, 0⟩] pos) newDict false (eval ia X.env) (some (assign (.Name y py) X.env))) _ _ s
  have h : tDcN X.prog X.w wa ga fa tk tv (own.map (·.2)) σ H (fun x H1 => gName i x σ H1 D.nx) := h
  refine wpAny_bind (thn (dcN_core (Qf := fun _ s' => SP X pins D .next s') hu hc hN I hi ok hg ht hk he hs h fun L C s' m H' I' q hn f => ?_) fun _ s' hq => wpAny_pure (wpAny_pure hq))
  show wpAny _ _ (assign (.Name y py) X.env (.ref L)) _ _ _
  refine wpAny_assign_Name (store_ok2 (v := V.ref L) I' hN hy (.inl hyl) rfl (fun s2 I2 ⟨c, sb, hc2⟩ => ?_) (.inr hyl))
  have apart : C ≠ c := by
    rcases hc2 with z | z
    · rw [z]; exact f.2.1
    · exact fun e => f.2.2.2.2.1 y c z e.symm
  refine ⟨m, hn.sameBut sb apart, fun h3 but => ?_⟩
  exact ⟨_, H', I2.turned (t' := s2.toks) (fun b o hb e => (but.2 b hb).trans e) f.1 f.2.1 f.2.2.2.1 f.2.2.2.2.1 f.2.2.2.2.2, q⟩
end
end RL
/-! walks that end while an exception is handled: a list's, a tuple's, a zip's -/
namespace RLH
open PySem PySem.Spec PyProof.Rows L2 HotX
theorem push2 {h : Heap} {b : Addr} {o p q : Obj} (e : h.get? b = some o) : ((h.push p).push q).get? b = some o := Heap.get?_push_of_some _ (Heap.get?_push_of_some _ e)
section
variable {prog : Program} {w : World} {A : Around} {E : Value → Shared → Prop} {s : Shared}
/-- what a StopIteration leaves -/
def Stops (E : Value → Shared → Prop) (s : Shared) : Prop :=
  ∀ h' e, (∀ b o, s.heap.get? b = some o → h'.get? b = some o) → (∃ o, h'.get? e = some o ∧ o.cls = .type "StopIteration") → E (.ref e) { s with heap := h' }
theorem stop_hot {α : Type} {x1 : Addr} {Q : α → Shared → Prop} (hot : HotAt A x1 s.heap) (hE : Stops E s) :
    wpAny (model prog w) A ((newExc (.type "StopIteration") [] : Sem Value) >>= fun e => (raiseNew e : Sem α)) Q E s := by
  obtain ⟨hh, o1, vs1, h1, d1, c1⟩ := hot
  refine wpAny_bind ?_
  unfold newExc
  wp_walk
  refine raiseNew_hot ⟨hh, o1, vs1, push2 h1, d1, c1⟩ (Nat.ne_of_lt (Heap.lt_size (Heap.get?_push_of_some _ h1))) (Heap.get?_push_size _ rfl) rfl (by first | (simp; done) | (simp; omega)) ?_
  refine hE _ _ (fun b o e => ?_) ⟨_, Heap.get?_update_self _ (Heap.get?_push_size _ rfl) rfl, rfl⟩
  rw [Heap.get?_update_other _ _ (Nat.ne_of_gt (Heap.lt_size (Heap.get?_push_of_some _ e)))]
  exact push2 e
theorem HotAt.but {x1 it : Addr} {h h' : Heap} (hot : HotAt A x1 h) (k : Heap.ExtBut it h h') (ne : x1 ≠ it) : HotAt A x1 h' := by
  obtain ⟨hh, o, vs, e, r⟩ := hot
  exact ⟨hh, o, vs, k _ _ ne e, r⟩
/-- the list's iterator is at its end -/
theorem list_end_hot {x1 it l : Addr} {i : Nat} {items : Array Value} {Q : Value → Shared → Prop} (hot : HotAt A x1 s.heap) (nx : x1 ≠ it) (hit : s.heap.IsListIter it l i) (hl : s.heap.IsList l items) (hx : items[i]? = none)
    (hE : ∀ h' e, Heap.ExtBut it s.heap h' → (∃ o, h'.get? e = some o ∧ o.cls = .type "StopIteration") → E (.ref e) { s with heap := h' }) :
    wpAny (model prog w) A (Builtin.SmallTypes.nextOf (.ref it)) Q E s := by
  obtain ⟨o, ho, hc, hd⟩ := id hit
  obtain ⟨ol, hol, _, nl, hdl⟩ := hl
  unfold Builtin.SmallTypes.nextOf
  obtain ⟨hh, o1, vs1, h1, d1, c1⟩ := hot
  refine wpAny_bind (wpAny_callSpecial?_slot (name := Str.ofString "__next__") hit.typeIs slot_listiter_next (wpAny_call_entry slot_listiter_next hit.typeIs entry_listiter_next ?_ (args_listiter_next _)))
  have f0 : (#[Value.ref l, Value.int (↑i) 0] : Array Value)[0]? = some (.ref l) := rfl
  have f1 : (#[Value.ref l, Value.int (↑i) 0] : Array Value)[1]? = some (.int i 0) := rfl
  refine wpAny_bind (m := field (.ref it) 0) (wpAny_field ho hd f0 ?_)
  rw [if_neg (by simp : ¬ ((Value.ref l == Value.none) = true))]
  refine wpAny_bind (m := field (.ref it) 1) (wpAny_field ho hd f1 (wpAny_bind (m := seqItems? (.ref l)) (wpAny_seqItems hol hdl ?_)))
  simp only [Int.toNat_natCast, hx]
  refine wpAny_bind (wpAny_rule (wpAny_bind (wpAny_setField ho hd (by simp) ?_)))
  have up : HotAt A.in1 x1 (s.heap.update it (Obj.mapFields (·.setIfInBounds 0 Value.none))) := ⟨hh, o1, vs1, by rw [Heap.get?_update_other _ _ (Ne.symm nx)]; exact h1, d1, c1⟩
  refine stop_hot up fun h' e k he => hE h' e (fun b u hb eb => k b u ?_) he
  rw [Heap.get?_update_other _ _ (Ne.symm hb)]
  exact eb
/-- the first list of a zip is at its end -/
theorem zip_end_hot {x1 z TI TO i1 i2 l1 l2 : Addr} {k1 : Nat} {xs : Array Value} {Q : Option Value → Shared → Prop} (hot : HotAt A x1 s.heap) (n1 : x1 ≠ z) (n2 : x1 ≠ i1) (D : ZipApart z TI TO i1 i2 l1 l2)
    (hz : IsZip s.heap z TI TO .none) (hTI : IsPair s.heap TI (.ref i1) (.ref i2)) (it1 : s.heap.IsListIter i1 l1 k1) (hl1 : s.heap.IsList l1 xs) (hx : xs[k1]? = none)
    (hQ : ∀ h', (∀ c o, c ≠ z → c ≠ i1 → s.heap.get? c = some o → h'.get? c = some o) → Q none { s with heap := h' }) : wpAny (model prog w) A (pyNext (.ref z)) Q E s := by
  have hT : s.TypeIs (.ref z) "zip" := ⟨_, hz, rfl⟩
  unfold pyNext
  refine wpAny_bind (wpAny_attempt (wpAny_callSpecial?_slot (name := Str.ofString "__next__") hT F.slot_zip_next (wpAny_call_entry F.slot_zip_next hT F.entry_zip_next ?_ (F.args_zip_next_1 _))))
  refine wpAny_bind (m := field (.ref z) 2) (wpAny_field hz rfl (x := .bool false) rfl (wpAny_bind (m := field (.ref z) 3) (wpAny_field hz rfl (x := .ref TI) rfl (wpAny_bind (m := seqItems? (.ref TI)) (wpAny_seqItems hTI rfl ?_)))))
  refine wpAny_bind (m := Builtin.SmallTypes.ownedTupleIsFree (.ref z)) ?_
  unfold Builtin.SmallTypes.ownedTupleIsFree
  refine wpAny_bind (wpAny_field hz rfl (x := .none) rfl (wpAny_pure ?_))
  simp only [if_true]
  refine wpAny_bind (wpAny_rule (wpAny_bind (wpAny_field hz rfl (x := .ref TO) rfl (wpAny_bind (wpAny_setField_rec hz (by simp) fun ha za sa => wpAny_bind ?_)))))
  have za : IsZip ha z TI TO .ellipsis := za
  simp only [List.zipIdx_cons, List.zipIdx_nil, List.forIn_cons, List.forIn_nil]
  have hotA : HotAt A.in1 x1 ha := HotAt.but (A := A.in1) ⟨hot.1, hot.2⟩ sa.extBut n1
  refine wpAny_bind (wpAny_bind (wpAny_onRaise (wpAny_bind (m := Builtin.SmallTypes.nextOf (.ref i1)) (list_end_hot (s := { s with heap := ha }) hotA n2 (it1.extBut sa.extBut D.i1z) (hl1.extBut sa.extBut D.l1z) hx fun hb e kb eb => ?_))))
  obtain ⟨oe, ge, ce⟩ := eb
  have zb : IsZip hb z TI TO .ellipsis := kb _ _ D.i1z.symm za
  have ez : e ≠ z := fun q => by
    rw [q, show hb.get? z = _ from zb] at ge
    cases ge
    simp at ce
  refine wpAny_setField_rec zb (by simp) fun hc _ sc => ?_
  refine wpAny_bind (wpAny_isInstance (T := "StopIteration") (b := true) ⟨oe, sc.extBut _ _ ez ge, ce⟩ isSubtype_stop (wpAny_pure (hQ hc fun c o c1 c2 q => ?_)))
  exact sc.extBut _ _ c1 (kb _ _ c2 (sa.extBut _ _ c1 q))
/-- a tuple's iterator is at its end -/
theorem tuple_end_hot {x1 it l : Addr} {i : Nat} {items : Array Value} {Q : Option Value → Shared → Prop} (hot : HotAt A x1 s.heap) (nx : x1 ≠ it) (hit : s.heap.IsTupleIter it l i) (hl : s.heap.IsTuple l items) (hx : items[i]? = none)
    (hQ : ∀ h', Heap.ExtBut it s.heap h' → Q none { s with heap := h' }) : wpAny (model prog w) A (pyNext (.ref it)) Q E s := by
  obtain ⟨o, ho, hc, hd⟩ := id hit
  obtain ⟨ol, hol, _, nl, hdl⟩ := hl
  obtain ⟨hh, o1, vs1, h1, d1, c1⟩ := hot
  unfold pyNext
  refine wpAny_bind (wpAny_attempt (wpAny_callSpecial?_slot (name := Str.ofString "__next__") hit.typeIs F.slot_tuple_iterator_next (wpAny_call_entry F.slot_tuple_iterator_next hit.typeIs F.entry_tuple_iterator_next ?_ (F.args_tuple_iterator_next_1 _))))
  have f0 : (#[Value.ref l, Value.int (↑i) 0] : Array Value)[0]? = some (.ref l) := rfl
  have f1 : (#[Value.ref l, Value.int (↑i) 0] : Array Value)[1]? = some (.int i 0) := rfl
  refine wpAny_bind (m := field (.ref it) 0) (wpAny_field ho hd f0 ?_)
  rw [if_neg (by simp : ¬ ((Value.ref l == Value.none) = true))]
  refine wpAny_bind (m := field (.ref it) 1) (wpAny_field ho hd f1 (wpAny_bind (m := seqItems? (.ref l)) (wpAny_seqItems hol hdl ?_)))
  simp only [Int.toNat_natCast, hx]
  refine wpAny_bind (wpAny_rule (wpAny_bind (wpAny_setField ho hd (by simp) ?_)))
  have up : HotAt A.in1 x1 (s.heap.update it (Obj.mapFields (·.setIfInBounds 0 Value.none))) := ⟨hh, o1, vs1, by rw [Heap.get?_update_other _ _ (Ne.symm nx)]; exact h1, d1, c1⟩
  refine stop_hot up fun h' e k he => ?_
  obtain ⟨oe, ge, ce⟩ := he
  refine wpAny_bind (wpAny_isInstance (T := "StopIteration") (b := true) ⟨oe, ge, ce⟩ isSubtype_stop (wpAny_pure (hQ h' fun b u hb eb => k b u ?_)))
  rw [Heap.get?_update_other _ _ (Ne.symm hb)]
  exact eb
/-- (a, b, ..) = a tuple -/
theorem unpack_hot {x1 t : Addr} {items : Array Value} {targets : List (Bool × (Value → Sem Unit))} {Q : Unit → Shared → Prop} (hot : HotAt A x1 s.heap) (ht : s.heap.IsTuple t items) (hn : targets.length = items.size) (hst : targets.findIdx? (·.1) = none)
    (h : ∀ h', (∀ b o, s.heap.get? b = some o → h'.get? b = some o) → wpAny (model prog w) A (assignInOrder (targets.map (·.2)) items.toList) Q E { s with heap := h' }) : wpAny (model prog w) A (unpack (.ref t) targets) Q E s := by
  have hlt : t ≠ s.heap.objs.size := by
    obtain ⟨o, ho, _⟩ := ht
    exact Nat.ne_of_lt (Heap.lt_size ho)
  have hx1 : x1 ≠ s.heap.objs.size := by
    obtain ⟨_, o, _, ho, _⟩ := hot
    exact Nat.ne_of_lt (Heap.lt_size ho)
  have fresh : ∀ {b : Addr} {o : Obj}, s.heap.get? b = some o → b ≠ s.heap.objs.size := fun q => Nat.ne_of_lt (Heap.lt_size q)
  unfold unpack
  rw [hn, hst]
  refine wpAny_bind (wpAny_holding ?_)
  unfold unpackItems notIterableAtAll
  refine wpAny_bind (wpAny_bind (wpAny_specialOf ht.typeIs F.slot_tuple_iter.lookup (wpAny_pure ?_)))
  simp only [Bool.false_eq_true, if_false]
  refine wpAny_bind (wpAny_holding (wpAny_pyIter_tuple ht (wpAny_bind (wpAny_holding (wpAny_draw_tuple hlt items.size 0 _ _ ⟨_, Heap.get?_push_size _ rfl, rfl, rfl⟩ (ht.push _) (by omega) fun ha ita sa => ?_)))))
  have all : List.take items.size (List.drop 0 items.toList) = items.toList := by
    rw [List.drop_zero]
    exact List.take_of_length_le (by simp)
  rw [all, if_neg (by simp)]
  have hotA : HotAt A x1 ha := HotAt.but ⟨hot.1, by obtain ⟨o, vs, g, r⟩ := hot.2; exact ⟨o, vs, Heap.get?_push_of_some _ g, r⟩⟩ sa.extBut hx1
  refine wpAny_bind (wpAny_holding (tuple_end_hot (s := { s with heap := ha }) hotA hx1 ita ((ht.push _).extBut sa.extBut hlt) (by simp) fun hb kb => ?_))
  simp only [Option.isSome_none, Bool.false_eq_true, if_false]
  exact wpAny_pure (h hb fun b o q => kb b o (fresh q) (sa.extBut b o (fresh q) (Heap.get?_push_of_some _ q)))
end
end RLH
/-! [x for x, y in zip(e, e2) if y] while an exception is handled -/
namespace RLH
open PySem PySem.Spec PyProof.Rows L2 HotX L2H
/-- the texts whose flags are up -/
def sel : List Str → List Bool → List Str
  | x :: xs, true :: bs => x :: sel xs bs
  | _ :: xs, false :: bs => sel xs bs
  | _, _ => []
theorem sel_len : ∀ (xs : List Str) (bs : List Bool), (sel xs bs).length ≤ xs.length
  | [], bs => by simp [sel]
  | x :: xs, [] => by simp [sel]
  | x :: xs, true :: bs => by have := sel_len xs bs; simp [sel]; omega
  | x :: xs, false :: bs => by have := sel_len xs bs; simp [sel]; omega
theorem sel_take : ∀ (xs : List Str) (bs : List Bool) (k : Nat) (x : Str) (b : Bool), xs[k]? = some x → bs[k]? = some b → sel (xs.take (k + 1)) (bs.take (k + 1)) = sel (xs.take k) (bs.take k) ++ (if b = true then [x] else [])
  | [], _, _, _, _, h, _ => by simp at h
  | _ :: _, [], _, _, _, _, h => by simp at h
  | y :: xs, c :: bs, 0, x, b, h1, h2 => by
    simp at h1 h2
    subst h1 h2
    cases c <;> simp [sel]
  | y :: xs, c :: bs, k + 1, x, b, h1, h2 => by
    have ih := sel_take xs bs k x b (by simpa using h1) (by simpa using h2)
    cases c <;> simp only [List.take_succ_cons, sel, ih, List.cons_append]
/-- all but D as in H -/
def Same' (H : Hp) (D : Addr) (H' : Hp) : Prop := ∀ c, c ≠ D → H' c = H c
section
variable {X : Cx}
abbrev Xb (X : Cx) (scope : Scope) (s : Shared) (H : Hp) (ce : Env) (fp : List Addr) (p : Addr × Obj) : Cx := (X.blk s H scope ce fp).tr [p] (fun _ _ => False)
def tLcZ (K : PySem.W.Frag) (ta : TA) : TE := fun σ H Q => ta σ H fun vs H1 => ∃ (a b : Addr) (ws : List Str) (bs : List Bool), vs = [.ref a, .ref b] ∧ SqL K H1 a (ws.map V.str) ∧ SqL K H1 b (bs.map V.bl) ∧ ws.length = bs.length ∧
  ∀ D, H1 D = none → Q (.ref D) (upd H1 D (.lst ((sel ws bs).map V.str)))
structure ZSt (h : Heap) (z TI TO i1 i2 a b : Addr) (k : Nat) : Prop where
  hz : IsZip h z TI TO .none
  ti : IsPair h TI (.ref i1) (.ref i2)
  to_ : ∃ x y, IsPair h TO x y
  one : h.IsListIter i1 a k
  two : h.IsListIter i2 b k
theorem ZSt.keep {h h' : Heap} {z TI TO i1 i2 a b : Addr} {k : Nat} (Z : ZSt h z TI TO i1 i2 a b k) (kp : ∀ c ∈ [z, TI, TO, i1, i2], ∀ o, h.get? c = some o → h'.get? c = some o) : ZSt h' z TI TO i1 i2 a b k :=
  ⟨kp z (by simp) _ Z.hz, kp TI (by simp) _ Z.ti, by obtain ⟨x, y, e⟩ := Z.to_; exact ⟨x, y, kp TO (by simp) _ e⟩, Z.one.at fun o e => kp i1 (by simp) o e, Z.two.at fun o e => kp i2 (by simp) o e⟩
theorem ZSt.obj {h : Heap} {z TI TO i1 i2 a b : Addr} {k : Nat} (Z : ZSt h z TI TO i1 i2 a b k) : ∀ c ∈ [z, TI, TO, i1, i2], ∃ o, h.get? c = some o ∧ ∀ v, o.data ≠ .cell v := fun c hc => by
  obtain ⟨x, y, e⟩ := Z.to_
  obtain ⟨o1, e1, _, d1⟩ := Z.one
  obtain ⟨o2, e2, _, d2⟩ := Z.two
  simp only [List.mem_cons, List.not_mem_nil, or_false] at hc
  rcases hc with q | q | q | q | q <;> subst q
  · exact ⟨_, Z.hz, fun v n => by cases n⟩
  · exact ⟨_, Z.ti, fun v n => by cases n⟩
  · exact ⟨_, e, fun v n => by cases n⟩
  · exact ⟨o1, e1, fun v n => by rw [d1] at n; cases n⟩
  · exact ⟨o2, e2, fun v n => by rw [d2] at n; cases n⟩
theorem pe_lczH {xn yn : Str} {i j : Nat} {e e2 : Expr} {ta : TA} {scope : Scope} {pos zpos zp tpos qx qy q1 q2 : Pos} {kk : Nat} (hc : HotC X) (hN : X.N.Nodup) (hij : i ≠ j) (hiN : X.N[i]? = some xn) (hjN : X.N[j]? = some yn) (hg : Gl X "zip") (hm : X.mg "zip" = none) (ha : PA X [e, e2] ta)
    (ok : BlkOk X.N X.env.scope scope [(xn, i), (yn, j)])
    (vx : Vis (relabel scope X.env) xn) (vy : Vis (relabel scope X.env) yn) (lx : (relabel scope X.env).names.lookup xn = some .local) (ly : (relabel scope X.env).names.lookup yn = some .local)
    (dx : (xn == ("__debug__" : Str)) = false) (cx : (xn == ("__classdict__" : Str)) = false) (dy : (yn == ("__debug__" : Str)) = false) (cy : (yn == ("__classdict__" : Str)) = false)
    (hs : starEach [e, e2] X.env = (false, eval e X.env) :: starEach [e2] X.env := by rfl) (hpl : (backTo zpos (starEach [e2] X.env)).any (·.1) = false := by rfl)
    (hfs : ∀ x, foldedSetIterable (.Call (.Name "zip" zp) [e, e2] [] zpos) X.env x = pure x := by intro _; rfl) :
    PE X (.ListComp (.Name xn q1) [⟨.Tuple [.Name xn qx, .Name yn qy] kk tpos, .Call (.Name "zip" zp) [e, e2] [] zpos, [.Name yn q2], 0⟩] scope pos) (tLcZ X.K ta) := by
  refine ⟨fun pins s σ H Q I h => ?_⟩
  obtain ⟨p, hot1, hp⟩ := hc
  rw [eval_ListComp]
  have hfree : ∀ y ∈ scope.names, y.2 = .free → ∃ c, X.env.cells.lookup y.1 = some c := fun y hy q => (ok.free y hy q).elim (fun r => I.ok.has _ (.inl r)) (fun r => I.ok.has _ (.inr r))
  refine wpAny_comprehension_free (use := none) rfl hfs (closure_ok hfree) ok.kind (fun y hy q => by rw [ok.uniq y hy, q]) (Call_ (ld_blt I hg hm PyProof.Rows.boot_zip (PyProof.Rows.callWith_type1 (thn (ha.run zpos pins s σ H _ I h) fun us s1 ⟨vs, H1, I1, r1, q1⟩ => ?_) hs hpl)))
  obtain ⟨a, b, ws, bs, ev, sa, sb, hlen, fin⟩ := q1
  subst ev
  obtain ⟨u1, u2, rfl, e1, e2⟩ : ∃ u1 u2, us = [u1, u2] ∧ u1 = Value.ref a ∧ u2 = Value.ref b := by
    cases r1 with
    | cons ra rr =>
      cases rr with
      | cons rb rn =>
        cases rn
        exact ⟨_, _, rfl, ra, rb⟩
  subst e1 e2
  obtain ⟨ia, va, pa, zline⟩ := I1.list sa
  obtain ⟨ib, vb, pb, zb⟩ := I1.list sb
  refine call_zip_2 pa.isList pb.isList fun hZ hz hTI hTO h1 h2 hsz hk => wpAny_pyIter_zip hz (wpAny_newObj_type (newEnv_comp ?_) (by show 0 ≤ sizeLine; decide))
  have D0 : ZipApart (s1.heap.objs.size + 4) (s1.heap.objs.size + 2) (s1.heap.objs.size + 3) s1.heap.objs.size (s1.heap.objs.size + 1) a b := PySem.W.ktu_apart s1.heap.objs.size a b pa.lt pb.lt
  generalize hn : s1.heap.objs.size = n at hz hTI hTO h1 h2 hsz D0
  have Z0 : ZSt hZ (n + 4) (n + 2) (n + 3) n (n + 1) a b 0 := ⟨hz, hTI, ⟨_, _, hTO⟩, h1, h2⟩
  have I2 : Inv X pins σ H1 { s1 with heap := hZ } := I1.kept (t' := s1.toks) hk
  have nD : H1 hZ.objs.size = none := I2.hok.fresh (Nat.le_refl _)
  generalize hs3 : ({ s1 with heap := hZ.push { cls := .type "list", data := .seq ([] : List Value).toArray } } : Shared) = s3
  have eh3 : s3.heap = hZ.push { cls := .type "list", data := .seq ([] : List Value).toArray } := by rw [← hs3]
  generalize hD : hZ.objs.size = D at nD
  have I3 : Inv X pins σ (upd H1 D (.lst [])) s3 := by
    rw [← hs3]
    refine I2.laid (t' := s1.toks) (fun c o q => Heap.get?_push_of_some _ q) (Nat.le_of_eq hD) ⟨Nat.zero_le _, [], 0, .nil, ?_⟩
    rw [← hD]
    exact Heap.get?_push_size _ rfl
  generalize hfp : [n + 4, n + 2, n + 3, n, n + 1] = fp
  have inF : ∀ c ∈ fp, n ≤ c ∧ c < n + 5 := fun c hc => by
    rw [← hfp] at hc
    simp only [List.mem_cons, List.not_mem_nil, or_false] at hc
    omega
  have sz3 : s3.heap.objs.size = n + 6 := by rw [eh3, Heap.size_push, hsz]
  have f3 : ∀ c ∈ fp, FpOk X pins (upd H1 D (.lst [])) c ∧ c < s3.heap.objs.size := fun c hc => by
    have r := inF c hc
    refine ⟨I1.fpOk (by rw [hn]; exact r.1) ?_, by rw [sz3]; omega⟩
    rw [upd_ne (show @Ne Nat c D by have := r.2; omega)]
    exact I1.hok.fresh (by rw [hn]; exact r.1)
  have I4 := block_start I3 ok hN f3
  show codeAny _ _ (.compStart (.ListComp (.Name xn q1) [⟨.Tuple [.Name xn qx, .Name yn qy] kk tpos, .Call (.Name "zip" zp) [e, e2] [] zpos, [.Name yn q2], 0⟩] scope pos) 0 (.ref (n + 4)) (.ref D)
    (compEnvC scope (cellsFrom (s3.heap.objs.size + 1) scope.names (cloFrom X.env.cells scope.names [])) s3.heap.objs.size X.env)) (compPost (model X.prog X.w) X.A X.xe none _ (.ref D) s3.heap.objs.size) { s3 with heap := pushCells (s3.heap.push { cls := .type "dict", data := .dict #[] }) scope.names }
  generalize hce : compEnvC scope (cellsFrom (s3.heap.objs.size + 1) scope.names (cloFrom X.env.cells scope.names [])) s3.heap.objs.size X.env = ce at I4 ⊢
  have ceL : ce.locals = s3.heap.objs.size := by subst hce; rfl
  have ceS : ce.scope = relabel scope X.env := by subst hce; rfl
  have k34 : ∀ c o, s3.heap.get? c = some o → (pushCells (s3.heap.push { cls := .type "dict", data := .dict #[] }) scope.names).get? c = some o := fun c o q => pushCells_keeps _ _ _ _ (Heap.get?_push_of_some _ q)
  generalize hs4 : ({ s3 with heap := pushCells (s3.heap.push { cls := .type "dict", data := .dict #[] }) scope.names } : Shared) = s4 at I4 ⊢
  have k34' : ∀ c o, s3.heap.get? c = some o → s4.heap.get? c = some o := fun c o q => by rw [← hs4]; exact k34 c o q
  have Z4 : ZSt s4.heap (n + 4) (n + 2) (n + 3) n (n + 1) a b 0 := Z0.keep fun c _ o q => k34' c o (by rw [eh3]; exact Heap.get?_push_of_some _ q)
  have pP := I3.pin p (List.mem_append_left _ hp)
  have I5 : Inv (X.blk s3 (upd H1 D (.lst [])) scope ce fp) [p] (wipe σ [i, j]) (upd H1 D (.lst [])) s4 := I4.pins_of fun q hq => by
    have eq : q = p := by simpa using hq
    subst eq
    refine ⟨k34' _ _ pP.1, pP.2.1, ?_, fun hm' => ?_, pP.2.2.2.2⟩
    · show q.1 ≠ ce.locals
      rw [ceL]
      exact Nat.ne_of_lt (Heap.lt_size pP.1)
    · exact (List.mem_cons.mp (I3.stkSub q.1 hm')).elim pP.2.2.1 pP.2.2.2.1
  have I6 : Inv (Xb X scope s3 (upd H1 D (.lst [])) ce fp p) [] (wipe σ [i, j]) (upd H1 D (.lst [])) s4 := I5.toTry _
  have nP : ∀ c ∈ fp, p.1 ≠ c := fun c hc => (f3 c hc).1.2.2.2.2.2 p (List.mem_append_left _ hp)
  have stat : ∀ {σ' : L2.St} {H' : Hp} {s' : Shared}, Inv (Xb X scope s3 (upd H1 D (.lst [])) ce fp p) [] σ' H' s' → (∀ c ∈ fp, H' c = none) → ∀ c ∈ fp, FpOk (Xb X scope s3 (upd H1 D (.lst [])) ce fp p) [] H' c := fun {σ' H' s'} J hn' c hc =>
    ⟨hn' c hc, (J.ok.exf c hc).1, J.ok.exfs c hc, .inl hc, fun y cc q => (J.ok.exf c hc).2 y cc q, fun q hq => by
      have eq : q = p := by simpa using (show q ∈ [p] ++ ([] : List (Addr × Obj)) from hq)
      rw [eq]
      exact nP c hc⟩
  have hotOf : ∀ {ps' : List (Addr × Obj)} {σ' : L2.St} {H' : Hp} {s' : Shared}, Inv (Xb X scope s3 (upd H1 D (.lst [])) ce fp p) ps' σ' H' s' → HotAt X.A p.1 s'.heap := fun {ps' σ' H' s'} J => by
    obtain ⟨hh, v1, d1, c1⟩ := hot1
    exact ⟨hh, p.2, v1, (J.pin p (List.mem_append_left _ (by simp))).1, d1, c1⟩
  have freeF : ∀ {H' : Hp}, Same' H1 D H' → ∀ c ∈ fp, H' c = none := fun {H'} e c hc => by
    rw [e c (show @Ne Nat c D by have := (inF c hc).2; omega)]
    exact I1.hok.fresh (by rw [hn]; exact (inF c hc).1)
  have seqA : ∀ {H' : Hp} {q : Addr} {xs : List V}, Same' H1 D H' → SqL X.K H1 q xs → SqL X.K H' q xs := fun {H' q xs} e r => Same.seq (fun c o hc => by rw [e c (ne_of_none hc nD)]; exact hc) r
  have loop : codeAny (model X.prog X.w) X.A (.compLoop (.ListComp (.Name xn q1) [⟨.Tuple [.Name xn qx, .Name yn qy] kk tpos, .Call (.Name "zip" zp) [e, e2] [] zpos, [.Name yn q2], 0⟩] scope pos) 0 (.ref (n + 4)) (.ref D) ce)
      (compPost (model X.prog X.w) X.A X.xe none (EP X pins σ Q) (.ref D) s3.heap.objs.size) s4 := by
    refine compLoop_any (fun m s' => ∃ k, m + k = ws.length ∧ Inv (Xb X scope s3 (upd H1 D (.lst [])) ce fp p) [] (wipe σ [i, j]) (upd H1 D (.lst ((sel (ws.take k) (bs.take k)).map V.str))) s' ∧ ZSt s'.heap (n + 4) (n + 2) (n + 3) n (n + 1) a b k) ?_ ws.length ⟨0, rfl, by simpa [sel] using I6, Z4⟩
    rintro m s5 ⟨k, hmk, J, Z⟩
    have sm : Same' H1 D (upd H1 D (.lst ((sel (ws.take k) (bs.take k)).map V.str))) := fun c hc => upd_ne hc
    obtain ⟨ya, wa, la, _⟩ := J.list (seqA sm sa)
    obtain ⟨yb, wb, lb, _⟩ := J.list (seqA sm sb)
    have lna := wa.length
    have lnb := wb.length
    rw [List.length_map] at lna lnb
    by_cases hend : k = ws.length
    · refine thnF (zip_end_hot (E := fun _ _ => False) (Q := fun r s' => r = none ∧ Inv (Xb X scope s3 (upd H1 D (.lst [])) ce fp p) [] (wipe σ [i, j]) (upd H1 D (.lst ((sel (ws.take k) (bs.take k)).map V.str))) s') (hotOf J) (nP _ (by rw [← hfp]; simp)) (nP _ (by rw [← hfp]; simp)) D0 Z.hz Z.ti Z.one la.isList (by simp; omega) fun h' kp => ⟨rfl, J.turnedL (t' := s5.toks) (ch := fp) (fun c o hc q => kp c o (fun z => hc (by rw [z, ← hfp]; simp)) (fun z => hc (by rw [z, ← hfp]; simp)) q) (stat J (freeF sm))⟩) fun r s6 ⟨hr, J6⟩ => ?_
      subst hr
      have back : Inv X pins σ (upd H1 D (.lst ((sel (ws.take k) (bs.take k)).map V.str))) s6 := I3.call' (ch := fp) J6.os J6.base J6.hok J6.bare fun c hc => ⟨(f3 c hc).1.2.2.2.1, (f3 c hc).1.2.1, (f3 c hc).1.2.2.2.2.1, (f3 c hc).1.2.2.2.2.2⟩
      have free : (upd H1 D (.lst ((sel (ws.take k) (bs.take k)).map V.str))) s3.heap.objs.size = none := by
        have q : (upd H1 D (.lst ((sel (ws.take k) (bs.take k)).map V.str))) ce.locals = none := J6.free
        rw [ceL] at q
        exact q
      obtain ⟨mm, hns, _⟩ := J6.loc
      have hns : s6.heap.Ns ce.locals mm := hns
      rw [ceL] at hns
      obtain ⟨g0, g1, g2, g3, g4, g5⟩ := I3.fpOk (Nat.le_refl _) free
      refine ⟨mm, hns, fun h' sb' => ⟨.ref D, _, back.turned (t' := s6.toks) (fun c o hc q => (sb'.2 c hc).trans q) g0 g1 g3 g4 g5, rfl, ?_⟩⟩
      rw [hend, List.take_length, hlen, List.take_length]
      exact fin D nD
    · have hlt : k < ws.length := by omega
      obtain ⟨x, hx⟩ : ∃ x, ws[k]? = some x := ⟨_, List.getElem?_eq_getElem hlt⟩
      obtain ⟨f, hf⟩ : ∃ f, bs[k]? = some f := ⟨_, List.getElem?_eq_getElem (by omega)⟩
      obtain ⟨u, hu, ru⟩ := wa.get (i := k) (x := V.str x) (by rw [List.getElem?_map, hx]; rfl)
      obtain ⟨v, hv, rv⟩ := wb.get (i := k) (x := V.bl f) (by rw [List.getElem?_map, hf]; rfl)
      obtain ⟨x0, y0, hTO5⟩ := Z.to_
      refine wpAny_pyNext_zip_item D0 Z.hz Z.ti hTO5 Z.one Z.two la.isList lb.isList (x := u) (y := v) (by simpa using hu) (by simpa using hv) fun ha za toa ona twa pra sza kpa => ?_
      refine wpAny_letOwnedTupleGo_zip (s := { s5 with heap := ha }) za fun hb zb sbb => ?_
      have kab : ∀ c o, c ∉ fp → s5.heap.get? c = some o → hb.get? c = some o := fun c o hc q => (sbb.2 c (fun z => hc (by rw [z, ← hfp]; simp))).trans (kpa c o (fun z => hc (by rw [z, ← hfp]; simp)) (fun z => hc (by rw [z, ← hfp]; simp)) (fun z => hc (by rw [z, ← hfp]; simp)) (fun z => hc (by rw [z, ← hfp]; simp)) q)
      have Jb : Inv (Xb X scope s3 (upd H1 D (.lst [])) ce fp p) [] (wipe σ [i, j]) (upd H1 D (.lst ((sel (ws.take k) (bs.take k)).map V.str))) { s5 with heap := hb } := J.turnedL (t' := s5.toks) (ch := fp) kab (stat J (freeF sm))
      have zlt : n + 4 < s5.heap.objs.size := Heap.lt_size Z.hz
      have Zb : ZSt hb (n + 4) (n + 2) (n + 3) n (n + 1) a b (k + 1) := ⟨zb, (sbb.2 _ D0.TIz).trans (kpa _ _ D0.TIz D0.TITO D0.TIi1 D0.TIi2 Z.ti), ⟨u, v, (sbb.2 _ D0.TOz).trans toa⟩, ona.at fun o q => (sbb.2 _ D0.i1z).trans q, twa.at fun o q => (sbb.2 _ D0.i2z).trans q⟩
      have pair : hb.IsTuple s5.heap.objs.size #[u, v] := ⟨_, (sbb.2 _ (Nat.ne_of_gt zlt)).trans pra, rfl, _, rfl⟩
      have Jp := Jb.pinned (stat Jb (freeF sm)) (by rw [← hfp]; exact Zb.obj)
      rw [arm_assign_Tuple]
      refine wpAny_bind (wpAny_standAt (unpack_hot (hotOf Jb) pair rfl rfl fun hc kpc => ?_))
      have Jc : Inv (Xb X scope s3 (upd H1 D (.lst [])) ce fp p) ([] ++ pinsAt fp hb) (wipe σ [i, j]) (upd H1 D (.lst ((sel (ws.take k) (bs.take k)).map V.str))) { s5 with heap := hc } := Jp.kept (t' := s5.toks) kpc
      have lx' : ce.scope.names.lookup xn = some .local := by rw [ceS]; exact lx
      have ly' : ce.scope.names.lookup yn = some .local := by rw [ceS]; exact ly
      show wpAny _ _ (assignInOrder [assign (.Name xn qx) ce, assign (.Name yn qy) ce] [u, v]) _ _ _
      refine assignInOrder_cons (wpAny_assign_Name (store_ok Jc hN hiN (.inl lx') ru (fun s6 J6 => ?_) (.inr lx')))
      refine assignInOrder_cons (wpAny_assign_Name (store_ok J6 hN hjN (.inl ly') rv (fun s7 J7 => ?_) (.inr ly')))
      refine assignInOrder_nil ?_
      have wl : (wipe σ [i, j]).length = X.N.length := by rw [wipe_length]; exact I.len
      have il : i < (wipe σ [i, j]).length := by rw [wl]; exact (List.getElem?_eq_some_iff.mp hiN).1
      have jl : j < ((wipe σ [i, j]).set i (some (V.str x))).length := by rw [List.length_set, wl]; exact (List.getElem?_eq_some_iff.mp hjN).1
      have atj : (((wipe σ [i, j]).set i (some (V.str x))).set j (some (V.bl f)))[j]? = some (some (V.bl f)) := List.getElem?_set_self jl
      have ati : (((wipe σ [i, j]).set i (some (V.str x))).set j (some (V.bl f)))[i]? = some (some (V.str x)) := by
        rw [List.getElem?_set_ne (Ne.symm hij)]
        exact List.getElem?_set_self il
      have next : ∀ {H' : Hp} {s' : Shared}, H' = upd H1 D (.lst ((sel (ws.take (k + 1)) (bs.take (k + 1))).map V.str)) → Inv (Xb X scope s3 (upd H1 D (.lst [])) ce fp p) ([] ++ pinsAt fp hb) (((wipe σ [i, j]).set i (some (V.str x))).set j (some (V.bl f))) H' s' →
          ∃ m', m' < m ∧ ∃ k', m' + k' = ws.length ∧ Inv (Xb X scope s3 (upd H1 D (.lst [])) ce fp p) [] (wipe σ [i, j]) (upd H1 D (.lst ((sel (ws.take k') (bs.take k')).map V.str))) s' ∧ ZSt s'.heap (n + 4) (n + 2) (n + 3) n (n + 1) a b k' := fun {H' s'} eH J' => by
        subst eH
        refine ⟨m - 1, by omega, k + 1, by omega, (J'.unpinned (pins := [])).weak (by rw [List.length_set, List.length_set]) (fun t y q => ?_), Zb.keep fun c hc o q => (J'.pin (c, o) (List.mem_append_right _ (List.mem_append_right _ (mem_pinsAt (by rw [← hfp]; exact hc) q)))).1⟩
        obtain ⟨_, nin⟩ := wipe_some q
        simp only [List.mem_cons, List.not_mem_nil, or_false, not_or] at nin
        rw [List.getElem?_set_ne (Ne.symm nin.2), List.getElem?_set_ne (Ne.symm nin.1)]
        exact q
      have tst := pts_one (pt_val (pe_var (X := Xb X scope s3 (upd H1 D (.lst [])) ce fp p) (i := j) (x := yn) (pos := q2) hjN (by show Vis ce.scope yn; rw [ceS]; exact vy) dy cy))
      refine thnF (tst.run _ s7 _ _ (fun c H' => c = f ∧ H' = upd H1 D (.lst ((sel (ws.take k) (bs.take k)).map V.str))) J7 ⟨_, atj, f, rfl, rfl, rfl⟩) fun c s8 ⟨H8, J8, ec, eH8⟩ => ?_
      subst ec
      cases c with
      | false =>
        simp only [Bool.false_eq_true, if_false]
        refine next ?_ J8
        rw [eH8, sel_take ws bs k x false hx hf]
        simp
      | true =>
        simp only [if_true]
        have elt := pe_var (X := Xb X scope s3 (upd H1 D (.lst [])) ce fp p) (i := i) (x := xn) (pos := q1) hiN (by show Vis ce.scope xn; rw [ceS]; exact vx) dx cx
        refine thnF (elt.run _ s8 _ _ (fun y H' => y = V.str x ∧ H' = H8) J8 ⟨_, ati, rfl, rfl⟩) fun w' s9 ⟨y, H9, J9, r9, ey, eH9⟩ => ?_
        subst ey eH9
        rw [eH8] at J9
        refine app_ok (X := Xb X scope s3 (upd H1 D (.lst [])) ce fp p) J9 (D := D) (xs := (sel (ws.take k) (bs.take k)).map V.str) upd_same ?_ r9 fun s10 J10 => next ?_ J10
        · have := sel_len (ws.take k) (bs.take k)
          rw [List.length_take] at this
          rw [List.length_map] at zline ⊢
          omega
        · rw [upd_upd, sel_take ws bs k x true hx hf]
          simp
  exact codeAny_compStart_list loop (wpAny_pyIter_zip Z4.hz loop)
end
end RLH
/-! the exception that is handled, read in defs that an except suite calls -/
namespace RLX
open PySem PySem.Spec PyProof.Rows L2 L2H HotX
/-- the exception at a, of the class at D, its fields at dd, is handled and pinned -/
structure ExA (X : Cx) (a D dd : Addr) : Prop where
  pin : ∃ (oe : Obj) (vs : Array Value), (a, oe) ∈ X.pn ∧ L2N.Zn (.ref D) (some dd) oe ∧ oe.data = .fields vs
  hot : X.A.handled = some (.ref a)
theorem ExA.hotC {X : Cx} {a D dd : Addr} (E : ExA X a D dd) : HotC X := by
  obtain ⟨oe, vs, hp, hz, hd⟩ := E.pin
  exact ⟨(a, oe), ⟨E.hot, vs, hd, hz.2.2 vs hd⟩, hp⟩
theorem ExA.inst {X : Cx} {a D dd : Addr} {pins : List (Addr × Obj)} {σ : L2.St} {H : Hp} {s : Shared} {fs : List (Str × V)} (E : ExA X a D dd) (I : Inv X pins σ H s) (hf : H dd = some (.xd fs)) :
    ∃ (oe od : Obj) (mA : Str → Option Value), PySem.W.InstAt s.heap a oe D (some od) ∧ (∀ f, PySem.W.lookIn f od = some (mA f)) ∧ ∀ f, RelO (fs.lookup f) (mA f) := by
  obtain ⟨oe, vs, hp, hz, hd⟩ := E.pin
  obtain ⟨get, _⟩ := I.pin (a, oe) (List.mem_append_left _ hp)
  obtain ⟨mA, hns, hr⟩ := (show ObjOk X.prog X.w H s.heap dd (.xd fs) from I.hok dd _ hf)
  obtain ⟨od, ho, hl⟩ := lookIn_ns hns
  exact ⟨oe, od, mA, ⟨get, hz.1, by unfold PySem.W.notCls; rw [hd] <;> rfl, by rw [hz.2.1]; exact ho⟩, hl, hr⟩
theorem kitE {K : PySem.W.Frag} {D a : Addr} {oe : Obj} {od : Option Obj} (C : ExcC K D) : PySem.W.KitX K (.ref a) (.ref D) fun h => PySem.W.InstAt h a oe D od := by
  obtain ⟨cd, hc, _⟩ := PySem.W.any_some C.hd
  exact PySem.W.kitx_exc (by rw [hc] <;> rfl) C.hg C.hk C.hs C.ha C.hn C.ht C.hm
/-- isinstance(e, C) -/
def rIsX (K : PySem.W.Frag) (D a dd : Addr) : List V → Hp → VK → Prop := fun xs H Q => ∃ (c : Addr) (b : Bool) (fs : List (Str × V)), xs = [.ref a, .ref c] ∧ PySem.W.kitOne K (.ref D) (.ref c) = some b ∧ H dd = some (.xd fs) ∧ Q (.bl b) H
theorem call_isX {X : Cx} {a D dd : Addr} (E : ExA X a D dd) (C : ExcC X.K D) : CallR X (.builtin "isinstance") (rIsX X.K D a dd) := by
  intro pins s σ H xs us Q I r h
  obtain ⟨c, b, fs, rfl, hk, hf, q⟩ := h
  obtain ⟨oe, od, mA, J, _, _⟩ := E.inst I hf
  cases r with
  | cons ra rr =>
    cases rr with
    | cons rc rn =>
      cases rn
      cases ra
      cases rc
      exact PySem.W.kia_one (kitE C) I.kIn J hk (fun z => nomatch z) fun tk => ⟨.bl b, H, I.kept (t' := tk) fun _ _ z => z, rfl, q⟩
/-- isinstance(e, (C, ..)) -/
def rIsXT (K : PySem.W.Frag) (D a dd : Addr) : List V → Hp → VK → Prop := fun xs H Q => ∃ (t : Addr) (cs : List Addr) (b : Bool) (fs : List (Str × V)), xs = [.ref a, .ref t] ∧ H t = some (.tup (cs.map V.ref)) ∧ PySem.W.kitAny K (.ref D) (cs.map Value.ref) = some b ∧ H dd = some (.xd fs) ∧ Q (.bl b) H
theorem vals_refs : ∀ {cs : List Addr} {us : List Value}, Vals (cs.map V.ref) us → us = cs.map Value.ref
  | [], _, .nil => rfl
  | c :: cs, _, .cons r rr => by
    cases r
    rw [vals_refs rr]
    rfl
theorem call_isXT {X : Cx} {a D dd : Addr} (E : ExA X a D dd) (C : ExcC X.K D) : CallR X (.builtin "isinstance") (rIsXT X.K D a dd) := by
  intro pins s σ H xs us Q I r h
  obtain ⟨t, cs, b, fs, rfl, ht, hk, hf, q⟩ := h
  obtain ⟨oe, od, mA, J, _, _⟩ := E.inst I hf
  obtain ⟨_, us', vs', o, ho, hc, n, hd⟩ := (show ObjOk X.prog X.w H s.heap t (.tup (cs.map V.ref)) from I.hok t _ ht)
  have eu := vals_refs vs'
  obtain ⟨oc, od', oda, osl⟩ := o
  dsimp only at hc hd
  subst hc hd eu
  cases r with
  | cons ra rr =>
    cases rr with
    | cons rc rn =>
      cases rn
      cases ra
      cases rc
      exact PySem.W.kia_tup (kitE C) I.kIn J ho hk (fun z => nomatch z) fun tk => ⟨.bl b, H, I.kept (t' := tk) fun _ _ z => z, rfl, q⟩
/-- e.f -/
def tFldX (a dd : Addr) (f : Str) (te : TE) : TE := fun σ H Q => te σ H fun x H1 => ∃ (fs : List (Str × V)) (v : V), x = .ref a ∧ H1 dd = some (.xd fs) ∧ fs.lookup f = some v ∧ Q v H1
theorem pe_fldX {X : Cx} {a D dd : Addr} {e : Expr} {te : TE} {pos : Pos} {n : Str} (E : ExA X a D dd) (C : ExcC X.K D) (hno : PySem.W.findIn X.K (.ref D) n = some none) (he : PE X e te) (hb : attributeBase e n X.env (eval e X.env) = eval e X.env := by rfl) :
    PE X (.Attribute e n pos) (tFldX a dd n te) := by
  refine ⟨fun pins s σ H Q I h => attr_of hb (thn (he.run pins s σ H _ I h) fun u s1 ⟨x, H1, J1, rx, fs, v, ex, hf, l, q⟩ => ?_)⟩
  subst ex
  obtain rfl : u = Value.ref a := rx
  obtain ⟨oe, od, mA, J, hl, hr⟩ := E.inst J1 hf
  obtain ⟨w, hw, rw'⟩ := RelO.some_of (v := v) (o := mA n) (by rw [← l]; exact hr n)
  exact HandSPX.exc_get J1.kIn J C.hg C.hk C.hs (PySem.W.findObj_own C.hd hno rfl (by rw [hl, hw])) (handed_of rw') ⟨v, H1, J1.tok _, rw', q⟩
end RLX
/-! own exceptions over a built-in class: made by the chain of their own __init__ -/
namespace RLX
open PySem PySem.Spec PyProof.Rows L2 L2H HotX
/-- own classes, then the tail -/
def refsT (tail : List Value) : List Value → Bool
  | .ref _ :: r => refsT tail r
  | l => l == tail
theorem refsT_cases {tail : List Value} : ∀ {l : List Value}, refsT tail l = true → (∃ c r, l = .ref c :: r ∧ refsT tail r = true) ∨ l = tail
  | .ref c :: r, h => .inl ⟨c, r, rfl, h⟩
  | [], h => .inr (eq_of_beq h)
  | .none :: _, h | .ellipsis :: _, h | .notImplemented :: _, h | .bool _ :: _, h | .int _ _ :: _, h | .float _ _ :: _, h | .str _ _ :: _, h | .bytes _ _ :: _, h | .type _ :: _, h | .builtin _ :: _, h => .inr (eq_of_beq h)
/-- what is known of the built-in class B -/
structure ExB (B newId initId : String) (tail : List Value) : Prop where
  facts : ExcBaseFacts B newId initId tail
  pass : ∀ self, refuseLoop self "__setattr__" tail = pure ()
  obj : tail.contains (.type "object") = true
theorem exB_V : ExB "ValueError" "ValueError.__new__" "ValueError.__init__" [.type "ValueError", .type "Exception", .type "BaseException", .type "object"] := ⟨F.excBase_ValueError, F.store_ValueError.passes, by decide +kernel⟩
theorem exB_L : ExB "LookupError" "LookupError.__new__" "LookupError.__init__" [.type "LookupError", .type "Exception", .type "BaseException", .type "object"] := ⟨F.excBase_LookupError, F.store_LookupError.passes, by decide +kernel⟩
theorem exB_I : ExB "IndexError" "IndexError.__new__" "IndexError.__init__" [.type "IndexError", .type "LookupError", .type "Exception", .type "BaseException", .type "object"] := ⟨F.excBase_IndexError, F.store_IndexError.passes, by decide +kernel⟩
section
variable {B newId initId : String} {tail : List Value}
theorem refsT_pass (EB : ExB B newId initId tail) (self : Value) : ∀ {l : List Value}, refsT tail l = true → refuseLoop self "__setattr__" l = pure ()
  | l, h => by
    rcases refsT_cases h with ⟨c, r, e, h'⟩ | e
    · subst e
      rw [refuseLoop_ref]
      exact refsT_pass EB self h'
    · rw [e]
      exact EB.pass self
termination_by l => l.length
decreasing_by subst e; simp
theorem refsT_has (Y : String) : ∀ {l : List Value}, refsT tail l = true → l.contains (.type Y) = tail.contains (.type Y)
  | l, h => by
    rcases refsT_cases h with ⟨c, r, e, h'⟩ | e
    · subst e
      rw [List.contains_cons, refsT_has Y h']
      rfl
    · rw [e]
termination_by l => l.length
decreasing_by subst e; simp
/-- what the written part says of an own class over B -/
structure XcC (K : PySem.W.Frag) (newId : String) (tail : List Value) (C : Addr) : Prop where
  cls : ∃ nm q N bs bm sn sub ab col dd k0 k1 k2 k3 k5, K.lookup C = some (excClassObj nm q C N bs bm true sn sub ab col dd k0 k1 k2 k3 k5 newId) ∧ refsT tail bm = true
  sa : PySem.W.findIn K (.ref C) "__setattr__" = some (some (.builtin "object.__setattr__"))
  exC : PySem.W.subIn K (.ref C) (.type "BaseException") = some true
  tyC : PySem.W.typeIn K (.ref C) = some (.type "type")
  kC : PySem.W.keepIn K (.ref C) = true
section
open Builtin Builtin.ObjectAttr
variable {prog : Program} {w : World} {A : Around} {E : Value → Shared → Prop} {R : Result → Shared → Prop} {hp : Heap} {g : Array GenState} {d : Drawn} {t : Nat} {os : OsState}
/-- up to the own dict -/
theorem osaX {K : PySem.W.Frag} {name : Str} {tk : Tok} {v : Value} {x C : Addr} {ox : Obj} {od : Option Obj} {cd : ClassData} (EB : ExB B newId initId tail) (X : K.In hp) (I : PySem.W.InstAt hp x ox C od) (hcd : PySem.W.clsIn K C = some cd) {bm : List Value} (hm : cd.mro = .ref C :: bm) (hr : refsT tail bm = true)
    (ha : PySem.W.findIn K (.ref C) name = some none)
    (hq : wpAny (model prog w) A.in1 (storeInOwnDict (.ref x) (.ref C) (.str name tk) name v false) (fun fin s' => match fin with | .done f => R (.ok f) s' | .again c' => c'.quiet = true ∧ codeAny (model prog w) A c' R s') (fun e s' => R (.error e) s') ⟨hp, g, d, t, os⟩) :
    codeAny (model prog w) A (.call (.builtin "object.__setattr__") ⟨[.ref x, .str name tk, v], []⟩) R ⟨hp, g, d, t, os⟩ := by
  have hr2 : refsT tail cd.mro = true := by rw [hm]; exact hr
  have ob : PySem.W.mroIn K C (.type "object") = some true := by
    unfold PySem.W.mroIn
    rw [hcd, Option.bind_some, if_neg (by rw [hm]; exact Bool.false_ne_true), refsT_has "object" hr2, EB.obj]
  have one : PySem.W.Looks (model prog w) hp (isInstance (.ref x) (.type "object")) true := I.type.andThen (PySem.W.looks_mroIn X ob)
  have two : PySem.W.Looks (model prog w) hp (mroOf (.ref C)) cd.mro := (PySem.W.looks_clsIn X hcd).andThen .now
  refine codeAny_call_builtin F.store_object.slot.plain F.store_object.entry (@PySem.W.check_slot (model prog w) _ _ ⟨hp, g, d, t, os⟩ "object.__setattr__" "object" "__setattr__" (.ref x) [.str name tk, v] [] _ F.store_object.kind F.store_object.split one (F.store_object.args (.ref x) (.str name tk) v) ?_)
  rw [PySem.W.osa_eq, refuse_eq]
  refine wpAny_bind (wpAny_bind (I.type.at (wpAny_bind (two.at ?_))))
  rw [refsT_pass EB (.ref x) hr2]
  have three : PySem.W.Looks (model prog w) hp (storeTaker? none) none := .now
  exact wpAny_pure (wpAny_bind (I.type.at (wpAny_bind ((PySem.W.looks_findIn X ha).at (wpAny_bind (three.at hq))))))
theorem osaX_new {K : PySem.W.Frag} {name : Str} {tk : Tok} {v : Value} {x C : Addr} {fv : Array Value} {cd : ClassData} (EB : ExB B newId initId tail) (X : K.In hp) (hx : hp.get? x = some { cls := .ref C, data := .fields fv }) (hcd : PySem.W.clsIn K C = some cd) {bm : List Value} (hm : cd.mro = .ref C :: bm) (hr : refsT tail bm = true) (hh : cd.hasDict = true)
    (ha : PySem.W.findIn K (.ref C) name = some none)
    (hq : ∀ h' tk' dx, (∀ b o, b ≠ x → hp.get? b = some o → h'.get? b = some o) → hp.objs.size ≤ dx → dx ≠ x → h'.get? x = some { cls := .ref C, dict := some dx, data := .fields fv } → h'.Ns1 dx (fun y => if y = name then some v else none) → R (.ok (.ret .none)) ⟨h', g, d, tk', os⟩) :
    codeAny (model prog w) A (.call (.builtin "object.__setattr__") ⟨[.ref x, .str name tk, v], []⟩) R ⟨hp, g, d, t, os⟩ := by
  have lt : x ≠ hp.objs.size := Nat.ne_of_lt (Heap.lt_size hx)
  refine osaX (od := none) EB X ⟨hx, rfl, rfl, trivial⟩ hcd hm hr ha ?_
  have four : PySem.W.Looks (model prog w) hp (classData C) cd := PySem.W.looks_clsIn X hcd
  obtain ⟨c1, c2, c3, c4, c5, c6, c7, c8, c9, c10, c11⟩ := cd
  dsimp only at hh hm
  subst hh
  unfold storeInOwnDict ownDictForStores
  repeat (first | with_reducible refine four.at ?_ | with_reducible refine wpAny_loadPart_at hx ?_ | with_reducible refine HandSPX.store_in_new ?_ ?_ | wp_step)
  · exact ⟨_, #[], _, (Heap.get?_update_ne _ _ _ _ (Ne.symm lt)).trans (Heap.get?_push_at rfl rfl), rfl, fun e he => absurd he (by simp), fun _ => rfl⟩
  · intro h' tk' n1 sb
    refine hq h' tk' hp.objs.size (fun b o hb ho => ?_) (Nat.le_refl _) (Ne.symm lt) ?_ n1
    · rw [sb.2 b (Nat.ne_of_lt (Heap.lt_size ho)), Heap.get?_update_ne _ _ _ _ hb]
      exact Heap.get?_push_of_some _ ho
    · rw [sb.2 x lt]
      exact Heap.get?_update_self _ (Heap.get?_push_of_some _ hx) rfl
theorem osaX_old {K : PySem.W.Frag} {name : Str} {tk : Tok} {v : Value} {x C dx : Addr} {fv : Array Value} {cd : ClassData} {m0 : Str → Option Value} {nl : List Str} (EB : ExB B newId initId tail) (X : K.In hp) (hx : hp.get? x = some { cls := .ref C, dict := some dx, data := .fields fv }) (hn : hp.Ns1 dx m0) (hw : Within m0 nl) (hz : nl.length ≤ 1000)
    (hcd : PySem.W.clsIn K C = some cd) {bm : List Value} (hm : cd.mro = .ref C :: bm) (hr : refsT tail bm = true) (hh : cd.hasDict = true) (ha : PySem.W.findIn K (.ref C) name = some none)
    (hq : ∀ h' tk', (∀ b o, b ≠ dx → hp.get? b = some o → h'.get? b = some o) → h'.Ns1 dx (fun y => if y = name then some v else m0 y) → R (.ok (.ret .none)) ⟨h', g, d, tk', os⟩) :
    codeAny (model prog w) A (.call (.builtin "object.__setattr__") ⟨[.ref x, .str name tk, v], []⟩) R ⟨hp, g, d, t, os⟩ := by
  obtain ⟨oD, _, _, ho, _, _⟩ := hn.count hw
  refine osaX (od := some oD) EB X ⟨hx, rfl, rfl, ho⟩ hcd hm hr ha ?_
  have four : PySem.W.Looks (model prog w) hp (classData C) cd := PySem.W.looks_clsIn X hcd
  obtain ⟨c1, c2, c3, c4, c5, c6, c7, c8, c9, c10, c11⟩ := cd
  dsimp only at hh hm
  subst hh
  unfold storeInOwnDict ownDictForStores
  repeat (first | with_reducible refine four.at ?_ | with_reducible refine wpAny_loadPart_at hx ?_ | with_reducible refine OEX.store_in_old hn hw hz ?_ | wp_step)
  exact fun h' tk' n1 sb => hq h' tk' (fun b o hb ho => (sb.2 b hb).trans ho) n1
end
end
end RLX
/-! .. the rules -/
namespace RLX
open PySem PySem.Spec PyProof.Rows L2 L2H HotX
variable {B newId initId : String} {tail : List Value}
theorem XcC.data {K : PySem.W.Frag} {C : Addr} (T : XcC K newId tail C) : ∃ cd bm, PySem.W.clsIn K C = some cd ∧ cd.mro = .ref C :: bm ∧ refsT tail bm = true ∧ cd.hasDict = true := by
  obtain ⟨nm, q, N, bs, bm, sn, sub, ab, col, dd, k0, k1, k2, k3, k5, hC, hb⟩ := T.cls
  refine ⟨_, bm, (by unfold PySem.W.clsIn; rw [hC] <;> rfl), rfl, hb, rfl⟩
section
variable {X : Cx} {pins : List (Addr × Obj)} {σ : L2.St} {H : Hp} {s : Shared} {a C dx : Addr} {f : Str} {y : V} {u : Value} {fs : List (Str × V)} {Q : Unit → Shared → Prop} {E : Value → Shared → Prop} {A : Around}
/-- the first field -/
theorem put_first (EB : ExB B newId initId tail) (T : XcC X.K newId tail C) (I : Inv X pins σ H s) (ea : H a = some (exo a C none)) (hno : PySem.W.findIn X.K (.ref C) f = some none) (ry : RelV y u)
    (h : ∀ dx s', H dx = none → dx ≠ a → Inv X pins σ (upd (upd H dx (exd dx [(f, y)])) a (exo a C (some dx))) s' → Q () s') : wpAny (model X.prog X.w) A (setAttr (.ref a) f u) Q E s := by
  obtain ⟨cd, bm, hcd, hm, hr, hh⟩ := T.data
  obtain ⟨t1, ho⟩ := exo_at I.hok ea
  obtain ⟨hp, g, d, t, os⟩ := s
  refine PySem.W.set_plain I.kIn (od := none) ⟨ho, rfl, rfl, trivial⟩ T.sa (osaX_new EB I.kIn ho hcd hm hr hh hno fun h' tk' dx k ge ne hx hn => ?_)
  have nd : H dx = none := I.hok.fresh ge
  have old : ∀ {b : Addr} {o : Obj}, hp.get? b = some o → b ≠ dx := fun q => Nat.ne_of_lt (Nat.lt_of_lt_of_le (Heap.lt_size q) ge)
  have na : ∀ {b : Addr}, H b = none → b ≠ a := fun {b} n z => by
    rw [z, ea] at n
    cases n
  have at_ : ∀ {b : Addr} {o : HO}, H b = some o → o ≠ exo a C none → upd (upd H dx (exd dx [(f, y)])) a (exo a C (some dx)) b = some o := fun {b o} q n => by
    rw [upd_ne (fun z => n (by rw [z, ea] at q; exact (Option.some.inj q).symm)), upd_ne (ne_of_none q nd)]
    exact q
  refine h dx _ nd ne (I.un (t' := tk') (H' := upd (upd H dx (exd dx [(f, y)])) a (exo a C (some dx))) ⟨fun b o q n _ _ => k b o (na n) q, fun b o q n _ _ => ⟨o.slots, k b o (na n) q⟩, fun b o q n _ => by rw [upd_ne (na n), upd_ne (old q)]; exact n, fun b o q _ => ?_, fun b xs q => at_ q (Ne.symm exo_tup), fun b o v q => at_ q (Ne.symm exo_frz), fun b ps q => ⟨#[], by rw [at_ q (Ne.symm exo_tbl)]; simp⟩⟩ fun b o q => ?_)
  · by_cases hb : b = a
    · exact ⟨_, by rw [hb]; exact hx⟩
    · exact ⟨o, k b o hb q⟩
  · by_cases hb : b = a
    · subst hb
      rw [upd_same] at q
      cases q
      exact exo_ok hx
    · rw [upd_ne hb] at q
      by_cases hd : b = dx
      · subst hd
        rw [upd_same] at q
        cases q
        exact exd_ok hn (relO_put (fs := []) ry fun g => True.intro)
      · rw [upd_ne hd] at q
        refine (I.hok b o q).stay (fun c v hc z => k c v ?_ z) (fun c hc => at_ hc (Ne.symm exo_own)) (fun c xs hc => at_ hc (Ne.symm exo_tup))
        rcases hc with hc | hc
        · rw [hc]
          exact hb
        · exact at_ne ea hc exo_own
/-- a further one -/
theorem put_more (EB : ExB B newId initId tail) (T : XcC X.K newId tail C) (I : Inv X pins σ H s) (ea : H a = some (exo a C (some dx))) (ed : H dx = some (exd dx fs)) (hl : fs.length ≤ 900) (hno : PySem.W.findIn X.K (.ref C) f = some none) (ry : RelV y u)
    (h : ∀ s', Inv X pins σ (upd H dx (exd dx ((f, y) :: fs))) s' → Q () s') : wpAny (model X.prog X.w) A (setAttr (.ref a) f u) Q E s := by
  obtain ⟨cd, bm, hcd, hm, hr, hh⟩ := T.data
  obtain ⟨t1, ho⟩ := exo_at I.hok ea
  obtain ⟨mA, hn, rel⟩ := exd_at I.hok ed
  obtain ⟨hp, g, d, t, os⟩ := s
  obtain ⟨oD, _, _, hoD, _, _⟩ := hn.count (within_of rel)
  refine PySem.W.set_plain I.kIn (od := some oD) ⟨ho, rfl, rfl, hoD⟩ T.sa (osaX_old EB I.kIn ho hn (within_of rel) (by rw [List.length_map]; omega) hcd hm hr hh hno fun h' tk' k n1 => ?_)
  obtain ⟨o1, _, _, e1, _⟩ := id n1
  exact h _ (I.write (t' := tk') (x := dx) (e := dx) (o := exd dx ((f, y) :: fs)) (by rw [ed]; exact True.intro) (.inl rfl) k ⟨o1, e1⟩ (exd_ok n1 (relO_put ry rel)))
/-- B.__init__(self, ..) tells nothing -/
theorem base_init {us : List Value} {Q : Value → Shared → Prop} (EB : ExB B newId initId tail) (T : XcC X.K newId tail C) (I : Inv X pins σ H s) (ea : H a = some (exo a C none)) (hl : us.length ≤ sizeLine) (h : ∀ s', Inv X pins σ H s' → Q .none s') :
    wpAny (model X.prog X.w) A (call (.builtin initId) (.ref a :: us)) Q E s := by
  obtain ⟨nm, q, N, bs, bm, sn, sub, ab, col, dd, k0, k1, k2, k3, k5, hC, hb⟩ := T.cls
  obtain ⟨t1, ho⟩ := exo_at I.hok ea
  obtain ⟨hp, g, d, t, os⟩ := s
  refine wpAny_call (PySem.HandSPX.init_base EB.facts (fun Y => refsT_has Y hb) (I.kIn _ _ hC) ho hl fun h' t2 k hx => ?_)
  have J := I.write (t' := t) (x := a) (e := a) (o := exo a C none) (by rw [ea]; exact True.intro) (.inl rfl) k ⟨_, hx⟩ (exo_ok hx)
  rw [show upd H a (exo a C none) = H from funext fun b => by
    by_cases hb : b = a
    · rw [hb, upd_same, ea]
    · rw [upd_ne hb]] at J
  exact h _ J
end
/-- self.f = e on an exception that is being made -/
def tPut (K : PySem.W.Frag) (newId : String) (tail : List Value) (f : Str) (to te : TE) : TS := fun D σ H => te σ H fun y H1 => to σ H1 fun x H2 => ∃ a C : Addr, x = .ref a ∧ XcC K newId tail C ∧ PySem.W.findIn K (.ref C) f = some none ∧
  ((H2 a = some (exo a C none) ∧ ∀ dx, H2 dx = none → dx ≠ a → D.nx σ (upd (upd H2 dx (exd dx [(f, y)])) a (exo a C (some dx)))) ∨
    ∃ (dx : Addr) (fs : List (Str × V)), H2 a = some (exo a C (some dx)) ∧ H2 dx = some (exd dx fs) ∧ fs.length ≤ 900 ∧ D.nx σ (upd H2 dx (exd dx ((f, y) :: fs))))
/-- B.__init__(self, ..) -/
def tBase (K : PySem.W.Frag) (newId : String) (tail : List Value) (ta : TA) : TE := fun σ H Q => ta σ H fun vs H1 => ∃ (a C : Addr) (ws : List V), vs = .ref a :: ws ∧ ws.length ≤ 1000 ∧ XcC K newId tail C ∧ H1 a = some (exo a C none) ∧ Q .non H1
section
variable {X : Cx} {o e : Expr} {es : List Expr} {to te : TE} {ta : TA} {f : Str} {p p' p1 p2 pos : Pos}
theorem ps_put (EB : ExB B newId initId tail) (ho : PE X o to) (he : PE X e te) (hs : swapsWith e (some (.Attribute o f p')) pos.line X.env = pure false := by rfl) : PS X (.Assign [.Attribute o f p'] e pos) (tPut X.K newId tail f to te) := by
  refine ⟨fun pins s σ H D I h => plainObj_wpAny_Assign_Attribute (thn (he.run pins s σ H _ I h) fun v s1 ⟨y, H1, J1, r1, q1⟩ => thn (ho.run pins s1 σ H1 _ J1 q1) fun u s2 ⟨x, H2, J2, r2, a, C, ex, T, hno, q⟩ => ?_) hs⟩
  subst ex
  obtain rfl : u = Value.ref a := r2
  rcases q with ⟨ea, q⟩ | ⟨dx, fs, ea, ed, hl, q⟩
  · exact put_first EB T J2 ea hno r1 fun dx s' n ne J => ⟨σ, _, J, q dx n ne⟩
  · exact put_more EB T J2 ea ed hl hno r1 fun s' J => ⟨σ, _, J, q⟩
theorem pe_base {T : String} {pl : Sem Bool} (EB : ExB B newId initId tail) (hb : bootBuiltins (Str.ofString T) = some (.type T)) (ht : typeOf (.type T) = pure (.type "type")) (hst : Manifest.isStub T = false) (hg : Gl X (Str.ofString T)) (hm : X.mg (Str.ofString T) = none) (n1 : Str.ofString T ≠ "__name__") (n2 : (Str.ofString T == ("__debug__" : Str)) = false)
    (vV : PySem.W.findCls X.K (.type T) (.type "type") "__init__" = some (.val (.builtin initId))) (hh : PySem.W.handedIn (.builtin initId) = true) (ha : PA X (e :: es) ta)
    (hc : eval (.Call (.Attribute (.Name (Str.ofString T) p1) "__init__" p2) (e :: es) [] pos) X.env = (do
      let ov ← eval (.Name (Str.ofString T) p1) X.env
      standAt p2.atName
      let (f, first) ← holding [ov] (getMethod ov "__init__" pl)
      callWith pos f first (backTo pos (starEach (e :: es) X.env)) (backToKw pos (keywordEach [] X.env))) := by rfl)
    (he : starEach (e :: es) X.env = (false, eval e X.env) :: starEach es X.env := by rfl) (hpl : (backTo pos (starEach es X.env)).any (·.1) = false := by rfl) :
    PE X (.Call (.Attribute (.Name (Str.ofString T) p1) "__init__" p2) (e :: es) [] pos) (tBase X.K newId tail ta) := by
  refine ⟨fun pins s σ H Q I h => PySem.W.methodCall_KW (ld_blt I hg hm hb ?_ n1 n2) hc⟩
  obtain ⟨m, fr⟩ := I.fr
  refine PySem.W.method_type fr I.ok.mod.kin ht hst vV hh ?_
  refine PyProof.Rows.callWith_method1 (first := []) (thn (ha.run pos pins _ σ H _ (I.tok _) h) fun us s1 ⟨vs, H1, J1, r1, a, C, ws, ev, hl, Tc, ea, q⟩ => ?_) he hpl
  subst ev
  cases r1 with
  | @cons _ u0 _ ur ra rr =>
    obtain rfl : u0 = Value.ref a := ra
    exact base_init EB Tc J1 ea (by rw [← Paired.length rr, sizeLine_eq]; omega) fun s' J => ⟨.non, H1, J, rfl, q⟩
/-- C.__init__(self, ..), C an own class -/
theorem pe_own {CX : CXT} {x : Str} {C fI : Addr} {k : Nat} {fd : FuncData} {ps : List Str} {sp : Sp} {mc : Value} {ds : List Value} {dvs : List V} {E : XK} {pl : Sem Bool} (hg : Gl X x) (hm : X.mg x = some (.ref C)) (hga : PySem.W.specialIn X.K (.ref C) "__getattribute__" = some (some (.builtin "type.__getattribute__"))) (hrd : PySem.W.readsIn X.K C mc = true)
    (hf : PySem.W.findCls X.K (.ref C) mc "__init__" = some (.val (.ref fI))) (hk : PySem.W.keepIn X.K (.ref fI) = true) (Fn : FnOk X.prog X.w X.K X.mg X.base CX k fI fd ps sp) (hr : Room k X.A) (hb : Binds X.K fd ps ds) (hd : Vals dvs ds) (hx : Passes CX X E) (ha : PA X (e :: es) ta) (hdb : (x == ("__debug__" : Str)) = false := by decide)
    (hc : eval (.Call (.Attribute (.Name x p1) "__init__" p2) (e :: es) [] pos) X.env = (do
      let ov ← eval (.Name x p1) X.env
      standAt p2.atName
      let (f, first) ← holding [ov] (getMethod ov "__init__" pl)
      callWith pos f first (backTo pos (starEach (e :: es) X.env)) (backToKw pos (keywordEach [] X.env))) := by rfl)
    (he : starEach (e :: es) X.env = (false, eval e X.env) :: starEach es X.env := by rfl) (hpl : (backTo pos (starEach es X.env)).any (·.1) = false := by rfl) :
    PE X (.Call (.Attribute (.Name x p1) "__init__" p2) (e :: es) [] pos) (fun σ H Q => ta σ H fun vs H1 => sp (vs ++ dvs) H1 Q E) := by
  refine ⟨fun pins s σ H Q I h => PySem.W.methodCall_KW (ld_glob I hg hm ?_ hdb) hc⟩
  refine PySem.W.method_cls I.kIn hga (PySem.W.cls_value I.kIn hrd hf rfl ?_)
  refine PySem.W.callWith_K (first := []) (h₀ := X.base) I.ok.mod.kin hk (thn (ha.run pos pins _ σ H _ (I.tok _) h) fun us s1 ⟨vs, H1, J1, r1, q1⟩ => ⟨J1.kIn, ?_⟩) he hpl
  exact run_fn Fn hr hb hd hx J1 r1 q1
end
end RLX
/-! C(e, ..): an own exception, made where nothing is handled -/
namespace RLX
open PySem PySem.Spec PyProof.Rows L2 L2H HotX
variable {B newId initId : String} {tail : List Value}
/-- C(vs), C's own __init__ keeping sp -/
def rMk (C : Addr) (sp : Sp) (vs : List V) (H : Hp) (Q : XK) : Prop := vs.length ≤ 1000 ∧ ∀ a, H a = none → sp (.ref a :: vs) (upd H a (exo a C none))
  (fun v H2 => v = .non ∧ ∃ (d : Addr) (fs : List (Str × V)), H2 a = some (exo a C (some d)) ∧ H2 d = some (exd d fs) ∧ H d = none ∧ Q (.ref C) (some d) (upd (del H2 a) d (.xd fs))) E0
def tMkX (C : Addr) (sp : Sp) (ta : TA) : L2.St → Hp → XK → Prop := fun σ H Q => ta σ H fun vs H1 => rMk C sp vs H1 Q
section
variable {X : Cx} {e : Expr} {es : List Expr} {ta : TA} {p pos : Pos} {C fI : Addr} {k : Nat} {fd : FuncData} {ps : List Str} {sp : Sp} {x : Str}
theorem run_mkX {pins : List (Addr × Obj)} {σ : L2.St} {H : Hp} {s : Shared} {Q : XK} {vs : List V} {us : List Value} (EB : ExB B newId initId tail) (T : XcC X.K newId tail C) (iC : PySem.W.findIn X.K (.ref C) "__init__" = some (some (.ref fI))) (tI : PySem.W.typeIn X.K (.ref fI) = some (.type "function"))
    (Fn : FnOk X.prog X.w X.K X.mg X.base CX0 k fI fd ps sp) (hr : Room (k + 1) X.A) (hb : Binds X.K fd ps []) (I : Inv X pins σ H s) (r : Vals vs us) (h : rMk C sp vs H Q) : wpAny (model X.prog X.w) X.A (call (.ref C) us) (L2N.MkP X pins σ Q) X.xe s := by
  obtain ⟨nm, q, N, bs, bm, sn, sub, ab, col, dd, k0, k1, k2, k3, k5, hC, hbm⟩ := T.cls
  obtain ⟨hz, hq⟩ := h
  obtain ⟨hp, g, dr, tk, os⟩ := s
  have ge : hp.objs.size ≤ hp.objs.size + 1 := Nat.le_succ _
  have hq := hq (hp.objs.size + 1) (I.hok.fresh ge)
  generalize hh2 : ((hp.push (PySem.W.kdv_tup us)).push (PySem.HandSPX.excO C hp.objs.size)) = hp2
  have kk : ∀ b o, hp.get? b = some o → hp2.get? b = some o := fun b o z => by rw [← hh2]; exact RLH.push2 z
  have hget : hp2.get? (hp.objs.size + 1) = some (PySem.HandSPX.excO C hp.objs.size) := by rw [← hh2]; heap_get
  have J : Inv X pins σ (upd H (hp.objs.size + 1) (exo (hp.objs.size + 1) C none)) ⟨hp2, g, dr, tk, os⟩ := I.laid (t' := tk) (a := hp.objs.size + 1) (o := exo (hp.objs.size + 1) C none) kk ge (exo_ok hget)
  have r2 : Vals (V.ref (hp.objs.size + 1) :: vs) (Value.ref (hp.objs.size + 1) :: us) := .cons rfl r
  have hl : (Value.ref (hp.objs.size + 1) :: us).length = ps.length := by rw [← r2.length]; exact Fn.len _ _ _ _ hq
  have bnd := hb _ (Value.ref (hp.objs.size + 1) :: us) J.kIn (by rw [List.append_nil]; exact hl)
  rw [List.append_nil] at bnd
  refine wpAny_call (PySem.HandSPX.call_own EB.facts (fun Y => refsT_has Y hbm) (I.kIn _ _ hC) (PySem.W.looks_findIn I.kIn iC) (fun self => PySem.W.bind_fn I.kIn self tI) (by rw [← Paired.length r, sizeLine_eq]; omega) ?_)
  rw [hh2]
  refine codeAny_mono (Fn.run _ X.stack _ _ ⟨Value.ref (hp.objs.size + 1) :: us, []⟩ (Value.ref (hp.objs.size + 1) :: us) _ _ E0 (hr.make C us []) (J.env0.make C us []) bnd r2 hq) fun res s' hres => ?_
  cases res with
  | error er => exact hres.elim
  | ok fl =>
    cases fl with
    | ret u =>
      obtain ⟨v, H2, os2, bare2, un2, hok2, rv, ev, d, fs, ea, ed, hd1, q2⟩ := hres
      subst ev
      obtain ⟨h2, g2, d2, t2, os'⟩ := s'
      obtain ⟨t0, G, J2, kG, gn, hoe, na⟩ := mk_end0 (d2 := d2) (t2 := t2) I ge kk un2 hok2 os2 bare2 ea ed hd1
      exact ⟨rv, hp.objs.size + 1, _, _, ⟨G, g2, d2, t2, os'⟩, _, .ref C, some d, rfl, J2, kG, gn, hoe, ⟨rfl, rfl, fun ws hv => by cases hv; rfl⟩, rfl, rfl, na, rfl, bare2, raises_own T.exC T.tyC, q2⟩
    | next => exact hres.elim
    | brk => exact hres.elim
    | cont => exact hres.elim
theorem pmkX (EB : ExB B newId initId tail) (T : XcC X.K newId tail C) (iC : PySem.W.findIn X.K (.ref C) "__init__" = some (some (.ref fI))) (tI : PySem.W.typeIn X.K (.ref fI) = some (.type "function"))
    (Fn : FnOk X.prog X.w X.K X.mg X.base CX0 k fI fd ps sp) (hr : Room (k + 1) X.A) (hb : Binds X.K fd ps []) (hg : Gl X x) (hm : X.mg x = some (.ref C)) (ha : PA X (e :: es) ta)
    (hdb : (x == ("__debug__" : Str)) = false := by decide) (he : starEach (e :: es) X.env = (false, eval e X.env) :: starEach es X.env := by rfl) (hpl : (backTo pos (starEach es X.env)).any (·.1) = false := by rfl) :
    L2N.PMk X (.Call (.Name x p) (e :: es) [] pos) (tMkX C sp ta) := fun pins s σ H Q I h =>
  wpAny_Call_Name_kw (ld_glob I hg hm (PySem.W.callWith_K (first := []) (h₀ := X.base) I.ok.mod.kin T.kC (thn (ha.run pos pins s σ H _ I h) fun us s1 ⟨vs, H1, J1, r1, q1⟩ => ⟨J1.kIn, run_mkX EB T iC tI Fn hr hb J1 r1 q1⟩) he hpl) hdb)
theorem pmkX0 (EB : ExB B newId initId tail) (T : XcC X.K newId tail C) (iC : PySem.W.findIn X.K (.ref C) "__init__" = some (some (.ref fI))) (tI : PySem.W.typeIn X.K (.ref fI) = some (.type "function"))
    (Fn : FnOk X.prog X.w X.K X.mg X.base CX0 k fI fd ps sp) (hr : Room (k + 1) X.A) (hb : Binds X.K fd ps []) (hg : Gl X x) (hm : X.mg x = some (.ref C)) (hdb : (x == ("__debug__" : Str)) = false := by decide) :
    L2N.PMk X (.Call (.Name x p) [] [] pos) (fun _ H Q => rMk C sp [] H Q) := fun pins s σ H Q I h =>
  wpAny_Call_Name_kw (ld_glob I hg hm (PySem.W.callWith_K0 (first := []) I.kIn T.kC (run_mkX EB T iC tI Fn hr hb I .nil h)) hdb)
end
end RLX
/-! defs that an except suite calls with what it has caught -/
namespace RLX
open PySem PySem.Spec PyProof.Rows L2 L2H HotX
/-- a promise of a def that is called while the exception at a (of the class at D, its fields at dd) is handled -/
abbrev SpX := Addr → Addr → Addr → List V → Hp → VK → Prop
structure FnX (P : Program) (w : World) (K : PySem.W.Frag) (mg : Str → Option Value) (base : Heap) (k : Nat) (f : Addr) (fd : FuncData) (ps : List Str) (sp : SpX) : Prop where
  len : ∀ a D dd vs H Q, sp a D dd vs H Q → vs.length = ps.length
  run : ∀ (A : Around) (outer : List Env) (s : Shared) (H : Hp) (args : Args) (us : List Value) (vs : List V) (Q : VK) (p : Addr × Obj) (D dd : Addr), RoomH k A → Hot1 A p → PinOk outer H s p → L2N.Zn (.ref D) (some dd) p.2 → Env0 P w K mg base A outer s H → BindsTo s fd args (ps.zip us) → Vals vs us → sp p.1 D dd vs H Q →
    codeAny (model P w) A (.call (.ref f) args) (CR CX0 outer P w H s Q E0) s
section
variable {P : Program} {w : World} {K : PySem.W.Frag} {mg : Str → Option Value} {base : Heap} {x qual : Str} {params : Arguments} {body : List Stmt} {scope : Scope} {dvs : List V} {kws : List (Str × V)} {f : Addr} {fd : FuncData}
theorem fnX_of {N ps : List Str} {k : Nat} {sp : SpX} (F : FunD K x qual params body scope dvs kws f fd) (S : FnScope N ps scope) (len : ∀ a D dd vs H Q, sp a D dd vs H Q → vs.length = ps.length)
    (hbody : ∀ (X : Cx) (a D dd : Addr) (H : Hp) (vs : List V) (Q : VK), (∃ (cdv : Value) (A : Around) (outer : List Env) (s : Shared) (p : Addr × Obj), X = (cxH CX0 P w K mg base N qual scope f cdv A outer s H E0 p).nox) → ExA X a D dd → RoomH k X.A → sp a D dd vs H Q →
      ∃ t, PSs X body t ∧ t { nx := fun _ H' => Q .non H', rt := Q } (L2.start N vs) H) : FnX P w K mg base (k + 1) f fd ps sp := by
  obtain ⟨oc, od, dV, kV, doc, pm, an, cdv, ct, osl, rfl, lk, hcd, _, _⟩ := F.ex
  refine ⟨len, fun A outer s H args us vs Q p D dd hr hot hpin hz e0 hb r hsp => ?_⟩
  have KX : K.In s.heap := e0.mod.kin.keeps fun b o e => (e0.bs b o e).1
  have lim : s.heap.NoLimit := e0.mod.nolimit.keeps fun b o e => (e0.bs b o e).1
  refine codeAny_call_function hr.depth (KX _ _ lk) rfl S.co S.gen rfl (PySem.W.codeRec_of KX hcd) (hb _ _ _ _ (wpAny_newFunctionEnv_cells S.kind (fun y hy => ?_) fun env he s1 xx => ?_))
  · obtain ⟨n, v⟩ := y
    rcases S.par n (List.of_mem_zip hy).1 with q | q
    · exact .inl q
    · exact .inr ⟨q, PySem.W.cellsFrom_some _ _ _ (.inl q)⟩
  · subst he
    obtain ⟨hh, v1, d1, c1⟩ := hot
    have EX : ExA (cxH CX0 P w K mg base N qual scope f cdv A outer s H E0 p).nox p.1 D dd := ⟨⟨p.2, v1, by simp [cxH, Cx.nox], hz, d1⟩, hh⟩
    obtain ⟨t, ht, hq⟩ := hbody _ p.1 D dd H vs Q ⟨cdv, A, outer, s, p, rfl⟩ EX (hr.deeper _) hsp
    have I : Inv (cxH CX0 P w K mg base N qual scope f cdv A outer s H E0 p) [] (L2.start N vs) H s1 := inv_startH S hpin e0 (len _ _ _ _ _ _ hsp) r xx
    refine ⟨lim.keeps xx.toInCall.keep, codeAny_func (wpAny_mono (ht.nox.run [] s1 (L2.start N vs) H _ I hq) (fun fl s' hs => ?_) fun e s' hs => hs)⟩
    cases fl with
    | ret u =>
      obtain ⟨v, σ', H', J, rv, q⟩ := hs
      exact ⟨v, H', J.os, J.bare, J.base, J.hok, rv, q⟩
    | next =>
      obtain ⟨σ', H', J, q⟩ := hs
      exact ⟨V.non, H', J.os, J.bare, J.base, J.hok, rfl, q⟩
    | brk =>
      obtain ⟨_, _, _, q⟩ := hs
      exact q.elim
    | cont =>
      obtain ⟨_, _, _, q⟩ := hs
      exact q.elim
end
section
variable {X : Cx} {k : Nat} {f a D dd : Addr} {fd : FuncData} {ps : List Str} {sp : SpX} {x : Str} {q pos : Pos} {e : Expr} {es : List Expr} {t : TA}
theorem pe_callX (Fn : FnX X.prog X.w X.K X.mg X.base k f fd ps sp) (hr : RoomH k X.A) (EX : ExA X a D dd) (hg : Gl X x) (hm : X.mg x = some (.ref f)) (hk : PySem.W.keepIn X.K (.ref f) = true) (hb : Binds X.K fd ps []) (ha : PA X (e :: es) t)
    (hdb : (x == ("__debug__" : Str)) = false := by decide) (he : starEach (e :: es) X.env = (false, eval e X.env) :: starEach es X.env := by rfl) (hpl : (backTo pos (starEach es X.env)).any (·.1) = false := by rfl) :
    PE X (.Call (.Name x q) (e :: es) [] pos) (fun σ H Q => t σ H fun vs H1 => sp a D dd vs H1 Q) := by
  refine ⟨fun pins s σ H Q I h => wpAny_Call_Name_kw (ld_glob I hg hm (PySem.W.callWith_K (first := []) (h₀ := X.base) I.ok.mod.kin hk (thn (ha.run pos pins s σ H _ I h) fun us s1 ⟨vs, H1, J, r, q1⟩ => ⟨J.kIn, ?_⟩) he hpl) hdb)⟩
  obtain ⟨oe, v1, hp, hz, hd⟩ := EX.pin
  have hl : us.length = ps.length := by rw [← r.length]; exact Fn.len _ _ _ _ _ _ q1
  have b := hb s1 us J.kIn (by rw [List.append_nil]; exact hl)
  rw [List.append_nil] at b
  have P1 := J.pin (a, oe) (List.mem_append_left _ hp)
  have hpin : PinOk X.stack H1 s1 (a, oe) := ⟨P1.1, P1.2.1, fun hm' => (List.mem_cons.mp (J.stkSub _ hm')).elim P1.2.2.1 P1.2.2.2.1, P1.2.2.2.2⟩
  refine wpAny_call (codeAny_mono (Fn.run X.A X.stack s1 H1 ⟨us, []⟩ us vs Q (a, oe) D dd hr ⟨EX.hot, v1, hd, hz.2.2 v1 hd⟩ hpin hz J.env0 b r q1) fun res s' hres => ?_)
  cases res with
  | error er => exact hres.elim
  | ok fl =>
    cases fl with
    | ret u => exact J.after hres
    | next => exact hres.elim
    | brk => exact hres.elim
    | cont => exact hres.elim
end
end RLX
/-! try: .. except (C, D, F) as n: ..; what the body raises is of one of the three -/
namespace RLX
open PySem PySem.Spec PyProof.Rows L2 L2H HotX
theorem traced_keep {B h h' : Heap} {l : List Env} {a : Addr} {Z : Obj → Prop} (fl : HandSPX.FlyingZ B l a Z h) (k : ∀ b o, h.get? b = some o → h'.get? b = some o) : HandSPX.FlyingZ B l a Z h' := by
  obtain ⟨f1, f2, f3, oe, vs, T, oT, ts, g1, z, g2, g3, g4, g5, g6, g7⟩ := fl
  exact ⟨fun b o e => k b o (f1 b o e), f2, Heap.FunFrames.of_keeps (fun b o e _ => ⟨o, k b o e, rfl⟩) f3, oe, vs, T, oT, ts, k _ _ g1, z, g2, g3, g4, g5, k _ _ g6, g7⟩
def wTup (K : PySem.W.Frag) (cs : List Value) (i : Nat) (ts : Addr → Value → Option Addr → TS) (D : Ends) : WX := fun cls d σ H =>
  PySem.W.exmAny K cls cs = some true ∧ ∀ a, H a = none → ts a cls d { nx := fun σ' H' => D.nx (σ'.set i none) H', rt := fun _ _ => False } (σ.set i (some (.ref a))) H
section
variable {X : Cx} {x1 x2 x3 n : Str} {c1 c2 c3 : Addr} {i kk : Nat} {body suite : List Stmt} {b0 : Stmt} {n1 n2 n3 tp pos pos' : Pos} {tb : WX → TS} {ts : Addr → Value → Option Addr → TS}
theorem ps_tryT (hs : X.stack = X.env :: X.outer) (hf : X.env.frame = some X.env.locals) (hN : X.N.Nodup) (hi : X.N[i]? = some n) (hln : X.env.kindOf n = some .local) (g1 : Gl X x1) (m1 : X.mg x1 = some (.ref c1)) (d1 : (x1 == ("__debug__" : Str)) = false) (g2 : Gl X x2) (m2 : X.mg x2 = some (.ref c2)) (d2 : (x2 == ("__debug__" : Str)) = false) (g3 : Gl X x3) (m3 : X.mg x3 = some (.ref c3)) (d3 : (x3 == ("__debug__" : Str)) = false)
    (hb : ∀ (W : WX) (pn : List (Addr × Obj)) (xe : Value → Shared → Prop), L2N.Takes (X.tr pn xe) W → PSs (X.tr pn xe) body (tb W))
    (hsu : ∀ (a : Addr) (oe : Obj) (cls : Value) (d : Option Addr) (pn : List (Addr × Obj)), L2N.Zn cls d oe → (∃ vs, oe.data = .fields vs) → PSs (X.suite a ((a, oe) :: pn)) (b0 :: suite) (ts a cls d))
    (he : backTo tp (starEach [.Name x1 n1, .Name x2 n2, .Name x3 n3] X.env) = [(false, eval (.Name x1 n1) X.env), (false, eval (.Name x2 n2) X.env), (false, eval (.Name x3 n3) X.env)] := by rfl) :
    PS X (.Try body [.ExceptHandler (some (.Tuple [.Name x1 n1, .Name x2 n2, .Name x3 n3] kk tp)) (some n) (b0 :: suite) pos'] [] [] pos) (fun D σ H => tb (wTup X.K [.ref c1, .ref c2, .ref c3] i ts D) D σ H) := by
  refine ⟨fun pins s σ H D I h => wpAny_Try_except (wpAny_mono ((hb (wTup X.K [.ref c1, .ref c2, .ref c3] i ts D) (X.pn ++ pins) (fun e sa => wpAny (model X.prog X.w) X.A (noteFrame e X.env) (fun _ sb => wpAny (model X.prog X.w) X.A (setFlight e none) (fun _ sc => wpAny (model X.prog X.w) X.A (handleBy e X.env [.ExceptHandler (some (.Tuple [.Name x1 n1, .Name x2 n2, .Name x3 n3] kk tp)) (some n) (b0 :: suite) pos']) (SP X pins D) X.xe sc) X.xe sb) X.xe sa)
    (fun u s' xx => ?_)).run [] s σ H D (I.toTry _) h) (fun f s1 q => ?_) fun e s1 q => q)⟩
  · obtain ⟨a, Bh, sI, pins', σ', H', cls, d, rfl, J', nb, up, sky, na, os, ag, hm, hyes⟩ := xx
    have J : Inv X pins σ' H' sI := J'.ofTry I.ok
    have fr : X.A.frames = some (X.env :: X.outer) := by rw [I.ok.frames, hs]
    have sky' : Sky Bh (X.env :: X.outer) a (L2N.Zn cls d) X.env.locals s'.heap := by rw [← hs]; exact sky
    show wpAny (model X.prog X.w) X.A (noteFrame (.ref a) X.env) _ _ _
    refine L2N.Sky.land L2N.Zn.steady fr hf sky' fun h3 fl3 up3 => ?_
    have apart : ∀ {hh : Heap} {o : Obj}, HandSPX.FlyingZ Bh (X.env :: X.outer) a (L2N.Zn cls d) hh → a ∉ frs (X.env :: X.outer) := fun {hh o} fl hmem => by
      obtain ⟨_, o', e', hnf⟩ := fl.2.2.1.mem hmem
      obtain ⟨oe, vs, _, _, _, ge, _, hd, _⟩ := fl.2.2.2
      rw [ge] at e'
      cases e'
      exact hnf _ hd
    have nfr := apart (o := default) fl3
    have nL : a ≠ X.env.locals := fun z => nfr (List.mem_filterMap.mpr ⟨X.env, List.mem_cons_self, by rw [hf, z]⟩)
    have nF : a ∉ X.fs := fun hmem => by
      obtain ⟨e, hee, q⟩ := List.mem_filterMap.mp hmem
      exact nfr (List.mem_filterMap.mpr ⟨e, List.mem_cons_of_mem _ hee, q⟩)
    have J3 : Inv X pins σ' H' { s' with heap := h3 } := J.landed nb fl3.1 (up.trans up3) os ag
    obtain ⟨oe3, vs3, he3, hz3, hd3⟩ := fl3.there
    have S3 := J3.suite he3 hd3 na nL nF
    refine wpAny_handleBy_cons (codeAny_handlers_test (Tuple_ ?_)) (fun q => by cases q)
    rw [he]
    refine Calls.spliced_cons (ld_glob (X := X.suite a ((a, oe3) :: (X.pn ++ pins))) S3 g1 m1 ?_ d1)
    refine Calls.spliced_cons (ld_glob (X := X.suite a ((a, oe3) :: (X.pn ++ pins))) S3 g2 m2 ?_ d2)
    refine Calls.spliced_cons (ld_glob (X := X.suite a ((a, oe3) :: (X.pn ++ pins))) S3 g3 m3 ?_ d3)
    refine Calls.spliced_nil (wpAny_newObj_type ?_ (by show 3 ≤ sizeLine; decide))
    have kp : ∀ b o, h3.get? b = some o → (h3.push { cls := .type "tuple", data := .seq [Value.ref c1, .ref c2, .ref c3].toArray }).get? b = some o := fun b o q => Heap.get?_push_of_some _ q
    have LT : PySem.W.Looks (model X.prog X.w) (h3.push { cls := .type "tuple", data := .seq [Value.ref c1, .ref c2, .ref c3].toArray }) (typeOf (.ref a)) cls := fun A Q E s k q => wpAny_typeOf_ref (k _ _ (kp _ _ he3)) (by rw [hz3.1]; exact q)
    refine (PySem.W.exm_tup3 (M := model X.prog X.w) (J3.kIn.keeps kp) LT (Heap.get?_push_size h3 rfl) hm).here ?_
    refine codeAny_handlers_suite_as (HandSPX.lands_againZ (traced_keep fl3 kp) fun h4 fl4 up4 => ?_)
    have J4 : Inv X pins σ' H' { s' with heap := h4 } := J.landed nb fl4.1 ((up.trans (up3.trans (Heap.UpToSlots.of_keeps kp))).trans up4) os ag
    obtain ⟨oe4, vs4, he4, hz4, hd4⟩ := fl4.there
    have S4 := J4.suite he4 hd4 na nL nF
    refine store_ok (X := X.suite a ((a, oe4) :: (X.pn ++ pins))) (v := .ref a) S4 hN hi (.inl hln) rfl (fun s5 S5 => ?_) (.inr hln)
    refine wpAny_mono ((hsu a oe4 cls d (X.pn ++ pins) hz4 ⟨_, hd4⟩).run [] s5 _ H' _ S5 (hyes a na)) (fun f s6 q => ?_) (fun _ _ z => z.elim)
    cases f with
    | next =>
      obtain ⟨σ6, H6, S6, q6⟩ := q
      exact gone_ok (S6.unsuite I.ok) hN hi hln fun s7 J7 => ⟨_, _, J7, q6⟩
    | brk =>
      obtain ⟨_, _, _, q6⟩ := q
      exact q6.elim
    | cont =>
      obtain ⟨_, _, _, q6⟩ := q
      exact q6.elim
    | ret u =>
      obtain ⟨_, _, _, _, _, q6⟩ := q
      exact q6.elim
  · cases f with
    | next =>
      obtain ⟨σ', H', J', q⟩ := q
      exact wpAny_execs_nil ⟨σ', H', J'.ofTry I.ok, q⟩
    | brk =>
      obtain ⟨σ', H', J', q⟩ := q
      exact ⟨σ', H', J'.ofTry I.ok, q⟩
    | cont =>
      obtain ⟨σ', H', J', q⟩ := q
      exact ⟨σ', H', J'.ofTry I.ok, q⟩
    | ret u =>
      obtain ⟨v, σ', H', J', r, q⟩ := q
      exact ⟨v, σ', H', J'.ofTry I.ok, r, q⟩
end
end RLX
/-! a lambda handed to a def, and handed on: what it gives when it is called from any later frame -/
namespace RLX
open PySem PySem.Spec PyProof.Rows L2 L2H HotX LamX
/-- the function at f, made at (s, H) with the frames fs running, when it is called later -/
structure LamAct (P : Program) (w : World) (K : PySem.W.Frag) (mg : Str → Option Value) (base : Heap) (k : Nat) (fs : List Addr) (s : Shared) (H : Hp) (f : Addr) (tl : XK → Hp → VK → Prop) : Prop where
  fn : ∀ (s1 : Shared) (H1 : Hp), HOk P w H1 s1.heap → Un fs [] H H1 s.heap s1.heap → PySem.W.FnAt f s1.heap
  run : ∀ (A : Around) (outer : List Env) (s1 : Shared) (H1 : Hp) (Q : VK) (E : XK), Room k A → Env0 P w K mg base A outer s1 H1 → Un fs [] H H1 s.heap s1.heap → tl E H1 Q →
    codeAny (model P w) A (.call (.ref f) ⟨[], []⟩) (CR (L2N.CX P w) outer P w H1 s1 Q E) s1
theorem un_on {fs : List Addr} {L : Addr} {H H1 H2 : Hp} {h h1 h2 : Heap} (a : Un fs [] H H1 h h1) (b : Un (L :: fs) [] H1 H2 h1 h2) (hL : h.get? L = none) : Un fs [] H H2 h h2 := by
  have nL : ∀ {c : Addr} {o : Obj}, h.get? c = some o → c ≠ L := fun {c o} e z => by
    rw [z, hL] at e
    cases e
  have mem : ∀ {c : Addr} {o : Obj}, h.get? c = some o → c ∉ fs → c ∉ L :: fs := fun e n z => (List.mem_cons.mp z).elim (nL e) n
  have no : ∀ c : Addr, c ∉ ([] : List Addr) := fun c z => by cases z
  refine ⟨fun c o e n hc _ => b.keep c o (a.keep c o e n hc (no c)) (a.free c o e n (no c)) (mem e hc) (no c), fun c o e n hc _ => ?_, fun c o e n _ => ?_, fun c o e _ => ?_, fun c xs e => b.tups c xs (a.tups c xs e), fun c o u e => b.frzs c o u (a.frzs c o u e), fun c ps e => ?_⟩
  · obtain ⟨sl, q⟩ := a.slot c o e n hc (no c)
    obtain ⟨sl2, q2⟩ := b.slot c _ q (a.free c o e n (no c)) (List.mem_cons_of_mem _ hc) (no c)
    exact ⟨sl2, q2⟩
  · obtain ⟨o', q⟩ := a.there c o e (no c)
    exact b.free c o' q (a.free c o e n (no c)) (no c)
  · obtain ⟨o', q⟩ := a.there c o e (no c)
    exact b.there c o' q (no c)
  · obtain ⟨m1, q⟩ := a.tbls c ps e
    obtain ⟨m2, q2⟩ := b.tbls c _ q
    exact ⟨m1 ++ m2, by rw [q2, Array.append_assoc]⟩
theorem LamAct.on {P : Program} {w : World} {K : PySem.W.Frag} {mg : Str → Option Value} {base : Heap} {k : Nat} {fs : List Addr} {s s1 : Shared} {H H1 : Hp} {f L : Addr} {tl : XK → Hp → VK → Prop} (a : LamAct P w K mg base k fs s H f tl) (u : Un fs [] H H1 s.heap s1.heap) (hL : s.heap.get? L = none) : LamAct P w K mg base k (L :: fs) s1 H1 f tl :=
  ⟨fun s2 H2 ok v => a.fn s2 H2 ok (un_on u v hL), fun A outer s2 H2 Q E hr e0 v h => a.run A outer s2 H2 Q E hr e0 (un_on u v hL) h⟩
theorem LamAct.mono {P : Program} {w : World} {K : PySem.W.Frag} {mg : Str → Option Value} {base : Heap} {k j : Nat} {fs : List Addr} {s : Shared} {H : Hp} {f : Addr} {tl : XK → Hp → VK → Prop} (a : LamAct P w K mg base k fs s H f tl) (h : k ≤ j) : LamAct P w K mg base j fs s H f tl :=
  ⟨a.fn, fun A outer s1 H1 Q E hr => a.run A outer s1 H1 Q E (hr.mono h)⟩
/-- the context of the lambda's body -/
abbrev lamX (X : Cx) (A : Around) (outer : List Env) (s : Shared) (H : Hp) (E : XK) (scope : Scope) (f c' : Addr) : Cx :=
  (lamCx X A outer s H E scope f c').tr [] (fun e s' => wpAny (model X.prog X.w) (A.deeper (lamEnv X scope s.heap.objs.size f c')) (leaving (lamEnv X scope s.heap.objs.size f c') e) (fun _ s'' => L2N.CX X.prog X.w outer H s E e s'') (fun e' s'' => L2N.CX X.prog X.w outer H s E e' s'') s')
theorem lam_takes {X : Cx} {A : Around} {outer : List Env} {s : Shared} {H : Hp} {E : XK} {scope : Scope} {f c' : Addr} : L2N.Takes (lamX X A outer s H E scope f c') fun cls d _ H' => E cls d H' := L2N.takes_of rfl rfl rfl rfl
section
variable {X : Cx} {pins : List (Addr × Obj)} {σ : L2.St} {H : Hp} {s : Shared}
theorem lam_act {f c' : Addr} {pm ctv : Value} {params : Arguments} {body : Expr} {scope : Scope} {k : Nat} {t : XK → TE} (I : Inv X pins σ H s) (L : LamS X.env.scope scope)
    (hf : s.heap.get? f = some (PySem.W.kla_obj "<lambda>" (X.env.qual ++ "<lambda>") params body scope (cloFrom X.env.cells scope.names []) pm c' ctv)) (hfn : H f = none) (hfr : f ∉ frs X.stack)
    (hbind : bindArgs (PySem.W.kla_fn "<lambda>" (X.env.qual ++ "<lambda>") params body scope (cloFrom X.env.cells scope.names []) pm (.ref c') ctv) ⟨[], []⟩ = pure [])
    (hbody : ∀ (A : Around) (outer : List Env) (s : Shared) (H : Hp) (E : XK), Room k (A.deeper (lamEnv X scope s.heap.objs.size f c')) → PE (lamX X A outer s H E scope f c') body (t E)) :
    LamAct X.prog X.w X.K X.mg X.base (k + 1) (frs X.stack) s H f (fun E H' Q => H' c' = some (CodeO c' (X.env.qual ++ "<lambda>")) ∧ t E σ H' Q) := by
  have of1 : ∀ {s1 : Shared} {H1 : Hp}, Un (frs X.stack) [] H H1 s.heap s1.heap → s1.heap.get? f = some (PySem.W.kla_obj "<lambda>" (X.env.qual ++ "<lambda>") params body scope (cloFrom X.env.cells scope.names []) pm c' ctv) := fun u => u.keep f _ hf hfn hfr (fun z => nomatch z)
  refine ⟨fun s1 H1 _ u => ⟨_, _, _, _, of1 u⟩, fun A outer s1 H1 Q E hr e0 u h => ?_⟩
  obtain ⟨hc, ht⟩ := h
  obtain ⟨⟨oc, vs, tk, hoc, hdc, hvc⟩, _, _⟩ := e0.hok c' _ hc
  have lim : s1.heap.NoLimit := e0.mod.nolimit.keeps fun b o e => (e0.bs b o e).1
  refine PySem.W.kla_callFunE hr.depth (of1 u) rfl L.co L.gen rfl ⟨c', oc, vs, tk, rfl, hoc, hdc, hvc⟩ ?_
  rw [hbind]
  refine wpAny_pure (wpAny_newFunctionEnv (fun y hy => (L.own y hy).2) (fun y hy => absurd hy (by simp)) (fun h1 hns hsb => ⟨lim.fresh _ hsb, ?_⟩) L.kind)
  show codeAny _ _ (.expr body (lamEnv X scope s1.heap.objs.size f c')) _ _
  have kp : ∀ b o, s1.heap.get? b = some o → h1.get? b = some o := fun b o e => hsb.extBut b o (Nat.ne_of_lt (Heap.lt_size e)) (Heap.get?_push_of_some _ e)
  have J := (lam_start2 (E := E) (f := f) (c' := c') (tk := s1.toks + ([] : List (Str × Value)).length) I L e0 hr.hd u hns kp).toTry (fun e s' => wpAny (model X.prog X.w) (A.deeper (lamEnv X scope s1.heap.objs.size f c')) (leaving (lamEnv X scope s1.heap.objs.size f c') e) (fun _ s'' => L2N.CX X.prog X.w outer H1 s1 E e s'') (fun e' s'' => L2N.CX X.prog X.w outer H1 s1 E e' s'') s')
  refine PySem.W.kla_codeExpr (wpAny_mono ((hbody A outer s1 H1 E (hr.deeper _)).run [] _ _ H1 Q J ht) (fun v s' hq => ?_) fun e s' hq => hq)
  obtain ⟨v', H', J', rv, q⟩ := hq
  exact ⟨v', H', J'.os, J'.bare, J'.base, J'.hok, rv, q⟩
end
end RLX
/-! defs with one parameter that is such a function -/
namespace RLX
open PySem PySem.Spec PyProof.Rows L2 L2H HotX LamX
abbrev TTL := (XK → Hp → VK → Prop) → Hp → VK → Prop
structure FnL (P : Program) (w : World) (K : PySem.W.Frag) (mg : Str → Option Value) (base : Heap) (k kl : Nat) (g : Addr) (TT : TTL) : Prop where
  run : ∀ (A : Around) (outer : List Env) (s : Shared) (H : Hp) (f : Addr) (Q : VK) (tl : XK → Hp → VK → Prop), Room k A → Env0 P w K mg base A outer s H → LamAct P w K mg base kl (frs outer) s H f tl → TT tl H Q →
    codeAny (model P w) A (.call (.ref g) ⟨[.ref f], []⟩) (CR CX0 outer P w H s Q E0) s
section
variable {P : Program} {w : World} {K : PySem.W.Frag} {mg : Str → Option Value} {base : Heap} {x qual a : Str} {params : Arguments} {body : List Stmt} {scope : Scope} {kws : List (Str × V)} {g : Addr} {fd : FuncData}
theorem fnL_of {N : List Str} {k kl : Nat} {TT : TTL} (F : FunD K x qual params body scope [] kws g fd) (S : FnScope N [a] scope) (hb : Binds K fd [a] [])
    (hbody : ∀ (cdv : Value) (A : Around) (outer : List Env) (s : Shared) (H : Hp) (f : Addr) (Q : VK) (tl : XK → Hp → VK → Prop), Room k (A.deeper (envOfC qual scope s.heap.objs.size g cdv)) → LamAct P w K mg base kl (frs outer) s H f tl → TT tl H Q →
      ∃ t, PSs (cxOf CX0 P w K mg base N qual scope g cdv A outer s H E0).nox body t ∧ t { nx := fun _ H' => Q .non H', rt := Q } (L2.start N [.ref f]) H) : FnL P w K mg base (k + 1) kl g TT := by
  obtain ⟨oc, od, dV, kV, doc, pm, an, cdv, ct, osl, rfl, lk, hcd, _, _⟩ := F.ex
  refine ⟨fun A outer s H f Q tl hr e0 act h => ?_⟩
  have KX : K.In s.heap := e0.mod.kin.keeps fun b o e => (e0.bs b o e).1
  refine run_ofS (N := N) (ps := [a]) (us := [.ref f]) (vs := [.ref f]) lk hcd S hr e0 (hb s [.ref f] KX rfl) (.cons rfl .nil) rfl fun hr' => ?_
  obtain ⟨t, ht, hq⟩ := hbody cdv A outer s H f Q tl hr' act h
  exact ⟨t, ht.nox, hq⟩
end
section
variable {P : Program} {w : World} {K : PySem.W.Frag} {mg : Str → Option Value} {base : Heap} {N : List Str} {qual a : Str} {scope : Scope} {g f : Addr} {cdv : Value} {A : Around} {outer : List Env} {s : Shared} {H : Hp} {tl : XK → Hp → VK → Prop} {kl i : Nat} {p1 p2 : Pos}
/-- a(), within a try -/
theorem pe_actL {pn : List (Addr × Obj)} {xe : Value → Shared → Prop} {W : WX} {E : XK} (act : LamAct P w K mg base kl (frs outer) s H f tl) (tk : L2N.Takes ((cxOf CX0 P w K mg base N qual scope g cdv A outer s H E0).nox.tr pn xe) W) (hW : ∀ cls d σ' H', E cls d H' → W cls d σ' H')
    (hr : Room kl (A.deeper (envOfC qual scope s.heap.objs.size g cdv))) (hN : N[i]? = some a) (hv : Vis scope a) (hd : (a == ("__debug__" : Str)) = false := by decide) (hcd : (a == ("__classdict__" : Str)) = false := by decide) :
    PE ((cxOf CX0 P w K mg base N qual scope g cdv A outer s H E0).nox.tr pn xe) (.Call (.Name a p1) [] [] p2) (fun σZ HZ Q => σZ[i]? = some (some (.ref f)) ∧ tl E HZ Q) := by
  refine ⟨fun pins sZ σZ HZ Q IZ h => ?_⟩
  obtain ⟨hs, ht⟩ := h
  refine wpAny_Call_Name_kw (thn ((pe_var (pos := p1) (i := i) hN hv hd hcd).run pins sZ σZ HZ (fun v H1 => v = .ref f ∧ H1 = HZ) IZ ⟨.ref f, hs, rfl, rfl⟩) fun u s1 ⟨v, H1, I1, r1, ev, eH⟩ => ?_)
  subst ev
  rw [eH] at I1
  obtain rfl : u = Value.ref f := r1
  have un : Un (frs outer) [] H HZ s.heap s1.heap := I1.base
  refine PySem.W.callWith_F0 (act.fn s1 HZ I1.hok un) (wpAny_call (codeAny_mono (act.run _ _ s1 HZ Q E hr I1.env0 un ht) fun r s' hq => ?_))
  cases r with
  | error e => exact L2N.passes_call tk hW pins σZ HZ s1 e s' I1 hq
  | ok fl =>
    cases fl with
    | ret u => exact I1.after hq
    | next => exact hq.elim
    | brk => exact hq.elim
    | cont => exact hq.elim
/-- x(a): handed on -/
theorem pe_handL {x : Str} {g2 : Addr} {k2 kl2 : Nat} {TT : TTL} {q pos pa : Pos} (act : LamAct P w K mg base kl (frs outer) s H f tl) (Fn : FnL P w K mg base k2 kl2 g2 TT) (hkl : kl ≤ kl2) (hr : Room k2 (A.deeper (envOfC qual scope s.heap.objs.size g cdv))) (hg : Gl (cxOf CX0 P w K mg base N qual scope g cdv A outer s H E0).nox x) (hm : mg x = some (.ref g2)) (hk : PySem.W.keepIn K (.ref g2) = true) (hN : N[i]? = some a) (hv : Vis scope a)
    (hdx : (x == ("__debug__" : Str)) = false := by decide) (hd : (a == ("__debug__" : Str)) = false := by decide) (hcd : (a == ("__classdict__" : Str)) = false := by decide)
    (he : starEach [.Name a pa] (cxOf CX0 P w K mg base N qual scope g cdv A outer s H E0).nox.env = (false, eval (.Name a pa) (cxOf CX0 P w K mg base N qual scope g cdv A outer s H E0).nox.env) :: starEach [] (cxOf CX0 P w K mg base N qual scope g cdv A outer s H E0).nox.env := by rfl) :
    PE (cxOf CX0 P w K mg base N qual scope g cdv A outer s H E0).nox (.Call (.Name x q) [.Name a pa] [] pos) (fun σZ HZ Q => σZ[i]? = some (some (.ref f)) ∧ TT tl HZ Q) := by
  refine ⟨fun pins sZ σZ HZ Q IZ h => ?_⟩
  obtain ⟨hs, ht⟩ := h
  have ha : PA (cxOf CX0 P w K mg base N qual scope g cdv A outer s H E0).nox [.Name a pa] _ := pa_cons (pe_var (pos := pa) (i := i) hN hv hd hcd) pa_nil he
  refine wpAny_Call_Name_kw (ld_glob IZ hg hm (PySem.W.callWith_K (first := []) (h₀ := base) IZ.ok.mod.kin hk (thn (ha.run pos pins sZ σZ HZ (fun vs H1 => vs = [.ref f] ∧ H1 = HZ) IZ ⟨.ref f, hs, rfl, rfl⟩) fun us s1 ⟨vs, H1, I1, r1, ev, eH⟩ => ⟨I1.kIn, ?_⟩) he rfl) hdx)
  subst ev
  rw [eH] at I1
  obtain rfl : us = [Value.ref f] := by
    cases r1 with
    | cons r rr =>
      cases rr
      cases r
      rfl
  have un : Un (frs outer) [] H HZ s.heap s1.heap := I1.base
  have act2 := (act.on un (Heap.get?_none_of_le (Nat.le_refl _))).mono hkl
  refine wpAny_call (codeAny_mono (Fn.run _ _ s1 HZ f Q tl hr I1.env0 act2 ht) fun r s' hq => ?_)
  cases r with
  | error e => exact hq.elim
  | ok fl =>
    cases fl with
    | ret u => exact I1.after hq
    | next => exact hq.elim
    | brk => exact hq.elim
    | cont => exact hq.elim
end
/-- x(lambda: body): T the tables of the code objects -/
def tLamL (T : List (Addr × Str)) (q : Str) (TT : TTL) (t : XK → TE) : TE := fun σ H Q => Tabs T H ∧ ∀ (H1 : Hp) (c' : Addr), ExtN H H1 → Tabs T H1 → H1 c' = some (CodeO c' q) → TT (fun E H' Q' => H' c' = some (CodeO c' q) ∧ t E σ H' Q') H1 Q
section
variable {X : Cx}
theorem pe_lamL {T : List (Addr × Str)} {TT : TTL} {x : Str} {g c Pt : Addr} {k kl kb : Nat} {params : Arguments} {body : Expr} {scope : Scope} {t : XK → TE} {p lpos pos : Pos} (Fn : FnL X.prog X.w X.K X.mg X.base k kl g TT) (hkl : kb + 1 ≤ kl) (hr : Room k X.A) (hg : Gl X x) (hm : X.mg x = some (.ref g)) (hk : PySem.W.keepIn X.K (.ref g) = true)
    (TB : TabB X.base X.mg c Pt) (hcode : X.env.code = .ref c) (hmT : (Pt, X.env.qual ++ "<lambda>") ∈ T) (hu : ∀ p ∈ T, p.1 = Pt → p.2 = X.env.qual ++ "<lambda>") (L : LamS X.env.scope scope) (hdef : defaultsOf params X.env = ([], []))
    (hbind : ∀ (q : Str) (cl : List (Str × Addr)) (pm cv ctv : Value), bindArgs (PySem.W.kla_fn "<lambda>" q params body scope cl pm cv ctv) ⟨[], []⟩ = pure [])
    (hbody : ∀ (A : Around) (outer : List Env) (s : Shared) (H : Hp) (E : XK) (f c' : Addr), Room kb (A.deeper (lamEnv X scope s.heap.objs.size f c')) → PE (lamX X A outer s H E scope f c') body (t E)) (hdb : (x == ("__debug__" : Str)) = false := by decide)
    (he : starEach [.Lambda params body scope lpos] X.env = (false, eval (.Lambda params body scope lpos) X.env) :: starEach [] X.env := by rfl) :
    PE X (.Call (.Name x p) [.Lambda params body scope lpos] [] pos) (tLamL T (X.env.qual ++ "<lambda>") TT t) := by
  refine ⟨fun pins s σ H Q I h => ?_⟩
  obtain ⟨hT, h⟩ := h
  refine wpAny_Call_Name_kw (ld_glob I hg hm (PySem.W.callWith_K (first := []) (h₀ := X.base) I.ok.mod.kin hk ?_ he rfl) hdb)
  rw [show backTo pos (starEach [.Lambda params body scope lpos] X.env) = (false, eval (.Lambda params body scope lpos) X.env) :: [] from by rw [he]; rfl]
  refine Calls.spliced_cons (lam_make2 I TB hcode hmT hu hT hdef (L.has I.ok) fun f c' pm' ctv H1 s' I1 eN T1 hf hfn hfr hco => Calls.spliced_nil ⟨I1.kIn, ?_⟩)
  have act := (lam_act (t := t) (k := kb) I1 L hf hfn hfr (hbind _ _ _ _ _) (fun A outer s H E hr2 => hbody A outer s H E f c' hr2)).mono hkl
  refine wpAny_call (codeAny_mono (Fn.run _ _ s' H1 f Q _ hr I1.env0 act (h H1 c' eN T1 hco)) fun r s2 hq => ?_)
  cases r with
  | error e => exact hq.elim
  | ok fl =>
    cases fl with
    | ret u => exact I1.after hq
    | next => exact hq.elim
    | brk => exact hq.elim
    | cont => exact hq.elim
end
end RLX
/-! the greatest of a list of numbers; a call that answers of a def that may raise -/
namespace RL
open PySem PySem.Spec PyProof.Rows L2
section
variable {X : Cx} {K : PySem.W.Frag}
/-- max(xs), xs a list of numbers -/
def rMaxLs (K : PySem.W.Frag) : List V → Hp → VK → Prop := fun vs H Q => ∃ (a : Addr) (is : List Int), vs = [V.ref a] ∧ SqL K H a (is.map V.int) ∧ is ≠ [] ∧ ∀ m, m ∈ is → (∀ j ∈ is, j ≤ m) → Q (.int m) H
theorem maxLs (hc : X.calm = true := by rfl) (hK : X.K = K := by rfl) : CallR X (.builtin "max") (rMaxLs K) := by
  subst hK
  intro pins s σ H vs us Q I r h
  obtain ⟨a, is, rfl, hs, ne, q⟩ := h
  rw [Vals.ref1 r]
  obtain ⟨its, rv, hl, _⟩ := I.list hs
  have hi : IntsAre its is := Vals.ints rv
  have ln : its.toArray.size = is.length := by rw [List.size_toArray, hi.length]
  have pos : 0 < is.length := List.length_pos_iff.mpr ne
  have val : ∀ (i : Nat) (v : Value), its.toArray[i]? = some v → ∃ t, v = Value.int (is.getD i 0) t := fun i v hv => IntsAre.int_at hi i v (by simpa using hv)
  refine call_max_walk (iter_anyList hl.isList fun s2 e2 st fp li => ?_)
  subst e2
  refine ⟨_, _, _, _, _, _, _, rfl, Walks.list (A := X.A.in1) (I.ok.hd hc) _ a li its.toArray, st, fp, by rw [ln]; exact pos, CmpOf.ints_gt (fun i => is.getD i 0) val, fun v h' tk hP hk => ?_⟩
  obtain ⟨t, rfl⟩ := val _ v hP
  obtain ⟨b1, b2⟩ := argBest_gt (fun i => is.getD i 0) (its.toArray.size - 1)
  rw [ln] at b1 b2
  refine ⟨.int _, H, I.kept (t' := tk) (PySem.old_kept hk), ⟨t, rfl⟩, q _ ?_ fun j hj => ?_⟩
  · rw [ln]
    have hb : argBest (fun i j => decide (is.getD i 0 > is.getD j 0)) (is.length - 1) < is.length := by omega
    rw [List.getD_eq_getElem?_getD, List.getElem?_eq_getElem hb]
    exact List.getElem_mem hb
  · obtain ⟨i, hi', e⟩ := List.mem_iff_getElem.mp hj
    have e2 : is.getD i 0 = j := by rw [List.getD_eq_getElem?_getD, List.getElem?_eq_getElem hi', ← e] <;> rfl
    rw [← e2, ln]
    exact b2 i (by omega)
end
end RL
namespace RLX
open PySem PySem.Spec PyProof.Rows L2
theorem pass_none {X : Cx} {P : Program} {w : World} : Passes (L2N.CX P w) X E0 := fun _ _ _ _ _ _ _ ⟨_, _, _, _, _, _, _, _, _, _, _, _, h⟩ => h.elim
end RLX
/-! games: what beats cost -/
namespace RL
open PySem PySem.Spec PyProof.Rows L2 RLM
/-- costs as a dict tells them -/
structure CostI (L : List Stt) (f : Stt → Option Nat) (fs : List (Stt × Nat)) : Prop where
  nd : (fs.map (·.1)).Nodup
  val : ∀ q ∈ fs, q.1 ∈ L ∧ f q.1 = some q.2
  all : ∀ s ∈ L, f s ≠ none → s ∈ fs.map (·.1)
theorem CostI.in_ {L : List Stt} {f : Stt → Option Nat} {fs : List (Stt × Nat)} (h : CostI L f fs) {s : Stt} (hs : s ∈ L) : (f s).isSome = decide (s ∈ fs.map (·.1)) := by
  by_cases k : s ∈ fs.map (·.1)
  · rw [decide_eq_true k]
    obtain ⟨q, hq, e⟩ := List.mem_map.mp k
    rw [← e, (h.val q hq).2]
    rfl
  · rw [decide_eq_false k]
    cases e : f s with
    | none => rfl
    | some v => exact absurd (h.all s hs (by rw [e]; exact fun z => nomatch z)) k
theorem CostI.at_ {L : List Stt} {f : Stt → Option Nat} {fs : List (Stt × Nat)} (h : CostI L f fs) {s : Stt} {v : Nat} (hs : s ∈ L) (e : f s = some v) : valV (kvS vI fs) (kS s) = some (vI v) := by
  obtain ⟨q, hq, rfl⟩ := List.mem_map.mp (h.all s hs (by rw [e]; exact fun z => nomatch z))
  have := (h.val q hq).2
  rw [e] at this
  exact kvS_at vI h.nd (by rw [Option.some.inj this]; exact hq)
theorem CostI.get {L : List Stt} {f : Stt → Option Nat} {fs : List (Stt × Nat)} (h : CostI L f fs) {s : Stt} (hs : s ∈ L) : (valV (kvS vI fs) (kS s)).getD V.non = vLast (f s) := by
  cases e : f s with
  | some v => rw [h.at_ hs e]; rfl
  | none =>
    have := kvS_in vI s fs
    rw [← h.in_ hs, e] at this
    cases k : valV (kvS vI fs) (kS s) with
    | none => rfl
    | some v => rw [k] at this; cases this
theorem maxL_eq {xs : List Nat} {m : Nat} (h : m ∈ xs) (a : ∀ x ∈ xs, x ≤ m) : maxL xs = m := by
  have le : ∀ {ys : List Nat}, (∀ x ∈ ys, x ≤ m) → maxL ys ≤ m := by
    intro ys
    induction ys with
    | nil => exact fun _ => Nat.zero_le _
    | cons y ys ih =>
      intro h
      show max y (maxL ys) ≤ m
      have := h y (List.mem_cons_self ..)
      have := ih fun x hx => h x (List.mem_cons_of_mem _ hx)
      omega
  have ge : ∀ {ys : List Nat}, m ∈ ys → m ≤ maxL ys := by
    intro ys
    induction ys with
    | nil => exact fun z => (nomatch z)
    | cons y ys ih =>
      intro h
      show m ≤ max y (maxL ys)
      rcases List.mem_cons.mp h with e | e
      · omega
      · have := ih e; omega
  exact Nat.le_antisymm (le a) (ge h)
section
variable {P : Program} {w : World} {K : PySem.W.Frag} {mg : Str → Option Value} {base : Heap}
def spWorst (P : Program) (w : World) : Sp := fun vs H Q _ => ∃ (l d : Addr) (bs : List (Addr × Stt)) (L : List Stt) (f : Stt → Option Nat) (fs : List (Stt × Nat)), vs = [.ref l, .ref d] ∧ H l = some (.lst (bs.map fun z => V.ref z.1)) ∧ (∀ z ∈ bs, StAt H z.1 z.2 ∧ z.2 ∈ L) ∧ bs ≠ [] ∧ bs.length ≤ 100 ∧ DNR P w H d (kvS vI fs) ∧ CostI L f fs ∧
  ∀ H', Same H H' → Q (vLast (worst f (bs.map (·.2)))) H'
theorem sc_worst_cost : FnScope ["comes_next", "costs", "state"] ["comes_next", "costs"] (defScope s_worst_cost) := ⟨rfl, rfl, rfl, by decide +kernel, rfl, by decide +kernel, by decide +kernel⟩
theorem ok_worst (T : Tx K mg) : Has P w K mg base (He.ga K "worst_cost") 1 ["comes_next", "costs"] (spWorst P w) := by
  obtain ⟨fd, F⟩ := T.d_worst_cost
  refine ⟨⟨fd, F.ok sc_worst_cost (fun vs H Q E h => ?_) (fun cdv A outer s H vs Q E hr h => ?_), F.bindsN fun _ _ _ _ _ _ us hl => match us, hl with | [_, _], _ => rfl⟩, F.kp⟩
  · obtain ⟨l, d, bs, L, f, fs, rfl, _⟩ := h
    rfl
  · obtain ⟨l, d, bs, L, f, fs, rfl, hl, sb, ne, lb, dn, CI, h⟩ := h
    refine ⟨_, PSs.nox (pss_cons (ps_if (pt_not (pt_val (pe_callB (allK (K := K)) (by rfl) T.free_all (by decide +kernel) (pa_cons (pe_lc (own := [("state", 2)]) (g := (gName 2)) (tt := tYes) rfl sc_worst_cost.nd (piL (K := K) (pv 0)) (blkOk_by (by kernel_rfl)) (fun _ _ _ _ _ => (pg_name (i := 2) sc_worst_cost.nd rfl (Or.inl rfl))) (fun _ _ _ _ _ => pts_nil) (fun _ _ _ _ _ => (pe_cmpR (inN (P := P) (w := w) (hr9 hr)) (pv 2) (pv 1) (by rfl)))) pa_nil)))) (pss_one (ps_ret pe_non)) pss_nil)
      (pss_one (ps_ret (pe_callB (maxLs (K := K)) (by rfl) T.free_max (by decide +kernel) (pa_cons (pe_lc (own := [("state", 2)]) (g := (gName 2)) (tt := tYes) rfl sc_worst_cost.nd (piL (K := K) (pv 0)) (blkOk_by (by kernel_rfl)) (fun _ _ _ _ _ => (pg_name (i := 2) sc_worst_cost.nd rfl (Or.inl rfl))) (fun _ _ _ _ _ => pts_nil) (fun _ _ _ _ _ => (pe_nget (hr9 hr) (pv 1) (pv 2) (fun _ _ => rfl)))) pa_nil))))), ?_⟩
    refine ⟨_, rfl, l, rfl, ⟨_, SqL.of hl⟩, fun D hD => ?_⟩
    refine lc_val (walk_list (K := K) (a := l) (xs := bs.map fun z => V.ref z.1)) (fun j => .bl ((bs.map fun z => (f z.2).isSome).getD j false)) (by rw [List.length_map]; omega) hD (fun H1 s1 => SqL.of (s1 _ _ hl)) ?_ ?_
    · rintro j y H3 H4 Nx hj s3 ⟨rfl, hy⟩ k
      rw [List.getElem?_map] at hy
      obtain ⟨z, hz, rfl⟩ := Option.map_eq_some_iff.mp hy
      have ek : (bs.map fun z => (f z.2).isSome).getD j false = (f z.2).isSome := by
        rw [List.getD_eq_getElem?_getD, List.getElem?_map, hz]
        rfl
      rw [ek] at k
      obtain ⟨sz, zL⟩ := sb z (List.mem_of_getElem? hz)
      refine ⟨rfl, _, rfl, _, rfl, d, z.1, kS z.2, _, rfl, rfl, dn.same s3, (sz.same s3).key, kS_depth _, ?_⟩
      rw [Bool.false_xor, kvS_in, ← CI.in_ zL]
      exact k _ (Same.refl _)
    · intro H3 h3 s3
      have eb : H3 D = some (.lst ((bs.map fun z => (f z.2).isSome).map V.bl)) := by
        rw [h3, List.length_map]
        congr 2
        have := PyProof.Rows.range_getD (bs.map fun z => (f z.2).isSome) false
        rw [List.length_map] at this
        conv => rhs; rw [← this]
        rw [List.map_map]
        rfl
      refine ⟨D, _, rfl, SqL.of eb, _, rfl, ?_⟩
      have ea : (bs.map fun z => (f z.2).isSome).all id = (bs.map (·.2)).all fun s => (f s).isSome := by
        rw [List.all_map, List.all_map]
        rfl
      show if (!(bs.map fun z => (f z.2).isSome).all id) = true then _ else _
      rw [ea]
      cases eall : (bs.map (·.2)).all fun s => (f s).isSome with
      | false =>
        refine iteT ?_
        have e : worst f (bs.map (·.2)) = none := by
          unfold worst
          rw [eall]
          rfl
        have := h H3 s3
        rw [e] at this
        exact this
      | true =>
        refine iteF ?_
        have hl3 := s3 _ _ hl
        refine ⟨_, rfl, l, rfl, ⟨_, SqL.of hl3⟩, fun D2 hD2 => ?_⟩
        refine lc_val (walk_list (K := K) (a := l) (xs := bs.map fun z => V.ref z.1)) (fun j => vI ((bs.map fun z => (f z.2).getD 0).getD j 0)) (by rw [List.length_map]; omega) hD2 (fun H1 s1 => SqL.of (s1 _ _ hl3)) ?_ ?_
        · rintro j y H5 H6 Nx hj s5 ⟨rfl, hy⟩ k
          rw [List.getElem?_map] at hy
          obtain ⟨z, hz, rfl⟩ := Option.map_eq_some_iff.mp hy
          have ek : (bs.map fun z => (f z.2).getD 0).getD j 0 = (f z.2).getD 0 := by
            rw [List.getD_eq_getElem?_getD, List.getElem?_map, hz]
            rfl
          rw [ek] at k
          obtain ⟨sz, zL⟩ := sb z (List.mem_of_getElem? hz)
          have is := List.all_eq_true.mp eall z.2 (List.mem_map.mpr ⟨z, List.mem_of_getElem? hz, rfl⟩)
          obtain ⟨v, ev⟩ := Option.isSome_iff_exists.mp is
          rw [ev] at k
          have s35 := s3.trans s5
          exact ⟨rfl, _, rfl, _, rfl, d, z.1, kS z.2, _, _, rfl, rfl, dn.same s35, (sz.same s35).key, kS_depth _, CI.at_ zL ev, k _ (Same.refl _)⟩
        · intro H5 h5 s5
          have e5 : H5 D2 = some (.lst ((bs.map fun z => (((f z.2).getD 0 : Nat) : Int)).map V.int)) := by
            rw [h5, List.length_map]
            congr 2
            have := PyProof.Rows.range_getD (bs.map fun z => (f z.2).getD 0) 0
            rw [List.length_map] at this
            have e6 : (bs.map fun z => (((f z.2).getD 0 : Nat) : Int)).map V.int = (bs.map fun z => (f z.2).getD 0).map vI := by
              rw [List.map_map, List.map_map]
              rfl
            rw [e6]
            conv => rhs; rw [← this]
            rw [List.map_map]
            rfl
          have ne2 : (bs.map fun z => (((f z.2).getD 0 : Nat) : Int)) ≠ [] := fun e => ne (List.map_eq_nil_iff.mp e)
          refine ⟨D2, _, rfl, SqL.of e5, ne2, fun m hm hle => ?_⟩
          obtain ⟨z, hz, rfl⟩ := List.mem_map.mp hm
          have em : maxL ((bs.map (·.2)).map fun s => (f s).getD 0) = (f z.2).getD 0 := by
            rw [List.map_map]
            refine maxL_eq (List.mem_map.mpr ⟨z, hz, rfl⟩) fun y hy => ?_
            obtain ⟨z', hz', rfl⟩ := List.mem_map.mp hy
            have := hle _ (List.mem_map.mpr ⟨z', hz', rfl⟩)
            show (f z'.2).getD 0 ≤ (f z.2).getD 0
            omega
          have e : worst f (bs.map (·.2)) = some ((f z.2).getD 0) := by
            unfold worst
            rw [eall, em]
            rfl
          have := h H5 (s3.trans s5)
          rw [e] at this
          exact this
/-- what one state's choices cost so far -/
def accO (G : Gm) (b : Nat) (s : Stt) (j : Nat) : Option Nat := ((G.unb s).take j).foldl (fun acc c => addO (worst (G.cost b) c.2) acc (G.price s.1 c.1)) none
theorem accO_succ (G : Gm) (b : Nat) (s : Stt) {j : Nat} {c : Nat × List Stt} (h : (G.unb s)[j]? = some c) : accO G b s (j + 1) = addO (worst (G.cost b) c.2) (accO G b s j) (G.price s.1 c.1) := by
  unfold accO
  rw [List.take_add_one, h, List.foldl_append]
  rfl
theorem accO_all (G : Gm) (b : Nat) (s : Stt) : accO G b s (G.unb s).length = G.cost (b + 1) s := by
  unfold accO
  rw [List.take_length]
  rfl
def accL (s : Stt) : Option Nat → List (Stt × Nat)
  | none => []
  | some v => [(s, v)]
theorem kvS_put2 {s : Stt} {a a' : Nat} {ls : List (Stt × Nat)} (h : s ∉ ls.map (·.1)) : putK (kvS vI (ls ++ [(s, a)])) (kS s) (vI a') = kvS vI (ls ++ [(s, a')]) := by
  unfold putK
  have k1 : ((kvS vI (ls ++ [(s, a)])).any fun kv => decide (kv.1 = kS s)) = true := List.any_eq_true.mpr ⟨(kS s, vI a), List.mem_map.mpr ⟨(s, a), List.mem_append_right _ (List.mem_singleton.mpr rfl), rfl⟩, decide_eq_true rfl⟩
  rw [if_pos k1]
  unfold kvS
  rw [List.map_append, List.map_append, List.map_append]
  congr 1
  · rw [List.map_map]
    refine List.map_congr_left fun q hq => ?_
    show (if kS q.1 = kS s then (kS q.1, vI a') else (kS q.1, vI q.2)) = (kS q.1, vI q.2)
    rw [if_neg fun e => h (by rw [← kS_inj e]; exact List.mem_map.mpr ⟨q, hq, rfl⟩)]
  · show [if kS s = kS s then (kS s, vI a') else (kS s, vI a)] = [(kS s, vI a')]
    rw [if_pos rfl]
theorem unb_ne {G : Gm} (ok : GmOk G) {s : Stt} (S : G.St s) : ∀ c ∈ G.unb s, c.2 ≠ [] := fun c hc e => by
  obtain ⟨i, hi, rfl⟩ := List.mem_map.mp hc
  have hi := List.mem_range.mp (List.mem_filter.mp hi).1
  obtain ⟨p, hp⟩ : ∃ p, p ∈ s.2 := by
    cases h : s.2 with
    | nil => exact absurd h S.2.1
    | cons p r => exact ⟨p, List.mem_cons_self ..⟩
  have pn := St_lt S p hp
  have g8 : ((G.opts s.1).getD i (fun _ => 0, 0)).1 p ≤ 8 := by
    rw [List.getD_eq_getElem?_getD, List.getElem?_eq_getElem hi]
    show ((G.opts s.1)[i]).1 p ≤ 8
    have hm := List.getElem_mem hi
    rcases List.mem_cons.mp hm with z | z
    · rw [z]; exact Nat.zero_le _
    · have e2 : G.hands.getD s.1 [] = G.hands[s.1]'S.1 := by rw [List.getD_eq_getElem?_getD, List.getElem?_eq_getElem S.1]; rfl
      rw [e2] at z
      exact ((ok.each _ (List.getElem_mem S.1)).2 _ z).2 p pn
  have e : G.nexts s ((G.opts s.1).getD i (fun _ => 0, 0)).1 = [] := e
  unfold Gm.nexts at e
  have e2 := List.map_eq_nil_iff.mp e
  have hm : ((G.opts s.1).getD i (fun _ => 0, 0)).1 p ∈ ansS ((G.opts s.1).getD i (fun _ => 0, 0)).1 s.2 := by
    refine List.mem_filter.mpr ⟨?_, List.any_eq_true.mpr ⟨p, hp, decide_eq_true rfl⟩⟩
    show _ ∈ List.range 9
    exact List.mem_range.mpr (by omega)
  rw [e2] at hm
  cases hm
theorem unb_at {G : Gm} {s : Stt} {c : Nat × List Stt} (hc : c ∈ G.unb s) : c.1 < (G.opts s.1).length := by
  obtain ⟨i, hi, rfl⟩ := List.mem_map.mp hc
  exact List.mem_range.mp (List.mem_filter.mp hi).1
theorem costI_snoc {L : List Stt} {f : Stt → Option Nat} {fs : List (Stt × Nat)} {i : Nat} {s : Stt} (nd : L.Nodup) (hs : L[i]? = some s) (h : CostI (L.take i) f fs) : s ∉ fs.map (·.1) ∧ CostI (L.take (i + 1)) f (fs ++ accL s (f s)) := by
  have et : L.take (i + 1) = L.take i ++ [s] := by
    rw [List.take_add_one, hs]
    rfl
  have nin : s ∉ L.take i := fun z => by
    rw [← List.take_append_drop i L] at nd
    exact (List.nodup_append.mp nd).2.2 _ z _ (List.mem_iff_getElem?.mpr ⟨0, by rw [List.getElem?_drop]; exact hs⟩) rfl
  have nf : s ∉ fs.map (·.1) := fun z => by
    obtain ⟨q, hq, e⟩ := List.mem_map.mp z
    exact nin (e ▸ (h.val q hq).1)
  refine ⟨nf, ?_, fun q hq => ?_, fun s' hs' ne => ?_⟩
  · cases e : f s with
    | none =>
      show ((fs ++ ([] : List (Stt × Nat))).map (·.1)).Nodup
      rw [List.append_nil]
      exact h.nd
    | some v =>
      show ((fs ++ [(s, v)]).map (·.1)).Nodup
      rw [List.map_append]
      exact List.nodup_append.mpr ⟨h.nd, by simp, fun a ha b hb e => nf (by rw [e, List.mem_singleton.mp hb] at ha; exact ha)⟩
  · rcases List.mem_append.mp hq with y | y
    · exact ⟨by rw [et]; exact List.mem_append_left _ (h.val q y).1, (h.val q y).2⟩
    · cases e : f s with
      | none => rw [e] at y; cases y
      | some v =>
        rw [e] at y
        rw [List.mem_singleton.mp y, et]
        exact ⟨List.mem_append_right _ (List.mem_singleton.mpr rfl), e⟩
  · rw [List.map_append]
    rw [et] at hs'
    rcases List.mem_append.mp hs' with y | y
    · exact List.mem_append_left _ (h.all s' y ne)
    · rw [List.mem_singleton.mp y] at ne ⊢
      obtain ⟨v, e⟩ := Option.ne_none_iff_exists'.mp ne
      rw [e]
      exact List.mem_append_right _ (List.mem_singleton.mpr rfl)
def spGAhead (P : Program) (w : World) (K : PySem.W.Frag) : Sp := fun vs H Q _ => ∃ (c x a d : Addr) (N : Addr → Prop) (G : Gm) (ls : List (Stt × Addr)) (b : Nat) (fs : List (Stt × Nat)), vs = [.ref x, .ref a, .ref d] ∧ GameAt K c H x G ∧ LinksAt P w N H a G ls ∧ Shut G (ls.map (·.1)) ∧ DN P w H d (kvS vI fs) ∧ a ≠ d ∧ CostI (ls.map (·.1)) (G.cost b) fs ∧
  ∀ H' e fs', DN P w H' e (kvS vI fs') → CostI (ls.map (·.1)) (G.cost (b + 1)) fs' → H e = none → Same H H' → Q (.ref e) H'
theorem sc_Game_costs_ahead : FnScope ["self", "links", "costs", "dearer", "state", "choice", "comes_next", "worst", "price"] ["self", "links", "costs"] (defScope s_Game_costs_ahead) := ⟨rfl, rfl, rfl, by decide +kernel, rfl, by decide +kernel, by decide +kernel⟩
theorem ok_gAhead (T : Tx K mg) : Has P w K mg base (mC K "Game" "costs_ahead") 2 ["self", "links", "costs"] (spGAhead P w K) := by
  obtain ⟨⟨fd_worst_cost, F_worst_cost, b_worst_cost⟩, kp_worst_cost⟩ := ok_worst (P := P) (w := w) (base := base) T
  obtain ⟨fd, F⟩ := T.d_Game_costs_ahead
  refine ⟨⟨fd, F.ok sc_Game_costs_ahead (fun vs H Q E h => ?_) (fun cdv A outer s H vs Q E hr h => ?_), F.bindsN fun _ _ _ _ _ _ us hl => match us, hl with | [_, _, _], _ => rfl⟩, F.kp⟩
  · obtain ⟨c, x, a, d, N, G, ls, b, fs, rfl, _⟩ := h
    rfl
  · obtain ⟨c, x, a, d, N, G, ls, b, fs, rfl, GA, LA, sh, dn, nad, CI, h⟩ := h
    have hr_worst_cost : Room 1 _ := hr.mono (by decide)
    refine ⟨_, PSs.nox (pss_cons (ps_set (i := 3) sc_Game_costs_ahead.nd rfl (Or.inl rfl) pe_nnew)
      (pss_cons (ps_lock (ps_for PassesOwn.never rfl (pi_keysN (P := P) (w := w) (pv 1)) (pg_name (i := 4) sc_Game_costs_ahead.nd rfl (Or.inl rfl)) (pss_one (ps_for PassesOwn.never rfl (piL (K := K) (pe_nget (hr9 hr) (pv 1) (pv 4) (fun _ _ => rfl))) (pgT (K := K) (n := 2) rfl (pgs_cons (pg_name (i := 5) sc_Game_costs_ahead.nd rfl (Or.inl rfl)) (pgs_cons (pg_name (i := 6) sc_Game_costs_ahead.nd rfl (Or.inl rfl)) pgs_nil))) (pss_cons (ps_set (i := 7) sc_Game_costs_ahead.nd rfl (Or.inl rfl) (pe_call F_worst_cost hr_worst_cost rfl T.glo_worst_cost kp_worst_cost b_worst_cost .nil pass0 (pa_cons (pv 6) (pa_cons (pv 2) pa_nil))))
      (pss_one (ps_if (pt_cmpR op_notN (pv 7) pe_non (nomark _)) (pss_cons (ps_set (i := 8) sc_Game_costs_ahead.nd rfl (Or.inl rfl) (pe_op op_add (pv 7) (pe_ix (ixT (K := K)) (pe_ix (ixL (K := K)) (pe_ix (ixL (K := K)) (fldK (K := K) (pv 0) rfl) (pe_ix (ixT (K := K)) (pv 4) pe_int (fun _ _ => rfl)) (fun _ _ => rfl)) (pe_op op_add (pv 5) pe_int) (fun _ _ => rfl)) pe_int (fun _ _ => rfl))))
      (pss_one (ps_nput (hr9 hr) (pv 3) (pv 4) (pe_callB (call_min2 rfl) (by rfl) T.free_min (by decide +kernel) (pa_cons (pv 8) (pa_cons (pe_nget2 (hr9 hr) (pv 3) (pv 4) (pv 8) ⟨by rfl, by rfl, by rfl, by rfl⟩) pa_nil))) rfl))) pss_nil)))))))
      (pss_one (ps_ret (pv 3))))), ?_⟩
    have few := states_few LA.nd (fun s' hs => by obtain ⟨q, hq, e⟩ := List.mem_map.mp hs; rw [← e]; exact LA.st q hq) GA.ok.n8 GA.ok.h3
    show ∀ (e : Addr) (oe : HO), H e = none → DN P w (upd H e oe) e [] → _
    intro e oe he dn1
    have s1 := same_upd (o := oe) he
    generalize upd H e oe = H1 at dn1 s1
    have LA1 := LA.same s1
    have GA1 := GA.same s1
    have dnd1 := dn.same s1
    have nae : a ≠ e := fun z => by
      obtain ⟨xs, ea, _⟩ := LA.dn
      rw [z, he] at ea
      cases ea
    obtain ⟨xs, ha, nx, ek⟩ := LA1.dn
    refine ⟨a, _, ha, True.intro, fun od => ?_⟩
    obtain ⟨dx, b0, ee, o, es, us, E0, h1, _, _, _, _, h6, h7, h8, h9⟩ := GA1.ex
    have GO := GA.ok
    clear GA GA1
    have ba : ButU a H1 (upd H1 a (.frz od (dNo P w a xs))) := fun c o n e => by rw [upd_ne n]; exact e
    have na := LA1.dn.not
    have nl : ∀ b, N b → ∀ ys, H1 b = some (.lst ys) → b ≠ a := fun b _ ys e y => na.2 ys (y ▸ e)
    have ha2 : (upd H1 a (.frz od (dNo P w a xs))) a = some (.frz od (dNo P w a xs)) := upd_same
    have nx2 : NAll (upd H1 a (.frz od (dNo P w a xs))) xs := nx.keep fun b ys q => ba _ _ (fun e => na.1 ys (e ▸ q)) q
    have dn2 : DN P w (upd H1 a (.frz od (dNo P w a xs))) d (kvS vI fs) := dnd1.but ba na.1 nad.symm
    have de2 : DN P w (upd H1 a (.frz od (dNo P w a xs))) e [] := dn1.but ba na.1 nae.symm
    have un2 : ∀ q ∈ ls, UnbAt N (upd H1 a (.frz od (dNo P w a xs))) q.2 (G.unb q.1) := fun q hq => (LA1.un q hq).but ba na.1 nl
    have hx2 := ba _ _ (fun z => by rw [z, ha] at h1; cases h1) h1
    have ho2 := ba _ _ (fun z => by rw [z, ha] at h6; cases h6) h6
    have hu2 : ∀ u ∈ us, OpsAt G.n (upd H1 a (.frz od (dNo P w a xs))) u := fun u hu => by
      obtain ⟨o1, o2⟩ := h8 u hu
      refine ⟨ba _ _ (fun z => by rw [z, ha] at o1; cases o1) o1, fun q hq => ?_⟩
      obtain ⟨v, v1, v2⟩ := o2 q hq
      exact ⟨v, ba _ _ (fun z => by rw [z, ha] at v1; cases v1) v1, ba _ _ (fun z => by rw [z, ha] at v2; cases v2) v2⟩
    have ne2 : ∀ ys, (upd H1 a (.frz od (dNo P w a xs))) e ≠ some (.tup ys) := de2.not.1
    have nle : ∀ ys, (upd H1 a (.frz od (dNo P w a xs))) e ≠ some (.lst ys) := de2.not.2
    have back : ∀ H', ButU e (upd H1 a (.frz od (dNo P w a xs))) H' → Same H (upd H' a (dNo P w a xs)) := fun H' bu c o eo => by
      by_cases ec : c = a
      · subst ec
        rw [upd_same, ← s1 _ _ eo, ha]
      · rw [upd_ne ec]
        exact bu _ _ (fun z => by rw [z, he] at eo; cases eo) (ba _ _ ec (s1 _ _ eo))
    generalize upd H1 a (.frz od (dNo P w a xs)) = H2 at ba ha2 nx2 dn2 de2 un2 hx2 ho2 hu2 ne2 nle back
    have len : xs.length = ls.length := by
      have := congrArg List.length ek
      unfold kvN at this
      rw [List.length_map, List.length_map] at this
      exact this
    have dz : DNR P w H2 a (kvS V.ref ls) := ⟨xs, .inr ⟨od, ha2⟩, nx2, ek⟩
    rw [List.length_map] at few
    have nde : d ≠ e := fun z => by
      obtain ⟨ys, ed, _⟩ := dn
      rw [z, he] at ed
      cases ed
    refine ⟨_, rfl, a, od, xs, rfl, ha2, ?_⟩
    refine for_it (walk_keysN (P := P) (w := w) (d := a) (o := od) (xs := xs)) (fun i σ H3 => (∃ v4 v5 v6 v7 v8 : Option V, σ = [some (.ref x), some (.ref a), some (.ref d), some (.ref e), v4, v5, v6, v7, v8]) ∧ ∃ fs0, DN P w H3 e (kvS vI fs0) ∧ CostI ((ls.map (·.1)).take i) (G.cost (b + 1)) fs0 ∧ ButU e H2 H3)
      ⟨⟨_, _, _, _, _, rfl⟩, [], de2, ⟨List.nodup_nil, fun q hq => (nomatch hq), fun s hs => (by simp at hs)⟩, fun c o _ h => h⟩ (fun i σ H3 _ ⟨_, _, _, _, bu⟩ => bu _ _ nae ha2) ?_ ?_
    · rintro i y σ H3 H4 hi ⟨⟨v4, v5, v6, v7, v8, rfl⟩, fs0, dn3, CI3, bu⟩ ⟨rfl, k, q, v, hx, rfl⟩
      obtain ⟨z, hz⟩ : ∃ z, ls[i]? = some z := ⟨_, List.getElem?_eq_getElem (by omega)⟩
      have ekv : (k, v) = (kS z.1, V.ref z.2) := by
        have e1 : (kvN xs)[i]? = some (k, v) := by unfold kvN; rw [List.getElem?_map, hx]; rfl
        rw [ek, List.getElem?_map, hz] at e1
        exact (Option.some.inj e1).symm
      obtain ⟨rfl, rfl⟩ := Prod.mk.inj ekv
      have mz : z ∈ ls := List.mem_of_getElem? hz
      have Sz := LA.st z mz
      have sq2 : StAt H2 q z.1 := StAt.of_key (nx2 _ (List.mem_of_getElem? hx)).1
      have hLi : (ls.map (·.1))[i]? = some z.1 := by rw [List.getElem?_map, hz]; rfl
      obtain ⟨nf, CI4⟩ := costI_snoc LA.nd hLi CI3
      have few0 : fs0.length ≤ 768 := by
        have := nodup_sub_len (fs0.map (·.1)) (ls.map (·.1)) CI3.nd fun s hs => by
          obtain ⟨q, hq, e⟩ := List.mem_map.mp hs
          rw [← e]
          exact List.mem_of_mem_take (CI3.val q hq).1
        rw [List.length_map, List.length_map] at this
        omega
      obtain ⟨uN, qs, hq2, eq2, cq2⟩ := un2 z mz
      have lq : qs.length = (G.unb z.1).length := by rw [← eq2, List.length_map]
      have nue : z.2 ≠ e := fun y => nle _ (y ▸ hq2)
      have dzk : ∀ H', ButU e H2 H' → DNR P w H' a (kvS V.ref ls) := fun H' bu => ⟨xs, .inr ⟨od, bu _ _ nae ha2⟩, nx2.keep fun b ys q => bu _ _ (fun y => ne2 _ (y ▸ q)) q, ek⟩
      refine ⟨_, rfl, _, rfl, a, q, kS z.1, _, _, rfl, rfl, dzk _ bu, (sq2.but bu ne2).key, kS_depth _, kvS_at V.ref LA.nd mz, z.2, rfl, ⟨_, SqL.of (bu _ _ nue hq2)⟩, ?_⟩
      refine for_it (walk_list (K := K) (a := z.2) (xs := qs.map fun y => V.ref y.1)) (fun j σ H5 => (∃ v5 v6 v7 v8 : Option V, σ = [some (.ref x), some (.ref a), some (.ref d), some (.ref e), some (.ref q), v5, v6, v7, v8]) ∧ DN P w H5 e (kvS vI (fs0 ++ accL z.1 (accO G b z.1 j))) ∧ ButU e H2 H5)
        ⟨⟨_, _, _, _, rfl⟩, by show DN P w _ e (kvS vI (fs0 ++ [])); rw [List.append_nil]; exact dn3, bu⟩ (fun j σ H5 _ ⟨_, _, bu⟩ => SqL.of (bu _ _ nue hq2)) ?_ ?_
      · rintro j y σ H5 H6 hj ⟨⟨v5, v6, v7, v8, rfl⟩, dn5, bu5⟩ ⟨rfl, hy⟩
        rw [List.getElem?_map] at hy
        obtain ⟨r, hr2, rfl⟩ := Option.map_eq_some_iff.mp hy
        have hc : (G.unb z.1)[j]? = some r.2 := by rw [← eq2, List.getElem?_map, hr2]; rfl
        have hcm := List.mem_of_getElem? hc
        have nle5 : ∀ b, N b → ∀ ys, H2 b = some (.lst ys) → b ≠ e := fun b _ ys hb y => nle ys (y ▸ hb)
        obtain ⟨lc, bs, nlc, hr3, hlc, ebs, sbs⟩ := (cq2 r (List.mem_of_getElem? hr2)).but bu5 ne2 nle5
        refine ⟨r.1, _, rfl, SqT.of hr3, rfl, _, _, rfl, _, _, rfl, rfl, ?_⟩
        have lbs : bs.length = r.2.2.length := by rw [← ebs, List.length_map]
        refine ⟨_, rfl, _, rfl, lc, d, bs, ls.map (·.1), G.cost b, fs, rfl, hlc, fun t ht => ⟨sbs t ht, sh z.1 (List.mem_map.mpr ⟨z, mz, rfl⟩) _ hcm _ (by rw [← ebs]; exact List.mem_map.mpr ⟨t, ht, rfl⟩)⟩, fun en => unb_ne GO Sz _ hcm (by rw [← ebs, en]; rfl), by rw [lbs]; exact Nat.le_trans (unb_nine _ hcm) (by decide), (dn2.but bu5 ne2 nde).r, CI, fun H7 s7 => ?_⟩
        rw [ebs]
        have eacc := accO_succ G b z.1 hc
        have bu7 : ButU e H2 H7 := fun c o ne h => s7 _ _ (bu5 _ _ ne h)
        have dn7 := dn5.same s7
        cases ew : worst (G.cost b) r.2.2 with
        | none =>
          rw [ew] at eacc
          refine ⟨_, rfl, rfl, false, rfl, iteF ⟨⟨_, _, _, _, rfl⟩, ?_, bu7⟩⟩
          rw [eacc]
          exact dn7
        | some v =>
          rw [ew] at eacc
          obtain ⟨u, hu⟩ : ∃ u, us[z.1.1]? = some u := ⟨_, List.getElem?_eq_getElem (by rw [h7]; exact Sz.1)⟩
          obtain ⟨u1, u2⟩ := hu2 u (List.mem_of_getElem? hu)
          have eu := h9 _ u hu
          have gu : (us.map fun u => V.ref u.1)[z.1.1]? = some (V.ref u.1) := by rw [List.getElem?_map, hu]; rfl
          have cl := unb_at hcm
          obtain ⟨p, hp⟩ : ∃ p, u.2[r.2.1]? = some p := ⟨_, List.getElem?_eq_getElem (by rw [← eu, List.length_map] at cl; exact cl)⟩
          have gp : (u.2.map fun o => V.ref o.1)[r.2.1]? = some (V.ref p.1) := by rw [List.getElem?_map, hp]; rfl
          obtain ⟨pa, p1, p2⟩ := u2 p (List.mem_of_getElem? hp)
          have epr : G.price z.1.1 r.2.1 = p.2.2 := by
            unfold Gm.price
            rw [← eu, List.getD_eq_getElem?_getD, List.getElem?_map, hp]
            rfl
          have nlst : ∀ {y : Addr} {ys : List V}, H2 y = some (.lst ys) → H7 y = some (.lst ys) := fun {y ys} hy => bu7 _ _ (fun z => nle _ (z ▸ hy)) hy
          have ntup : ∀ {y : Addr} {ys : List V}, H2 y = some (.tup ys) → H7 y = some (.tup ys) := fun {y ys} hy => bu7 _ _ (fun z => ne2 _ (z ▸ hy)) hy
          have hx7 := bu7 _ _ (fun y => by obtain ⟨ys, ed, _⟩ := de2; rw [y, ed] at hx2; cases hx2) hx2
          have sq7 := sq2.but bu7 ne2
          obtain ⟨lz, hq1, hq3⟩ := id sq7
          have ix : atI (u.2.map fun o => V.ref o.1) ((r.2.1 : Int) - 1 + 1) = some (V.ref p.1) := by
            rw [show (r.2.1 : Int) - 1 + 1 = (r.2.1 : Int) by omega]
            exact atI_nat gp
          refine ⟨_, rfl, rfl, true, rfl, iteT ?_⟩
          refine ⟨_, rfl, _, rfl, x, _, dx, _, _, rfl, hx7, T.cl_Game, T.n_Game_options, gf_options _ _ _ _, _, rfl, q, _, 0, _, rfl, rfl, SqT.of hq1, rfl, o, _, _, _, rfl, rfl, SqL.of (nlst ho2), atI_nat gu, _, rfl, _, _, rfl, rfl, u.1, _, _, _, rfl, rfl, SqL.of (nlst u1), ix, p.1, _, 1, _, rfl, rfl, SqT.of (ntup p1), rfl, _, _, rfl, rfl, ?_⟩
          refine ⟨_, rfl, _, rfl, e, rfl, ⟨_, dn7.r⟩, _, rfl, _, rfl, q, kS z.1, _, rfl, dn7.r, sq7.key, kS_depth _, ?_⟩
          have lenA : ∀ acc, (fs0 ++ accL z.1 acc).length ≤ 769 := fun acc => by
            rw [List.length_append]
            have : (accL z.1 acc).length ≤ 1 := by
              cases acc with
              | none => exact Nat.zero_le _
              | some _ => exact Nat.le_refl 1
            omega
          have step : ∀ H8 : Hp, ButU e H7 H8 → ButU e H2 H8 := fun H8 bu c o ne h => bu _ _ ne (bu7 _ _ ne h)
          have eput : ∀ o', ButU e H7 (upd H7 e o') := fun o' c o ne h => by rw [upd_ne ne]; exact h
          cases eac : accO G b z.1 j with
          | none =>
            rw [eac] at eacc dn7
            have ev : (valV (kvS vI (fs0 ++ accL z.1 none)) (kS z.1)).getD (V.int ((v : Int) + (p.2.2 : Int))) = V.int ((v : Int) + (p.2.2 : Int)) := by
              have := kvS_in vI z.1 (fs0 ++ accL z.1 none)
              rw [show fs0 ++ accL z.1 none = fs0 from List.append_nil _, decide_eq_false nf] at this
              rw [show fs0 ++ accL z.1 none = fs0 from List.append_nil _]
              cases kk : valV (kvS vI fs0) (kS z.1) with
              | none => rfl
              | some y => rw [kk] at this; cases this
            refine ⟨(v : Int) + (p.2.2 : Int), (v : Int) + (p.2.2 : Int), congrArg (fun y => [V.int ((v : Int) + (p.2.2 : Int)), y]) ev, _, rfl, _, rfl, e, q, kS z.1, _, rfl, rfl, dn7, sq7.key, kS_depth _, ?_, fun o' dn8 => ⟨⟨_, _, _, _, rfl⟩, ?_, step _ (eput o')⟩⟩
            · rw [List.length_map]
              exact Nat.lt_of_le_of_lt (lenA none) (by decide)
            · rw [if_neg (Int.lt_irrefl _)] at dn8
              have e1 : V.int ((v : Int) + (p.2.2 : Int)) = vI (v + p.2.2) := by unfold vI; congr 1
              rw [e1, show fs0 ++ accL z.1 none = fs0 from List.append_nil _, kvS_put vI nf] at dn8
              rw [eacc, epr]
              exact dn8
          | some dd =>
            rw [eac] at eacc dn7
            have ndk : ((fs0 ++ accL z.1 (some dd)).map (·.1)).Nodup := by
              rw [List.map_append]
              exact List.nodup_append.mpr ⟨CI3.nd, List.nodup_cons.mpr ⟨(fun z => nomatch z), List.nodup_nil⟩, fun a ha b hb e => nf (by rw [e, List.mem_singleton.mp hb] at ha; exact ha)⟩
            have ev : (valV (kvS vI (fs0 ++ accL z.1 (some dd))) (kS z.1)).getD (V.int ((v : Int) + (p.2.2 : Int))) = V.int (dd : Int) := by
              rw [kvS_at vI ndk (s := z.1) (a := dd) (List.mem_append_right _ (List.mem_singleton.mpr rfl))]
              rfl
            refine ⟨(v : Int) + (p.2.2 : Int), (dd : Int), congrArg (fun y => [V.int ((v : Int) + (p.2.2 : Int)), y]) ev, _, rfl, _, rfl, e, q, kS z.1, _, rfl, rfl, dn7, sq7.key, kS_depth _, ?_, fun o' dn8 => ⟨⟨_, _, _, _, rfl⟩, ?_, step _ (eput o')⟩⟩
            · rw [List.length_map]
              exact Nat.lt_of_le_of_lt (lenA (some dd)) (by decide)
            · have e1 : V.int (if (dd : Int) < (v : Int) + (p.2.2 : Int) then (dd : Int) else (v : Int) + (p.2.2 : Int)) = vI (min (v + p.2.2) dd) := by
                unfold vI
                congr 1
                split <;> omega
              rw [e1, show fs0 ++ accL z.1 (some dd) = fs0 ++ [(z.1, dd)] from rfl, kvS_put2 nf] at dn8
              rw [eacc, epr]
              exact dn8
      · rintro σ H5 ⟨⟨v5, v6, v7, v8, rfl⟩, dn5, bu5⟩
        rw [List.length_map, lq, accO_all] at dn5
        exact ⟨⟨_, _, _, _, _, rfl⟩, _, dn5, CI4, bu5⟩
    · rintro σ H3 ⟨⟨v4, v5, v6, v7, v8, rfl⟩, fs0, dn3, CI3, bu⟩
      rw [len, ← List.length_map (f := (·.1)), List.take_length] at CI3
      have ha3 := bu _ _ nae ha2
      exact ⟨ha3, _, rfl, h _ e fs0 (dn3.but (fun c o ne h => by rw [upd_ne ne]; exact h) (fun ys y => by rw [ha3] at y; cases y) nae.symm) CI3 he (back H3 bu)⟩
def spGPrice (K : PySem.W.Frag) : Sp := fun vs H Q _ => ∃ (c x lt : Addr) (G : Gm) (s : Stt) (bs : Nat), vs = [.ref x, .ref lt, vI bs, vI s.1] ∧ GameAt K c H x G ∧ G.St s ∧ LtAt H lt s.2 ∧ bs ≤ 20 ∧ ∀ H', Same H H' → Q (vLast (G.cost bs s)) H'
theorem sc_Game_price : FnScope ["self", "lot", "beats", "turn", "links", "costs", "beat", "state"] ["self", "lot", "beats", "turn"] (defScope s_Game_price) := ⟨rfl, rfl, rfl, by decide +kernel, rfl, by decide +kernel, by decide +kernel⟩
theorem ok_gPrice (T : Tx K mg) : HasK P w K mg base (mC K "Game" "price") 8 ["self", "lot", "beats", "turn"] 3 ["turn"] (spGPrice K) := by
  obtain ⟨⟨fd_check_asked, F_check_asked, b_check_asked⟩, kp_check_asked⟩ := ok_gAsked (P := P) (w := w) (base := base) T
  obtain ⟨⟨fd_links_from, F_links_from, b_links_from⟩, kp_links_from⟩ := ok_gLinks (P := P) (w := w) (base := base) T
  obtain ⟨⟨fd_costs_ahead, F_costs_ahead, b_costs_ahead⟩, kp_costs_ahead⟩ := ok_gAhead (P := P) (w := w) (base := base) T
  obtain ⟨fd, F⟩ := T.d_Game_price
  refine ⟨⟨fd, F.ok sc_Game_price (fun vs H Q E h => ?_) (fun cdv A outer s H vs Q E hr h => ?_), kbindsA F 3 ["turn"] fun _ _ _ _ _ _ us ws h1 h2 => match us, ws, h1, h2 with | [_, _, _], [_], _, _ => rfl⟩, F.kp⟩
  · obtain ⟨c, x, lt, G, s, bs, rfl, _⟩ := h
    rfl
  · obtain ⟨c, x, lt, G, st, bs, rfl, GA, S, ht, b20, h⟩ := h
    have hr_check_asked : Room 7 _ := hr.mono (by decide)
    have hr_links_from : Room 4 _ := hr.mono (by decide)
    have hr_costs_ahead : Room 2 _ := hr.mono (by decide)
    refine ⟨_, PSs.nox (pss_cons (ps_expr (pe_meth (pv 0) T.cl_Game T.m_Game_check_asked F_check_asked hr_check_asked b_check_asked .nil pass0 (pa_cons (pv 1) (pa_cons (pv 2) (pa_cons pe_int (pa_cons (pv 3) pa_nil))))))
      (pss_cons (ps_set (i := 4) sc_Game_price.nd rfl (Or.inl rfl) (pe_meth (pv 0) T.cl_Game T.m_Game_links_from F_links_from hr_links_from b_links_from .nil pass0 (pa_cons (pv 3) (pa_cons (pv 1) pa_nil))))
      (pss_cons (ps_lock (ps_setDcN (P := P) (w := w) (i := 5) (own := [("state", 7)]) (ga := (gName 7)) (fa := tYes) (hr9 hr) rfl sc_Game_price.nd rfl rfl (swd_true rfl rfl rfl (by decide +kernel)) (pi_keysN (P := P) (w := w) (pv 4)) (blkOk_by (by kernel_rfl)) (fun _ _ _ _ _ => (pg_name (i := 7) sc_Game_price.nd rfl (Or.inl rfl))) (fun _ _ _ _ _ => pts_nil) (fun _ _ _ _ _ => (pv 7)) (fun _ _ _ _ _ => pe_int)))
      (pss_cons (ps_for PassesOwn.never rfl (pi_range1 (by rfl) T.free_range (pa_cons (pv 2) pa_nil)) (pg_name (i := 6) sc_Game_price.nd rfl (Or.inl rfl)) (pss_one (ps_set (i := 5) sc_Game_price.nd rfl (Or.inl rfl) (pe_meth (pv 0) T.cl_Game T.m_Game_costs_ahead F_costs_ahead hr_costs_ahead b_costs_ahead .nil pass0 (pa_cons (pv 4) (pa_cons (pv 5) pa_nil))))))
      (pss_one (ps_ret (pe_nget1 (hr9 hr) (pv 5) (pe_tup (pa_cons (pv 3) (pa_cons (pv 1) pa_nil))) ⟨by rfl, by rfl, by rfl, by rfl⟩))))))), ?_⟩
    obtain ⟨dx, b, e, o, es, us, E, h1, _⟩ := GA.ex
    have GO := GA.ok
    refine ⟨_, rfl, x, dx, _, rfl, h1, (by rfl), _, rfl, _, rfl, _, rfl, c, x, lt, G, st, bs, 0, rfl, GA, ht, S, Nat.zero_le _, b20, fun H1 s1 => ?_⟩
    refine ⟨_, rfl, x, dx, _, rfl, s1 _ _ h1, (by rfl), _, rfl, _, rfl, c, x, lt, G, st, rfl, GA.same s1, S, s1 _ _ ht, fun H2 a ls LA sh sin an s2 => ?_⟩
    have s02 := s1.trans s2
    have few := states_few LA.nd (fun s' hs => by obtain ⟨q, hq, e⟩ := List.mem_map.mp hs; rw [← e]; exact LA.st q hq) GO.n8 GO.h3
    rw [List.length_map] at few
    obtain ⟨xs, ha, nx, ek⟩ := LA.dn
    refine ⟨a, _, ha, True.intro, fun od => ?_⟩
    have na := LA.dn.not
    have ba : ButU a H2 (upd H2 a (.frz od (dNo P w a xs))) := fun c o n e => by rw [upd_ne n]; exact e
    have ha3 : (upd H2 a (.frz od (dNo P w a xs))) a = some (.frz od (dNo P w a xs)) := upd_same
    have nx3 : NAll (upd H2 a (.frz od (dNo P w a xs))) xs := nx.keep fun b ys q => ba _ _ (fun e => na.1 ys (e ▸ q)) q
    have back : ∀ D H', (upd H2 a (.frz od (dNo P w a xs))) D = none → ButU D (upd H2 a (.frz od (dNo P w a xs))) H' → Same H2 (upd H' a (dNo P w a xs)) := fun D H' hD bu c o eo => by
      by_cases ec : c = a
      · subst ec
        rw [upd_same, ← eo, ha]
      · rw [upd_ne ec]
        have e3 := ba _ _ ec eo
        exact bu _ _ (fun z => by rw [z, hD] at e3; cases e3) e3
    generalize upd H2 a (.frz od (dNo P w a xs)) = H3 at ba ha3 nx3 back
    have len : xs.length = ls.length := by
      have := congrArg List.length ek
      unfold kvN at this
      rw [List.length_map, List.length_map] at this
      exact this
    refine ⟨_, rfl, a, od, xs, rfl, ha3, fun D oD hD dn0 => ?_⟩
    have nDa : a ≠ D := fun z => by rw [← z, ha3] at hD; cases hD
    refine ⟨fun i m H' => m = xs.length - i ∧ i ≤ xs.length ∧ DN P w H' D (kvS vI (((ls.map (·.1)).take i).map fun s => (s, 0))) ∧ ButU D H3 H', ⟨_, rfl, Nat.zero_le _, dn0, fun c o ne h => by rw [upd_ne ne]; exact h⟩, ?_⟩
    rintro i m H4 ⟨rfl, il, dn4, bu⟩
    have ha4 := bu _ _ nDa ha3
    by_cases hlt : i < xs.length
    · refine .inr ⟨⟨ha4, hlt⟩, fun H' => DN P w H' D (kvS vI (((ls.map (·.1)).take (i + 1)).map fun s => (s, 0))) ∧ ButU D H3 H', fun H' p => ⟨_, by omega, rfl, hlt, p⟩, fun y H' hy => ?_⟩
      obtain ⟨rfl, k, q, v, hx, rfl⟩ := hy
      obtain ⟨z, hz⟩ : ∃ z, ls[i]? = some z := ⟨_, List.getElem?_eq_getElem (by omega)⟩
      have ekv : (k, v) = (kS z.1, V.ref z.2) := by
        have e1 : (kvN xs)[i]? = some (k, v) := by unfold kvN; rw [List.getElem?_map, hx]; rfl
        rw [ek, List.getElem?_map, hz] at e1
        exact (Option.some.inj e1).symm
      obtain ⟨rfl, rfl⟩ := Prod.mk.inj ekv
      have hLi : (ls.map (·.1))[i]? = some z.1 := by rw [List.getElem?_map, hz]; rfl
      have et : (ls.map (·.1)).take (i + 1) = (ls.map (·.1)).take i ++ [z.1] := by
        rw [List.take_add_one, hLi]
        rfl
      have nin : z.1 ∉ (((ls.map (·.1)).take i).map fun s => ((s, 0) : Stt × Nat)).map (·.1) := by
        rw [List.map_map]
        intro y
        have y : z.1 ∈ ((ls.map (·.1)).take i).map id := y
        rw [List.map_id] at y
        have nd := LA.nd
        rw [← List.take_append_drop i (ls.map (·.1))] at nd
        exact (List.nodup_append.mp nd).2.2 _ y _ (List.mem_iff_getElem?.mpr ⟨0, by rw [List.getElem?_drop]; exact hLi⟩) rfl
      have kq := NKy.keep (fun b ys q => bu _ _ (fun y => by rw [y, hD] at q; cases q) q) _ _ (nx3 _ (List.mem_of_getElem? hx)).1
      refine ⟨rfl, ?_⟩
      unfold tYes
      refine iteT ⟨_, rfl, q, kS z.1, _, rfl, dn4, kq, kS_depth _, ?_, fun o' dn5 => ⟨?_, fun c o ne h => by rw [upd_ne ne]; exact bu _ _ ne h⟩⟩
      · rw [List.length_map, List.length_map, List.length_take, List.length_map]
        exact Nat.lt_of_le_of_lt (show min i ls.length ≤ 768 by omega) (by decide)
      · rw [et, List.map_append]
        rw [show V.int 0 = vI 0 from rfl, kvS_put vI nin] at dn5
        exact dn5
    · have e : i = xs.length := by omega
      subst e
      refine .inl ⟨⟨ha4, Nat.le_refl _⟩, ?_⟩
      rw [len, ← List.length_map (f := (·.1)), List.take_length] at dn4
      have s24 := back D H4 hD bu
      have dn5 : DN P w (upd H4 a (dNo P w a xs)) D (kvS vI ((ls.map (·.1)).map fun s => (s, 0))) := dn4.but (fun c o ne h => by rw [upd_ne ne]; exact h) (fun ys y => by rw [ha4] at y; cases y) nDa.symm
      refine ⟨ha4, ?_⟩
      generalize upd H4 a (dNo P w a xs) = H5 at s24 dn5
      have CI0 : CostI (ls.map (·.1)) (G.cost 0) ((ls.map (·.1)).map fun s => (s, 0)) := by
        refine ⟨?_, fun q hq => ?_, fun s' hs' _ => ?_⟩
        · rw [List.map_map]
          have e : ((fun q : Stt × Nat => q.1) ∘ fun s => (s, 0)) = id := rfl
          rw [e, List.map_id]
          exact LA.nd
        · obtain ⟨s', hs', rfl⟩ := List.mem_map.mp hq
          exact ⟨hs', rfl⟩
        · exact List.mem_map.mpr ⟨(s', 0), List.mem_map.mpr ⟨s', hs', rfl⟩, rfl⟩
      have nDn : H2 D = none := by
        cases e : H2 D with
        | none => rfl
        | some o =>
          rw [ba _ _ nDa.symm e] at hD
          cases hD
      refine ⟨_, rfl, (bs : Int), rfl, by omega, by omega, for_range (lo := 0) (n := ((bs : Nat) : Int).toNat) (fun i σ H6 => ∃ (d : Addr) (fs : List (Stt × Nat)) (v6 : Option V), σ = [some (.ref x), some (.ref lt), some (vI bs), some (vI st.1), some (.ref a), some (.ref d), v6, none] ∧ DN P w H6 d (kvS vI fs) ∧ CostI (ls.map (·.1)) (G.cost i) fs ∧ a ≠ d ∧ Same H2 H6) ?_ ?_ ?_⟩
      · exact ⟨D, _, _, rfl, dn5, CI0, nDa, s24⟩
      · rintro i σ H6 hi ⟨d, fs, v6, rfl, dn6, CI6, nad, s6⟩
        have LA6 := LA.same s6
        refine ⟨_, rfl, x, dx, _, rfl, (s02.trans s6) _ _ h1, (by rfl), _, rfl, _, rfl, c, x, a, d, _, G, ls, i, fs, rfl, GA.same (s02.trans s6), LA6, sh, dn6, nad, CI6, fun H7 e' fs' dn7 CI7 en s7 => ⟨e', fs', _, rfl, dn7, CI7, fun z => ?_, s6.trans s7⟩⟩
        obtain ⟨ys, ea, _⟩ := LA6.dn
        rw [z, en] at ea
        cases ea
      · rintro σ H6 ⟨d, fs, v6, rfl, dn6, CI6, nad, s6⟩
        rw [Int.toNat_natCast] at CI6
        refine ⟨_, rfl, d, rfl, ⟨_, dn6.r⟩, _, rfl, _, rfl, (by show 2 ≤ sizeLine; decide), fun p hp => ?_⟩
        have s7 := same_upd (o := HO.tup [vI st.1, .ref lt]) hp
        have s07 := (s02.trans s6).trans s7
        refine ⟨p, kS st, _, rfl, (dn6.same s7).r, StAt.key ⟨lt, upd_same, s07 _ _ ht⟩, kS_depth _, ?_⟩
        rw [CI6.get sin]
        exact h _ s07
end
end RL
/-! what an expression hands on is read only from then on -/
namespace RL
open PySem PySem.Spec PyProof.Rows L2
def tFrz (t : TE) : TE := fun σ H Q => t σ H fun v H1 => ∃ d u, v = .ref d ∧ H1 d = some u ∧ Mut (some u) ∧ ∀ od, Q v (upd H1 d (.frz od u))
theorem pe_freeze {X : Cx} {e : Expr} {t : TE} (h : PE X e t) : PE X e (tFrz t) := by
  refine ⟨fun pins s σ H Q I hw => thn (h.run pins s σ H _ I hw) fun u s1 ⟨v, H1, I1, rv, d, o, ev, hd, mu, q⟩ => ?_⟩
  obtain ⟨od, I2⟩ := I1.lock hd mu
  exact ⟨v, _, I2, rv, q od⟩
end RL
/-! games drawn (law's side) -/
namespace RL
open PySem PySem.Spec PyProof.Rows L2 RLM
theorem PlkAt.keep {n : Nat} {c : Addr} {H H' : Hp} {q : Plk} (k : Kc c H H') (hc : ∃ ys, H c = some (.lst ys)) (h : PlkAt n H q) : PlkAt n H' q := ⟨k.tup hc h.1, h.2.1.keep k hc, h.2.2⟩
theorem PlkAt.tk {n : Nat} {H H' : Hp} {q : Plk} (k : TK H H') (h : PlkAt n H q) : PlkAt n H' q := ⟨k _ _ h.1, h.2.1.tk k, h.2.2⟩
theorem HndAt.tk {n : Nat} {H H' : Hp} {q : Hnd} (k : TK H H') (h : HndAt n H q) : HndAt n H' q := ⟨k _ _ h.1, fun q hq => (h.2.1 q hq).tk k, h.2.2⟩
theorem HndsAt.tk {n : Nat} {H H' : Hp} {a : Addr} {hs : List Hnd} (k : TK H H') (h : HndsAt n H a hs) : HndsAt n H' a hs := ⟨k _ _ h.1, fun q hq => (h.2.1 q hq).tk k, h.2.2⟩
theorem HndAt.keep {n : Nat} {c : Addr} {H H' : Hp} {q : Hnd} (k : Kc c H H') (hc : ∃ ys, H c = some (.lst ys)) (h : HndAt n H q) : HndAt n H' q := ⟨k.tup hc h.1, fun q hq => (h.2.1 q hq).keep k hc, h.2.2⟩
theorem HndsAt.keep {n : Nat} {c : Addr} {H H' : Hp} {a : Addr} {hs : List Hnd} (k : Kc c H H') (hc : ∃ ys, H c = some (.lst ys)) (h : HndsAt n H a hs) : HndsAt n H' a hs := ⟨k.tup hc h.1, fun q hq => (h.2.1 q hq).keep k hc, h.2.2⟩
theorem menu_le {m : Nat} {xs : List V} {x : V} (h : x ∈ xs) (hs : ∀ v ∈ xs, ∃ p : Nat, v = vI p ∧ p ≤ m) : ∃ p : Nat, x = vI p ∧ p ≤ m := hs x h
/-- a game that was drawn: spans, board, pace, hands, lot; places, wish, hand on turn -/
structure Tl where
  D : Addr
  x : Addr
  tp : Addr
  hd : Addr
  lt : Addr
  n : Nat
  W : Nat
  k : Nat
  rs : List Addr
  M : Nat → Nat → Nat
  E : List (Nat × Nat)
  ps : List Nat
  hs : List Hnd
  p : Nat → Prop
structure TlAt (K : PySem.W.Frag) (c : Addr) (H : Hp) (u : Tl) : Prop where
  n1 : 1 ≤ u.n
  n8 : u.n ≤ 8
  W1 : 1 ≤ u.W
  W8 : u.W ≤ 8
  ta : TabAt c H u.D u.n u.rs u.M
  sp : Spans u.n u.E u.M
  bd : BoardAt K c H u.x u.n u.E
  hp : H u.tp = some (.tup (u.ps.map vI))
  po : PaceOk u.n u.ps
  hs : HndsAt u.n H u.hd u.hs
  hl : H u.lt = some (.tup ((lotP u.n u.p).map vI))
  ne : ∃ a, a < u.n ∧ u.p a
  kl : u.k < u.hs.length
theorem TlAt.keep {K : PySem.W.Frag} {c : Addr} {H H' : Hp} {u : Tl} (k : Kc c H H') (hc : ∃ ys, H c = some (.lst ys)) (h : TlAt K c H u) : TlAt K c H' u :=
  { h with ta := h.ta.keep k, bd := h.bd.keep k hc, hp := k.tup hc h.hp, hs := h.hs.keep k hc, hl := k.tup hc h.hl }
theorem TlAt.same {K : PySem.W.Frag} {c : Addr} {H H' : Hp} {u : Tl} (s : Same H H') (h : TlAt K c H u) : TlAt K c H' u :=
  { h with ta := h.ta.same s, bd := h.bd.same s, hp := s _ _ h.hp, hs := h.hs.same s, hl := s _ _ h.hl }
def told (u : Tl) : List (Key × V) := [(.inr "spans", .ref u.D), (.inr "pace", .ref u.tp), (.inr "hands", .ref u.hd), (.inr "wished", vI u.W), (.inr "here", .ref u.x), (.inr "lot", .ref u.lt), (.inr "at", vI u.k)]
def told5 (D tp hd x : Addr) (W : Nat) : List (Key × V) := [(.inr "spans", .ref D), (.inr "pace", .ref tp), (.inr "hands", .ref hd), (.inr "wished", vI W), (.inr "here", .ref x)]
def told6 (D tp hd x lt : Addr) (W : Nat) : List (Key × V) := [(.inr "spans", .ref D), (.inr "pace", .ref tp), (.inr "hands", .ref hd), (.inr "wished", vI W), (.inr "here", .ref x), (.inr "lot", .ref lt)]
theorem told5_m (D tp hd x : Addr) (W : Nat) : mergeK [] (told5 D tp hd x W) = told5 D tp hd x W := by rfl
theorem told5_p (D tp hd x lt : Addr) (W : Nat) : putK (told5 D tp hd x W) (.inr "lot") (.ref lt) = told6 D tp hd x lt W := by rfl
theorem told6_p (u : Tl) : putK (told6 u.D u.tp u.hd u.x u.lt u.W) (.inr "at") (vI u.k) = told u := by rfl
section
variable {H : Hp} {d : Addr} {u : Tl}
theorem told_here (h : Rd H d (.dK (told u))) : DGet H d (.str "here") (some (.ref u.x)) := .inl ⟨told u, .inr "here", h, rfl, rfl⟩
theorem told_pace (h : Rd H d (.dK (told u))) : DGet H d (.str "pace") (some (.ref u.tp)) := .inl ⟨told u, .inr "pace", h, rfl, rfl⟩
theorem told_hands (h : Rd H d (.dK (told u))) : DGet H d (.str "hands") (some (.ref u.hd)) := .inl ⟨told u, .inr "hands", h, rfl, rfl⟩
theorem told_wished (h : Rd H d (.dK (told u))) : DGet H d (.str "wished") (some (vI u.W)) := .inl ⟨told u, .inr "wished", h, rfl, rfl⟩
theorem told_lot (h : Rd H d (.dK (told u))) : DGet H d (.str "lot") (some (.ref u.lt)) := .inl ⟨told u, .inr "lot", h, rfl, rfl⟩
theorem told_at (h : Rd H d (.dK (told u))) : DGet H d (.str "at") (some (vI u.k)) := .inl ⟨told u, .inr "at", h, rfl, rfl⟩
theorem told_spans (h : Rd H d (.dK (told u))) : DGet H d (.str "spans") (some (.ref u.D)) := .inl ⟨told u, .inr "spans", h, rfl, rfl⟩
end
theorem Kc.off {c d : Addr} {H H1 H' : Hp} {o : HO} (k : Kc c H H') (k1 : Kc c H H1) (hd : H1 d = none) : Kc c H (L2.upd H' d o) := fun a u h1 h2 e => by
  have e1 := k1 a u h1 h2 e
  rw [upd_ne (fun z => by rw [z, hd] at e1; cases e1)]
  exact k a u h1 h2 e
theorem upd2 {H : Hp} {d : Addr} {o o' : HO} : upd (upd H d o) d o' = upd H d o' := by
  funext a
  by_cases e : a = d
  · rw [e, upd_same, upd_same]
  · rw [upd_ne e, upd_ne e, upd_ne e]
theorem repT1_all {K : PySem.W.Frag} {t : Addr} {n p : Nat} {H : Hp} {Q : VK} (ht : H t = some (.tup [vI p])) (n1 : 1 ≤ n) (n8 : n ≤ 8) (h : ∀ H' q, H' q = some (.tup ((List.replicate n p).map vI)) → Same H H' → Q (.ref q) H') : rRepT1 K (.ref t) (vI n) H Q := by
  refine ⟨t, (n : Int), _, rfl, rfl, SqT.of ht, by simp, by omega, by omega, (by show 1 ≤ 1000; decide), fun e => ?_, fun q hq => ?_⟩
  · have e1 : n = 1 := by omega
    subst e1
    exact h _ t ht (fun _ _ e => e)
  · refine h _ q ?_ (same_upd hq)
    rw [upd_same, rep_flat, List.map_replicate, Int.toNat_natCast]
section
variable {P : Program} {w : World} {K : PySem.W.Frag} {mg : Str → Option Value} {base : Heap}
def spLawHand : Sp := fun vs H Q _ => ∃ (b c : Addr) (n : Nat), vs = [.ref b, vI n] ∧ Box b c H ∧ 1 ≤ n ∧ n ≤ 8 ∧ ∀ H' (q : Hnd), HndAt n H' q → Kc c H H' → Box b c H' → Q (.ref q.1) H'
theorem sc__law_hand : FnScope ["_law_box_here", "_law_many", "_law_rows", "_law_k"] ["_law_box_here", "_law_many"] (defScope s__law_hand) := ⟨rfl, rfl, rfl, by decide +kernel, rfl, by decide +kernel, by decide +kernel⟩
theorem okl_hand (T : Tx K mg) : Has P w K mg base (He.ga K "_law_hand") 4 ["_law_box_here", "_law_many"] spLawHand := by
  obtain ⟨⟨fd_law_pick, F_law_pick, b_law_pick⟩, kp_law_pick⟩ := ok_pick (P := P) (w := w) (base := base) T
  obtain ⟨⟨fd_law_from, F_law_from, b_law_from⟩, kp_law_from⟩ := ok_from (P := P) (w := w) (base := base) T
  obtain ⟨⟨fd_law_look, F_law_look, b_law_look⟩, kp_law_look⟩ := ok_look (P := P) (w := w) (base := base) T
  obtain ⟨fd, F⟩ := T.d__law_hand
  refine ⟨⟨fd, F.ok sc__law_hand (fun vs H Q E h => ?_) (fun cdv A outer s H vs Q E hr h => ?_), F.bindsN fun _ _ _ _ _ _ us hl => match us, hl with | [_, _], _ => rfl⟩, F.kp⟩
  · obtain ⟨b, c, n, rfl, _⟩ := h
    rfl
  · obtain ⟨b, c, n, rfl, B, n1, n8, h⟩ := h
    have hr_law_pick : Room 1 _ := hr.mono (by decide)
    have hr_law_from : Room 2 _ := hr.mono (by decide)
    have hr_law_look : Room 3 _ := hr.mono (by decide)
    refine ⟨_, PSs.nox (pss_cons (ps_set (i := 2) sc__law_hand.nd rfl (Or.inl rfl) (pe_lst pa_nil))
      (pss_cons (ps_for PassesOwn.never rfl (pi_range1 (by rfl) T.free_range (pa_cons (pe_call F_law_pick hr_law_pick rfl T.glo_law_pick kp_law_pick b_law_pick .nil pass0 (pa_cons (pv 0) (pa_cons pe_int pa_nil))) pa_nil)) (pg_name (i := 3) sc__law_hand.nd rfl (Or.inl rfl)) (pss_one (ps_expr (bmK (K := K) PySem.F.plainAttrs_list PySem.F.slot_list_append PySem.F.type_list_append mt_append (pv 2) (pa_cons (pe_tup (pa_cons (pe_call F_law_look hr_law_look rfl T.glo_law_look kp_law_look b_law_look .nil pass0 (pa_cons (pv 0) (pa_cons (pv 1) pa_nil))) (pa_cons (pe_call F_law_from hr_law_from rfl T.glo_law_from kp_law_from b_law_from .nil pass0 (pa_cons (pv 0) (pa_cons (pe_lst (pa_cons pe_int (pa_cons pe_int (pa_cons pe_int (pa_cons (pe_call F_law_pick hr_law_pick rfl T.glo_law_pick kp_law_pick b_law_pick .nil pass0 (pa_cons (pv 0) (pa_cons pe_int pa_nil))) pa_nil))))) pa_nil))) pa_nil))) pa_nil)))))
      (pss_one (ps_ret (pe_callTy (tupK (K := K)) (by rfl) T.free_tuple (by decide +kernel) (pa_cons (pv 2) pa_nil)))))), ?_⟩
    refine ⟨(by show 0 ≤ sizeLine; decide), fun D hD => ?_⟩
    have s0 := same_upd (o := HO.lst []) hD
    have Dc := (B.new hD).1
    have Db := (B.new hD).2
    have hD0 : (upd H D (.lst [])) D = some (.lst []) := upd_same
    have B0 := B.same s0
    generalize upd H D (.lst []) = H0 at s0 hD0 B0
    refine ⟨_, rfl, b, c, _, rfl, B0, by decide, by decide, fun H1 j k1 B1 j0 j1 => ?_⟩
    have hD1 := k1 _ _ Dc (fun _ z => by cases z) hD0
    refine ⟨j, rfl, by omega, by omega, for_range (lo := 0) (n := j.toNat) (fun i σ H' => ∃ (qs : List Plk) (v3 : Option V), σ = [some (.ref b), some (vI n), some (.ref D), v3] ∧ H' D = some (.lst (qs.map fun q => V.ref q.1)) ∧ (∀ q ∈ qs, PlkAt n H' q) ∧ qs.length = i ∧ Kc c H H' ∧ Box b c H')
      ⟨[], none, rfl, hD1, by simp, rfl, (kc_same s0).trans k1, B1⟩ ?_ ?_⟩
    · rintro i σ H2 hi ⟨qs, v3, rfl, hq, each, lq, k2, B2⟩
      refine ⟨_, rfl, .inl ⟨rfl, _, SqL.of hq⟩, _, rfl, _, rfl, b, c, n, rfl, B2, n1, n8, fun H3 v L LA LO k3 B3 => ?_⟩
      refine ⟨_, rfl, _, rfl, b, c, _, rfl, B3, by decide, by decide, fun H4 z k4 B4 z0 z1 => ?_⟩
      refine ⟨(by show 4 ≤ sizeLine; decide), fun l hl => ?_⟩
      have s5 := same_upd (o := HO.lst [V.int 0, V.int 1, V.int 99, V.int z]) hl
      refine ⟨b, c, l, _, rfl, B4.same s5, upd_same, (B4.new hl).1, by show 1 ≤ 4; decide, by show 4 ≤ 1000; decide, fun H6 y k6 B6 hy => ?_⟩
      obtain ⟨m, rfl, m9⟩ : ∃ m : Nat, y = vI m ∧ m ≤ 99 := by
        simp only [List.mem_cons, List.not_mem_nil, or_false] at hy
        rcases hy with e | e | e | e <;> subst e
        · exact ⟨0, rfl, by decide⟩
        · exact ⟨1, rfl, by decide⟩
        · exact ⟨99, rfl, by decide⟩
        · exact ⟨z.toNat, by show V.int z = V.int _; congr 1; omega, by omega⟩
      refine ⟨(by show 2 ≤ sizeLine; decide), fun t ht => ?_⟩
      have s7 := same_upd (o := HO.tup [v, vI m]) ht
      have k26 := ((k3.trans k4).trans (kc_same s5)).trans k6
      have k27 := k26.trans (kc_same s7)
      have k37 := (((k4.trans (kc_same s5)).trans k6)).trans (kc_same s7)
      have B7 := B6.same s7
      have h7 : (upd H6 t (.tup [v, vI m])) t = some (.tup [v, vI m]) := upd_same
      generalize upd H6 t (.tup [v, vI m]) = H7 at s7 k27 k37 B7 h7
      have hq7 := k27 _ _ Dc (fun _ z => by cases z) hq
      refine ⟨D, _, _, rfl, rfl, hq7, ?_, qs ++ [(t, v, L, m)], _, rfl, ?_, fun q hm => ?_, by rw [List.length_append, lq]; rfl, ?_, B7.upd Dc Db⟩
      · rw [List.length_map, lq]
        exact Nat.lt_of_le_of_lt (show i ≤ 5 by omega) (by decide)
      · rw [upd_same, List.map_append]
        rfl
      · have bt : ∀ (a : Addr) (xs : List V), H7 a = some (.tup xs) → (upd H7 D (.lst ((qs.map fun q => V.ref q.1) ++ [V.ref t]))) a = some (.tup xs) := fun a xs e => by
          rw [upd_ne (ne_of e hq7 (fun z => nomatch z))]
          exact e
        have each7 : ∀ q ∈ qs ++ [(t, v, L, m)], PlkAt n H7 q := fun q hm => by
          rcases List.mem_append.mp hm with hm | hm
          · exact (each q hm).keep k27 B2.lst
          · rw [List.mem_singleton.mp hm]
            exact ⟨h7, LA.keep k37 B3.lst, LO, m9⟩
        obtain ⟨q1, q2, q3⟩ := each7 q hm
        exact ⟨bt _ _ q1, q2.tk bt, q3⟩
      · exact (k2.trans k27).upd hD
    · rintro σ H2 ⟨qs, v3, rfl, hq, each, lq, k2, B2⟩
      refine ⟨_, rfl, D, _, rfl, .inl ⟨SqL.of hq, fun t ht => ?_⟩⟩
      have s3 := same_upd (o := HO.tup (qs.map fun q => V.ref q.1)) ht
      exact h _ (t, qs) ⟨upd_same, fun q hq => (each q hq).same s3, by show qs.length ≤ 4; omega⟩ (k2.trans (kc_same s3)) (B2.same s3)
def spLawGame (K : PySem.W.Frag) : Sp := fun vs H Q _ => ∃ (b c : Addr), vs = [.ref b, vI 8] ∧ Box b c H ∧ ∀ H' d (u : Tl), TlAt K c H' u → H' d = some (.dK (told u)) → d ≠ b → Kc c H H' → Box b c H' → Q (.ref d) H'
theorem sc__law_game : FnScope ["_law_box_here", "_law_most", "_law_board_here", "_law_spans_here", "_law_here", "_law_hands", "_law_flat", "_law_pace_here", "_law_wished", "_law_told", "_law_k"] ["_law_box_here", "_law_most"] (defScope s__law_game) := ⟨rfl, rfl, rfl, by decide +kernel, rfl, by decide +kernel, by decide +kernel⟩
theorem okl_game (T : Tx K mg) : Has P w K mg base (He.ga K "_law_game") 8 ["_law_box_here", "_law_most"] (spLawGame K) := by
  obtain ⟨⟨fd_law_pick, F_law_pick, b_law_pick⟩, kp_law_pick⟩ := ok_pick (P := P) (w := w) (base := base) T
  obtain ⟨⟨fd_law_from, F_law_from, b_law_from⟩, kp_law_from⟩ := ok_from (P := P) (w := w) (base := base) T
  obtain ⟨⟨fd_law_hand, F_law_hand, b_law_hand⟩, kp_law_hand⟩ := okl_hand (P := P) (w := w) (base := base) T
  obtain ⟨⟨fd_law_ground, F_law_ground, b_law_ground⟩, kp_law_ground⟩ := ok_ground (P := P) (w := w) (base := base) T
  obtain ⟨⟨fd_law_pace, F_law_pace, b_law_pace⟩, kp_law_pace⟩ := ok_pace (P := P) (w := w) (base := base) T
  obtain ⟨⟨fd_law_start, F_law_start, b_law_start⟩, kp_law_start⟩ := ok_start (P := P) (w := w) (base := base) T
  obtain ⟨fd, F⟩ := T.d__law_game
  refine ⟨⟨fd, F.ok sc__law_game (fun vs H Q E h => ?_) (fun cdv A outer s H vs Q E hr h => ?_), F.bindsN fun _ _ _ _ _ _ us hl => match us, hl with | [_, _], _ => rfl⟩, F.kp⟩
  · obtain ⟨b, c, rfl, _⟩ := h
    rfl
  · obtain ⟨b, c, rfl, B, h⟩ := h
    have hu := hu_of hr
    have hr_law_pick : Room 1 _ := hr.mono (by decide)
    have hr_law_from : Room 2 _ := hr.mono (by decide)
    have hr_law_hand : Room 4 _ := hr.mono (by decide)
    have hr_law_ground : Room 7 _ := hr.mono (by decide)
    have hr_law_pace : Room 3 _ := hr.mono (by decide)
    have hr_law_start : Room 3 _ := hr.mono (by decide)
    refine ⟨_, PSs.nox (pss_cons (ps_asg (pe_call F_law_ground hr_law_ground rfl T.glo_law_ground kp_law_ground b_law_ground .nil pass0 (pa_cons (pv 0) (pa_cons (pv 1) pa_nil))) (pgT (K := K) (n := 3) rfl (pgs_cons (pg_name (i := 2) sc__law_game.nd rfl (Or.inr rfl)) (pgs_cons (pg_name (i := 3) sc__law_game.nd rfl (Or.inl rfl)) (pgs_cons (pg_name (i := 4) sc__law_game.nd rfl (Or.inl rfl)) pgs_nil)))))
      (pss_cons (ps_set (i := 5) sc__law_game.nd rfl (Or.inl rfl) (pe_callTy (tupK (K := K)) (by rfl) T.free_tuple (by decide +kernel) (pa_cons (pe_lc (own := [("_law_k", 10)]) (g := (gName 10)) (tt := tYes) rfl sc__law_game.nd (pi_range1 (by rfl) T.free_range (pa_cons (pe_op op_add pe_int (pe_call F_law_pick hr_law_pick rfl T.glo_law_pick kp_law_pick b_law_pick .nil pass0 (pa_cons (pv 0) (pa_cons pe_int pa_nil)))) pa_nil)) (blkOk_by (by kernel_rfl)) (fun _ _ _ _ _ => (pg_name (i := 10) sc__law_game.nd rfl (Or.inl rfl))) (fun _ _ _ _ _ => pts_nil) (fun _ _ _ _ _ => (pe_call F_law_hand hr_law_hand rfl T.glo_law_hand kp_law_hand b_law_hand .nil pass0 (pa_cons (pv 0) (pa_cons (pe_ix (ixT (K := K)) (pv 2) pe_int (fun _ _ => rfl)) pa_nil))))) pa_nil)))
      (pss_cons (ps_set (i := 6) sc__law_game.nd rfl (Or.inl rfl) (pe_op (repTK (K := K)) (pe_tup (pa_cons (pe_call F_law_from hr_law_from rfl T.glo_law_from kp_law_from b_law_from .nil pass0 (pa_cons (pv 0) (pa_cons (pe_lst (pa_cons pe_int (pa_cons pe_int (pa_cons pe_int (pa_cons pe_int pa_nil))))) pa_nil))) pa_nil)) (pe_ix (ixT (K := K)) (pv 2) pe_int (fun _ _ => rfl))))
      (C8.pss_cut (ps_set (i := 7) sc__law_game.nd rfl (Or.inl rfl) (pe_ifExp (pt_cmpR op_eq (pe_call F_law_pick hr_law_pick rfl T.glo_law_pick kp_law_pick b_law_pick .nil pass0 (pa_cons (pv 0) (pa_cons pe_int pa_nil))) pe_int (nomark _)) (pv 6) (pe_call F_law_pace hr_law_pace rfl T.glo_law_pace kp_law_pace b_law_pace .nil pass0 (pa_cons (pv 0) (pa_cons (pe_ix (ixT (K := K)) (pv 2) pe_int (fun _ _ => rfl)) pa_nil)))))
      (pss_cons (ps_set (i := 8) sc__law_game.nd rfl (Or.inl rfl) (pe_call F_law_from hr_law_from rfl T.glo_law_from kp_law_from b_law_from .nil pass0 (pa_cons (pv 0) (pa_cons (pe_lst (pa_cons pe_int (pa_cons pe_int (pa_cons pe_int (pa_cons (pe_op op_add pe_int (pe_call F_law_pick hr_law_pick rfl T.glo_law_pick kp_law_pick b_law_pick .nil pass0 (pa_cons (pv 0) (pa_cons pe_int pa_nil)))) pa_nil))))) pa_nil))))
      (pss_cons (ps_set (i := 9) sc__law_game.nd rfl (Or.inl rfl) (pe_disp (pps_cons pe_str (pv 3) (pps_cons pe_str (pv 7) (pps_cons pe_str (pv 5) (pps_cons pe_str (pv 8) (pps_cons pe_str (pv 4) pps_nil))))) (by rfl) (by rfl) (fun z => by cases z) (by decide)))
      (pss_cons (ps_dput hu (pv 9) pe_str (pe_lock (pe_call F_law_start hr_law_start rfl T.glo_law_start kp_law_start b_law_start .nil pass0 (pa_cons (pv 0) (pa_cons (pe_ix (ixT (K := K)) (pv 2) pe_int (fun _ _ => rfl)) pa_nil)))) rfl)
      (pss_cons (ps_dput hu (pv 9) pe_str (pe_lock (pe_call F_law_pick hr_law_pick rfl T.glo_law_pick kp_law_pick b_law_pick .nil pass0 (pa_cons (pv 0) (pa_cons (pe_callB (lenK (K := K)) (by rfl) T.free_len (by decide +kernel) (pa_cons (pv 5) pa_nil)) pa_nil)))) rfl)
      (pss_one (ps_ret (pv 9))))))))))), ?_⟩
    refine ⟨_, rfl, _, rfl, b, c, rfl, B, fun H1 u t l D x n L rs M E n1 n8 hu ht PL WO hE TA SP BA k1 B1 => ?_⟩
    refine ⟨u, _, rfl, SqT.of hu, rfl, _, _, rfl, _, _, rfl, _, _, rfl, rfl, ?_⟩
    refine ⟨_, rfl, b, c, _, rfl, B1, by decide, by decide, fun H2 j k2 B2 j0 j1 => ?_⟩
    have ht2 := k2.tup B1.lst ht
    refine ⟨_, _, rfl, rfl, 1 + j, rfl, by omega, by omega, fun D2 hD2 => ?_⟩
    refine lc_relK (walk_range (lo := 0) (n := (1 + j).toNat)) (fun _ v H' => ∃ q : Hnd, v = .ref q.1 ∧ HndAt n H' q) (by omega) B2 hD2 (fun _ _ _ _ ⟨q, e, h⟩ tk => ⟨q, e, h.tk tk⟩) (fun _ _ _ => trivial) ?_ ?_
    · rintro i x' H4 H5 Nx hi k4 B4 ⟨rfl, rfl⟩ kk
      exact ⟨rfl, _, rfl, _, rfl, t, _, 0, _, rfl, rfl, SqT.of (k4.tup B2.lst ht2), rfl, b, c, n, rfl, B4, n1, n8, fun H6 q HA k6 B6 => kk _ _ ⟨q, rfl, HA⟩ k6 B6⟩
    · intro H3 ys h3 ly each k3 B3 D2c
      obtain ⟨hs, eh, lh, rh⟩ := zip_V (fun q : Hnd => V.ref q.1) (fun q _ => HndAt n H3 q) ys (List.range (1 + j).toNat) (by rw [List.length_range]; exact ly) fun k y z hy hz => each k y hy
      subst eh
      rw [List.length_range] at lh
      have hsA : ∀ q ∈ hs, HndAt n H3 q := fun q hq => by
        obtain ⟨i, hi⟩ := List.mem_iff_getElem?.mp hq
        have il := (List.getElem?_eq_some_iff.mp hi).1
        exact rh i q i hi (List.getElem?_range (by omega))
      refine ⟨D2, _, rfl, .inl ⟨SqL.of h3, fun hd hhd => ?_⟩⟩
      have s4 := same_upd (o := HO.tup (hs.map fun q => V.ref q.1)) hhd
      have h4 : (upd H3 hd (.tup (hs.map fun q => V.ref q.1))) hd = some (.tup (hs.map fun q => V.ref q.1)) := upd_same
      have B4 := B3.same s4
      have k14 := (k2.trans k3).trans (kc_same s4)
      generalize upd H3 hd (.tup (hs.map fun q => V.ref q.1)) = H4 at s4 h4 B4 k14
      have HS4 : HndsAt n H4 hd hs := ⟨h4, fun q hq => (hsA q hq).same s4, by omega, by omega⟩
      have ht4 := k14.tup B1.lst ht
      refine ⟨_, rfl, (by show 4 ≤ sizeLine; decide), fun m5 hm5 => ?_⟩
      have s5 := same_upd (o := HO.lst [V.int 0, V.int 1, V.int 1, V.int 2]) hm5
      refine ⟨b, c, m5, _, rfl, B4.same s5, upd_same, (B4.new hm5).1, by show 1 ≤ 4; decide, by show 4 ≤ 1000; decide, fun H6 y k6 B6 hy => ?_⟩
      obtain ⟨p0, rfl, p7⟩ := menu_small hy (by decide)
      have k46 := (kc_same s5).trans k6
      refine ⟨(by show 1 ≤ sizeLine; decide), fun t1 ht1 => ?_⟩
      have s7 := same_upd (o := HO.tup [vI p0]) ht1
      refine ⟨_, rfl, t, _, 0, _, rfl, rfl, SqT.of (s7 _ _ (k46.tup B4.lst ht4)), rfl, ?_⟩
      refine repT1_all upd_same n1 n8 fun H8 fl hfl s8 => ?_
      have B8 := (B6.same s7).same s8
      have k48 := ((k46.trans (kc_same s7)).trans (kc_same s8))
      generalize upd H6 t1 (.tup [vI p0]) = H7 at s7 s8
      clear s5 s7 s8 k46 k6 B6
      refine ⟨fun σ H' => ∃ (tp : Addr) (ps : List Nat), σ = [some (.ref b), some (vI 8), some (.ref t), some (.ref D), some (.ref x), some (.ref hd), some (.ref fl), some (.ref tp), none, none, none] ∧ H' tp = some (.tup (ps.map vI)) ∧ PaceOk n ps ∧ Kc c H4 H' ∧ Box b c H', ?_, ?_⟩
      · refine ⟨_, rfl, b, c, _, rfl, B8, by decide, by decide, fun H9 j9 k9 B9 _ _ => ?_⟩
        refine ⟨rfl, _, rfl, ?_⟩
        refine ite2 (fun _ => ?_) (fun _ => ?_)
        · exact ⟨_, rfl, fl, List.replicate n p0, rfl, k9.tup B8.lst hfl, ⟨by simp, fun z hz => by rw [(List.mem_replicate.mp hz).2]; exact p7⟩, k48.trans k9, B9⟩
        · exact ⟨_, rfl, _, rfl, t, _, 0, _, rfl, rfl, SqT.of (k9.tup B8.lst (k48.tup B4.lst ht4)), rfl, b, c, n, rfl, B9, n1, n8, fun H10 tp ps lp p7 hp k10 B10 => ⟨tp, ps, rfl, hp, ⟨lp, p7⟩, (k48.trans k9).trans k10, B10⟩⟩
      rintro σ H9 ⟨tp, ps, rfl, hp9, PO, k9, B9⟩
      refine ⟨_, rfl, _, rfl, b, c, _, rfl, B9, by decide, by decide, fun H10 z k10 B10 z0 z1 => ?_⟩
      refine ⟨_, _, rfl, rfl, (by show 4 ≤ sizeLine; decide), fun m11 hm11 => ?_⟩
      have s11 := same_upd (o := HO.lst [V.int 1, V.int 2, V.int 3, V.int (1 + z)]) hm11
      refine ⟨b, c, m11, _, rfl, B10.same s11, upd_same, (B10.new hm11).1, by show 1 ≤ 4; decide, by show 4 ≤ 1000; decide, fun H12 y k12 B12 hy => ?_⟩
      obtain ⟨W, rfl, W1, W8⟩ : ∃ m : Nat, y = vI m ∧ 1 ≤ m ∧ m ≤ 8 := by
        simp only [List.mem_cons, List.not_mem_nil, or_false] at hy
        rcases hy with e | e | e | e <;> subst e
        · exact ⟨1, rfl, by decide, by decide⟩
        · exact ⟨2, rfl, by decide, by decide⟩
        · exact ⟨3, rfl, by decide, by decide⟩
        · exact ⟨(1 + z).toNat, by show V.int (1 + z) = V.int _; congr 1; omega, by omega, by omega⟩
      have k9c := ((k10.trans (kc_same s11)).trans k12)
      clear s11 k12 hy k10 hm11 B10
      refine fun d hd0 => ⟨_, rfl, _, rfl, _, rfl, _, rfl, _, rfl, upd_same, told5 D tp hd x W, rfl, by show 5 ≤ 15; decide, ?_⟩
      rw [upd2]
      have dnb := (B12.new hd0).2
      have dnc := (B12.new hd0).1
      rw [told5_m]
      have h13 : (upd H12 d (.dK (told5 D tp hd x W))) d = some (.dK (told5 D tp hd x W)) := upd_same
      have B13 : Box b c (upd H12 d (.dK (told5 D tp hd x W))) := B12.upd dnc dnb
      have k13 : Kc c H9 (upd H12 d (.dK (told5 D tp hd x W))) := k9c.off k9c hd0
      generalize upd H12 d (.dK (told5 D tp hd x W)) = H13 at h13 B13 k13
      refine ⟨d, _, h13, True.intro, fun od => ?_⟩
      have kd1 : ∀ o, Kc c H13 (upd H13 d o) := fun o => (Kc.refl c H13).dict ⟨_, h13⟩
      have B14 : Box b c (upd H13 d (.frz od (.dK (told5 D tp hd x W)))) := B13.upd dnc dnb
      have k14' : Kc c H9 (upd H13 d (.frz od (.dK (told5 D tp hd x W)))) := k13.trans (kd1 _)
      have h14 : (upd H13 d (.frz od (.dK (told5 D tp hd x W)))) d = some (.frz od (.dK (told5 D tp hd x W))) := upd_same
      generalize upd H13 d (.frz od (.dK (told5 D tp hd x W))) = H14 at B14 k14' h14
      have ht14 := k14'.tup B9.lst (k9.tup B4.lst ht4)
      refine ⟨_, rfl, _, rfl, t, _, 0, _, rfl, rfl, SqT.of ht14, rfl, b, c, n, rfl, B14, n1, n8, fun H15 lt pl hlt ne15 k15 B15 => ?_⟩
      have h15 := k15 _ _ dnc (fun _ z => by cases z) h14
      refine ⟨h15, _, rfl, d, _, rfl, DPut.k (k := .inr "lot") upd_same (by show 5 < sizeLine; decide), ?_⟩
      rw [upd2, told5_p]
      have k16 : Kc c H9 (upd H15 d (.dK (told6 D tp hd x lt W))) := (k14'.trans k15).off k9c hd0
      have h16 : (upd H15 d (.dK (told6 D tp hd x lt W))) d = some (.dK (told6 D tp hd x lt W)) := upd_same
      have l16 : (upd H15 d (.dK (told6 D tp hd x lt W))) lt = some (.tup ((lotP n pl).map vI)) := by rw [upd_ne (ne_of hlt h15 (fun z => nomatch z))]; exact hlt
      have B16 : Box b c (upd H15 d (.dK (told6 D tp hd x lt W))) := B15.upd dnc dnb
      generalize upd H15 d (.dK (told6 D tp hd x lt W)) = H16 at k16 h16 l16 B16
      refine ⟨d, _, h16, True.intro, fun od' => ?_⟩
      have B17 : Box b c (upd H16 d (.frz od' (.dK (told6 D tp hd x lt W)))) := B16.upd dnc dnb
      have k17 : Kc c H9 (upd H16 d (.frz od' (.dK (told6 D tp hd x lt W)))) := k16.off k9c hd0
      have h17 : (upd H16 d (.frz od' (.dK (told6 D tp hd x lt W)))) d = some (.frz od' (.dK (told6 D tp hd x lt W))) := upd_same
      have l17 : (upd H16 d (.frz od' (.dK (told6 D tp hd x lt W)))) lt = some (.tup ((lotP n pl).map vI)) := by rw [upd_ne (ne_of l16 h16 (fun z => nomatch z))]; exact l16
      generalize upd H16 d (.frz od' (.dK (told6 D tp hd x lt W))) = H17 at k17 h17 l17 B17
      have HS17 := HS4.keep (k9.trans k17) B4.lst
      refine ⟨_, rfl, _, rfl, hd, _, rfl, .inr (SqT.of HS17.1), b, c, _, rfl, B17, by rw [List.length_map]; omega, by rw [List.length_map]; omega, fun H18 k k18 B18 ik0 ik1 => ?_⟩
      rw [List.length_map] at ik1
      obtain ⟨k, rfl⟩ := Int.eq_ofNat_of_zero_le ik0
      have h18 := k18 _ _ dnc (fun _ z => by cases z) h17
      refine ⟨h18, _, rfl, d, _, rfl, DPut.k (k := .inr "at") upd_same (by show 6 < sizeLine; decide), ?_⟩
      have k19 : ∀ o, Kc c H9 (upd H18 d o) := fun o => (k17.trans k18).off k9c hd0
      have k119 : ∀ o, Kc c H1 (upd H18 d o) := fun o => (k14.trans k9).trans (k19 o)
      have l18 := k18.tup B17.lst l17
      rw [upd2]
      refine ⟨_, rfl, h _ d ⟨D, x, tp, hd, lt, n, W, k, rs, M, E, ps, hs, pl⟩ ⟨n1, n8, W1, W8, TA.keep (k119 _), SP, BA.keep (k119 _) B1.lst, (k19 _).tup B9.lst hp9, PO, HS4.keep (k9.trans (k19 _)) B4.lst, ?_, ne15, by show k < hs.length; omega⟩ ?_ dnb (k1.trans (k119 _)) (B18.upd dnc dnb)⟩
      · show (upd H18 d _) lt = _
        rw [upd_ne (ne_of l18 h18 (fun z => nomatch z))]
        exact l18
      · rw [upd_same]
        exact congrArg (fun l => some (HO.dK l)) (told6_p ⟨D, x, tp, hd, lt, n, W, k, rs, M, E, ps, hs, pl⟩)
def spLawDear : Sp := fun vs H Q _ => ∃ r : Option Nat, vs = [vLast r] ∧ Q (vI (r.getD 1000000)) H
theorem sc__law_dear : FnScope ["_law_cost"] ["_law_cost"] (defScope s__law_dear) := ⟨rfl, rfl, rfl, by decide +kernel, rfl, by decide +kernel, by decide +kernel⟩
theorem okl_dear (T : Tx K mg) : Has P w K mg base (He.ga K "_law_dear") 1 ["_law_cost"] spLawDear := by
  obtain ⟨fd, F⟩ := T.d__law_dear
  refine ⟨⟨fd, F.ok sc__law_dear (fun vs H Q E h => ?_) (fun cdv A outer s H vs Q E hr h => ?_), F.bindsN fun _ _ _ _ _ _ us hl => match us, hl with | [_], _ => rfl⟩, F.kp⟩
  · obtain ⟨r, rfl, _⟩ := h
    rfl
  · obtain ⟨r, rfl, h⟩ := h
    refine ⟨_, PSs.nox (pss_one (ps_ret (pe_ifExp (pt_cmpR op_isN (pv 0) pe_non (nomark _)) (pe_op op_pow pe_int pe_int) (pv 0)))), ?_⟩
    cases r with
    | none => exact ⟨_, rfl, rfl, _, rfl, iteT ⟨_, _, rfl, rfl, ⟨by decide, by decide, by decide⟩, h⟩⟩
    | some v => exact ⟨_, rfl, rfl, _, rfl, iteF ⟨_, rfl, h⟩⟩
theorem ginit_at {c x dx : Addr} {H : Hp} {Q : VK} {E : XK} {b tp hd : Addr} {n W : Nat} {Es : List (Nat × Nat)} {ps : List Nat} {M : Nat → Nat → Nat} {hs : List Hnd} (hc : ∃ ys, H c = some (.lst ys)) (B : BoardAt K c H b n Es) (S : Spans n Es M) (hp : H tp = some (.tup (ps.map vI))) (PO : PaceOk n ps) (HS : HndsAt n H hd hs) (W1 : 1 ≤ W) (W8 : W ≤ 8)
    (hx : H x = none) (hdx : H dx = none) (h : ∀ H', GameAt K c H' x (gmOf n W Es ps M hs) → Same H H' → Q .non H') : spGameInit K [.ref x, .ref b, .ref tp, .ref hd, vI W] (upd (upd H dx (.own x)) x (.ins (cG K) dx [])) Q E := by
  refine ⟨H, c, x, dx, b, tp, hd, n, W, Es, ps, M, hs, rfl, fun b o e => ?_, hx, upd_same, B, S, hp, PO, HS, hc, W1, W8, h⟩
  rw [upd_ne (ne_of_none e hx), upd_ne (ne_of_none e hdx)]
  exact e
def spPlayed (K : PySem.W.Frag) : Sp := fun vs H Q _ => ∃ (c d : Addr) (u : Tl), vs = [.ref d] ∧ Rd H d (.dK (told u)) ∧ TlAt K c H u ∧ (∃ ys, H c = some (.lst ys)) ∧ ∀ H' x, GameAt K c H' x (gmOf u.n u.W u.E u.ps u.M u.hs) → Same H H' → Q (.ref x) H'
theorem sc__law_played : FnScope ["_law_told"] ["_law_told"] (defScope s__law_played) := ⟨rfl, rfl, rfl, by decide +kernel, rfl, by decide +kernel, by decide +kernel⟩
theorem okl_played (T : Tx K mg) : Has P w K mg base (He.ga K "_law_played") 12 ["_law_told"] (spPlayed K) := by
  obtain ⟨⟨fd_Game, F_Game, kb_Game⟩, kp_Game⟩ := ok_ginit (P := P) (w := w) (base := base) T
  obtain ⟨fd, F⟩ := T.d__law_played
  refine ⟨⟨fd, F.ok sc__law_played (fun vs H Q E h => ?_) (fun cdv A outer s H vs Q E hr h => ?_), F.bindsN fun _ _ _ _ _ _ us hl => match us, hl with | [_], _ => rfl⟩, F.kp⟩
  · obtain ⟨c, d, u, rfl, _⟩ := h
    rfl
  · obtain ⟨c, d, u, rfl, hd, U, hc, h⟩ := h
    have hu := hu_of hr
    have hr_Game : Room 11 _ := hr.mono (by decide)
    refine ⟨_, PSs.nox (pss_one (ps_ret (pe_makeK T.mk_Game F_Game hr_Game rfl T.glo_Game kb_Game pass0 (pa_cons (pe_dget hu (pv 0) pe_str (fun _ _ => rfl)) (pa_cons (pe_dget hu (pv 0) pe_str (fun _ _ => rfl)) (pa_cons (pe_dget hu (pv 0) pe_str (fun _ _ => rfl)) pa_nil))) (pk_cons (pe_dget hu (pv 0) pe_str (fun _ _ => rfl)) pk_nil)))), ?_⟩
    refine ⟨_, rfl, d, _, rfl, told_here hd, _, rfl, d, _, rfl, told_pace hd, _, rfl, d, _, rfl, told_hands hd, _, rfl, d, _, rfl, told_wished hd, rfl, rfl, fun x dx hx hdx _ => ?_⟩
    exact ginit_at hc U.bd U.sp U.hp U.po U.hs U.W1 U.W8 hx hdx fun H' GA s => ⟨rfl, h H' x GA s⟩
def spLike (K : PySem.W.Frag) : Sp := fun vs H Q _ => ∃ (c d hd : Addr) (u : Tl) (W : Nat) (hs : List Hnd), vs = [.ref d, .ref hd, vI W] ∧ Rd H d (.dK (told u)) ∧ TlAt K c H u ∧ (∃ ys, H c = some (.lst ys)) ∧ (H hd = some (.lst (hs.map fun h => V.ref h.1)) ∨ H hd = some (.tup (hs.map fun h => V.ref h.1))) ∧ (∀ h ∈ hs, HndAt u.n H h) ∧ 1 ≤ hs.length ∧ hs.length ≤ 3 ∧ 1 ≤ W ∧ W ≤ 8 ∧
  ∀ H' x, GameAt K c H' x (gmOf u.n W u.E u.ps u.M hs) → Same H H' → Q (.ref x) H'
theorem sc__law_game_like : FnScope ["_law_told", "_law_hands", "_law_wished"] ["_law_told", "_law_hands", "_law_wished"] (defScope s__law_game_like) := ⟨rfl, rfl, rfl, by decide +kernel, rfl, by decide +kernel, by decide +kernel⟩
theorem okl_like (T : Tx K mg) : Has P w K mg base (He.ga K "_law_game_like") 12 ["_law_told", "_law_hands", "_law_wished"] (spLike K) := by
  obtain ⟨⟨fd_Game, F_Game, kb_Game⟩, kp_Game⟩ := ok_ginit (P := P) (w := w) (base := base) T
  obtain ⟨fd, F⟩ := T.d__law_game_like
  refine ⟨⟨fd, F.ok sc__law_game_like (fun vs H Q E h => ?_) (fun cdv A outer s H vs Q E hr h => ?_), F.bindsN fun _ _ _ _ _ _ us hl => match us, hl with | [_, _, _], _ => rfl⟩, F.kp⟩
  · obtain ⟨c, d, hd, u, W, hs, rfl, _⟩ := h
    rfl
  · obtain ⟨c, d, hd, u, W, hs, rfl, hdd, U, hc, hh, each, l1, l3, W1, W8, h⟩ := h
    have hu := hu_of hr
    have hr_Game : Room 11 _ := hr.mono (by decide)
    refine ⟨_, PSs.nox (pss_one (ps_ret (pe_makeK T.mk_Game F_Game hr_Game rfl T.glo_Game kb_Game pass0 (pa_cons (pe_dget hu (pv 0) pe_str (fun _ _ => rfl)) (pa_cons (pe_dget hu (pv 0) pe_str (fun _ _ => rfl)) (pa_cons (pe_callTy (tupK (K := K)) (by rfl) T.free_tuple (by decide +kernel) (pa_cons (pv 1) pa_nil)) pa_nil))) (pk_cons (pv 2) pk_nil)))), ?_⟩
    refine ⟨_, rfl, d, _, rfl, told_here hdd, _, rfl, d, _, rfl, told_pace hdd, _, rfl, hd, hs.map fun h => V.ref h.1, rfl, ?_⟩
    rcases hh with hh | hh
    · refine .inl ⟨SqL.of hh, fun l hl => ?_⟩
      have s1 := same_upd (o := HO.tup (hs.map fun h => V.ref h.1)) hl
      have h1 : (upd H l (.tup (hs.map fun h => V.ref h.1))) l = some (.tup (hs.map fun h => V.ref h.1)) := upd_same
      generalize upd H l (.tup (hs.map fun h => V.ref h.1)) = H1 at s1 h1
      refine ⟨_, rfl, rfl, rfl, fun x dx hx hdx _ => ?_⟩
      exact ginit_at (hc.imp fun _ z => s1 _ _ z) (U.bd.same s1) U.sp (s1 _ _ U.hp) U.po ⟨h1, fun q hq => (each q hq).same s1, l1, l3⟩ W1 W8 hx hdx fun H' GA s => ⟨rfl, h H' x GA (s1.trans s)⟩
    · refine .inr ⟨SqT.of hh, _, rfl, rfl, rfl, fun x dx hx hdx _ => ?_⟩
      exact ginit_at hc U.bd U.sp U.hp U.po ⟨hh, each, l1, l3⟩ W1 W8 hx hdx fun H' GA s => ⟨rfl, h H' x GA s⟩
end
end RL
/-! games of drawn papers beside each other -/
namespace RL
open PySem PySem.Spec PyProof.Rows L2 RLM
abbrev dear (r : Option Nat) : Nat := r.getD 1000000
theorem dear_le {a b : Option Nat} (h : leO a b) (ha : ∀ v, a = some v → v ≤ 1000000) : dear a ≤ dear b := by
  cases b with
  | some v =>
    obtain ⟨u, rfl, le⟩ := h v rfl
    exact le
  | none =>
    cases a with
    | none => exact Nat.le_refl _
    | some u => exact ha u rfl
theorem cost_small {G : Gm} (ok : GmOk G) {b : Nat} (hb : b ≤ 20) {s : Stt} : ∀ v, G.cost b s = some v → v ≤ 1980 := fun v hv => by
  have k := cost_bound G 99 (fun s c hc => ?_) b s v hv
  · omega
  · obtain ⟨h1, _, _⟩ := unb_mem.mp hc
    show ((G.opts s.1).getD c.1 (fun _ => 0, 0)).2 ≤ 99
    rw [List.getD_eq_getElem?_getD, List.getElem?_eq_getElem h1]
    have hm : (G.opts s.1)[c.1] ∈ G.opts s.1 := List.getElem_mem _
    generalize (G.opts s.1)[c.1] = o at hm
    show o.2 ≤ 99
    have hm : o ∈ (fun _ => 0, 0) :: G.hands.getD s.1 [] := hm
    rcases List.mem_cons.mp hm with e | e
    · rw [e]
      exact Nat.zero_le _
    · rw [List.getD_eq_getElem?_getD] at e
      cases q : G.hands[s.1]? with
      | none => rw [q] at e; cases e
      | some x =>
        rw [q] at e
        exact ((ok.each x (List.mem_of_getElem? q)).2 o e).1
theorem dear_eq {G : Gm} (ok : GmOk G) {b : Nat} (hb : b ≤ 20) {s : Stt} : dear (G.cost b s) = 1000000 ↔ G.cost b s = none := by
  cases e : G.cost b s with
  | none => exact ⟨fun _ => rfl, fun _ => rfl⟩
  | some v =>
    have := cost_small ok hb v e
    exact ⟨fun h => absurd (show v = 1000000 from h) (by omega), fun h => nomatch h⟩
theorem gm_opts {n W : Nat} {E : List (Nat × Nat)} {ps : List Nat} {M : Nat → Nat → Nat} {hs : List Hnd} {t : Nat} {q : Hnd} (h : hs[t]? = some q) : (gmOf n W E ps M hs).opts t = (fun _ => 0, 0) :: optsL M q.2 := by
  show _ :: (hs.map fun h => optsL M h.2).getD t [] = _
  rw [List.getD_eq_getElem?_getD, List.getElem?_map, h]
  rfl
theorem gm_optsN {n W : Nat} {E : List (Nat × Nat)} {ps : List Nat} {M : Nat → Nat → Nat} {hs : List Hnd} {t : Nat} (h : hs[t]? = none) : (gmOf n W E ps M hs).opts t = [(fun _ => 0, 0)] := by
  show _ :: (hs.map fun h => optsL M h.2).getD t [] = _
  rw [List.getD_eq_getElem?_getD, List.getElem?_map, h]
  rfl
/-- what the second hands hold stands in the first, no dearer -/
def Less (h' h : List Plk) : Prop := h.length ≤ h'.length ∧ ∀ (i : Nat) (a a' : Plk), h[i]? = some a → h'[i]? = some a' → a'.2.2.1 = a.2.2.1 ∧ a'.2.2.2 ≤ a.2.2.2
theorem Less.refl (h : List Plk) : Less h h := ⟨Nat.le_refl _, fun i a a' e e' => by
  rw [e] at e'
  cases e'
  exact ⟨rfl, Nat.le_refl _⟩⟩
theorem wider_of {n W W' : Nat} {E : List (Nat × Nat)} {ps : List Nat} {M : Nat → Nat → Nat} {hs hs' : List Hnd} (hW : W ≤ W') (l : hs'.length = hs.length) (h : ∀ (t : Nat) (q q' : Hnd), hs[t]? = some q → hs'[t]? = some q' → Less q'.2 q.2) : Wider (gmOf n W' E ps M hs') (gmOf n W E ps M hs) where
  n := rfl
  ends := rfl
  many := by show (hs'.map _).length = (hs.map _).length; rw [List.length_map, List.length_map, l]
  W := hW
  opt := fun t i hi => by
    cases e : hs[t]? with
    | none =>
      have e' : hs'[t]? = none := by
        rw [List.getElem?_eq_none_iff] at e ⊢
        omega
      rw [gm_optsN e] at hi ⊢
      rw [gm_optsN e']
      exact ⟨hi, rfl, Nat.le_refl _⟩
    | some q =>
      obtain ⟨q', e'⟩ : ∃ q', hs'[t]? = some q' := by
        obtain ⟨tl, _⟩ := List.getElem?_eq_some_iff.mp e
        exact ⟨_, List.getElem?_eq_getElem (by omega)⟩
      obtain ⟨ll, ht⟩ := h t q q' e e'
      rw [gm_opts e] at hi ⊢
      rw [gm_opts e']
      cases i with
      | zero => exact ⟨Nat.succ_pos _, rfl, Nat.le_refl _⟩
      | succ i =>
        have hi : i + 1 < (optsL M q.2).length + 1 := hi
        unfold optsL at hi ⊢
        rw [List.length_map] at hi
        have il : i < q.2.length := by omega
        obtain ⟨h1, h2⟩ := ht i q.2[i] (q'.2[i]'(by omega)) (List.getElem?_eq_getElem _) (List.getElem?_eq_getElem _)
        refine ⟨by show i + 1 < (q'.2.map _).length + 1; rw [List.length_map]; omega, ?_, ?_⟩
        · show ((q'.2.map fun q : Plk => (ans M q.2.2.1, q.2.2.2)).getD i (fun _ => 0, 0)).1 = ((q.2.map fun q : Plk => (ans M q.2.2.1, q.2.2.2)).getD i (fun _ => 0, 0)).1
          rw [List.getD_eq_getElem?_getD, List.getD_eq_getElem?_getD, List.getElem?_map, List.getElem?_map, List.getElem?_eq_getElem il, List.getElem?_eq_getElem (show i < q'.2.length by omega)]
          show ans M (q'.2[i]).2.2.1 = ans M (q.2[i]).2.2.1
          rw [h1]
        · show ((q'.2.map fun q : Plk => (ans M q.2.2.1, q.2.2.2)).getD i (fun _ => 0, 0)).2 ≤ ((q.2.map fun q : Plk => (ans M q.2.2.1, q.2.2.2)).getD i (fun _ => 0, 0)).2
          rw [List.getD_eq_getElem?_getD, List.getD_eq_getElem?_getD, List.getElem?_map, List.getElem?_map, List.getElem?_eq_getElem il, List.getElem?_eq_getElem (show i < q'.2.length by omega)]
          exact h2
theorem alike_of {n W : Nat} {E : List (Nat × Nat)} {ps : List Nat} {M : Nat → Nat → Nat} {hs hs' : List Hnd} (l : hs'.length = hs.length) (h : ∀ (t : Nat) (q q' : Hnd), hs[t]? = some q → hs'[t]? = some q' → q'.2.map (fun a => a.2.2.1) = q.2.map fun a => a.2.2.1) : Alike (gmOf n W E ps M hs) (gmOf n W E ps M hs') where
  n := rfl
  ends := rfl
  many := by show (hs.map _).length = (hs'.map _).length; rw [List.length_map, List.length_map, l]
  W := rfl
  len := fun t => by
    cases e : hs[t]? with
    | none =>
      have e' : hs'[t]? = none := by
        rw [List.getElem?_eq_none_iff] at e ⊢
        omega
      rw [gm_optsN e, gm_optsN e']
    | some q =>
      obtain ⟨q', e'⟩ : ∃ q', hs'[t]? = some q' := by
        obtain ⟨tl, _⟩ := List.getElem?_eq_some_iff.mp e
        exact ⟨_, List.getElem?_eq_getElem (by omega)⟩
      have ll := congrArg List.length (h t q q' e e')
      rw [List.length_map, List.length_map] at ll
      rw [gm_opts e, gm_opts e']
      unfold optsL
      rw [List.length_cons, List.length_cons, List.length_map, List.length_map, ll]
  opt := fun t i => by
    cases e : hs[t]? with
    | none =>
      have e' : hs'[t]? = none := by
        rw [List.getElem?_eq_none_iff] at e ⊢
        omega
      rw [gm_optsN e, gm_optsN e']
    | some q =>
      obtain ⟨q', e'⟩ : ∃ q', hs'[t]? = some q' := by
        obtain ⟨tl, _⟩ := List.getElem?_eq_some_iff.mp e
        exact ⟨_, List.getElem?_eq_getElem (by omega)⟩
      have ll := h t q q' e e'
      rw [gm_opts e, gm_opts e']
      cases i with
      | zero => rfl
      | succ i =>
        show ((optsL M q.2).getD i _).1 = ((optsL M q'.2).getD i _).1
        unfold optsL
        have k := congrArg (fun l : List Look => l[i]?) ll
        have k : (q'.2.map fun a => a.2.2.1)[i]? = (q.2.map fun a => a.2.2.1)[i]? := k
        rw [List.getElem?_map, List.getElem?_map] at k
        rw [List.getD_eq_getElem?_getD, List.getD_eq_getElem?_getD, List.getElem?_map, List.getElem?_map]
        cases e1 : q.2[i]? with
        | none =>
          rw [e1] at k
          cases e2 : q'.2[i]? with
          | none => rfl
          | some b => rw [e2] at k; cases k
        | some a =>
          rw [e1] at k
          cases e2 : q'.2[i]? with
          | none => rw [e2] at k; cases k
          | some b =>
            rw [e2] at k
            have k := Option.some.inj k
            show ans M a.2.2.1 = ans M b.2.2.1
            rw [show b.2.2.1 = a.2.2.1 from k]
theorem free_cost {n W : Nat} {E : List (Nat × Nat)} {ps : List Nat} {M : Nat → Nat → Nat} {hs : List Hnd} (h : ∀ q ∈ hs, ∀ a ∈ q.2, a.2.2.2 = 0) (b : Nat) (s : Stt) : (gmOf n W E ps M hs).cost b s = if (gmOf n W E ps M hs).ok b s = true then some 0 else none := by
  refine cost_free (fun s c hc => ?_) b s
  obtain ⟨h1, _, _⟩ := unb_mem.mp hc
  show (((gmOf n W E ps M hs).opts s.1).getD c.1 (fun _ => 0, 0)).2 ≤ 0
  cases e : hs[s.1]? with
  | none =>
    rw [gm_optsN e] at h1 ⊢
    have : c.1 = 0 := by
      have h1 : c.1 < 1 := h1
      omega
    rw [this]
    exact Nat.le_refl _
  | some q =>
    rw [gm_opts e] at h1 ⊢
    generalize c.1 = i at h1
    cases i with
    | zero => exact Nat.le_refl _
    | succ i =>
      show ((optsL M q.2).getD i _).2 ≤ 0
      unfold optsL
      rw [List.getD_eq_getElem?_getD, List.getElem?_map]
      cases e1 : q.2[i]? with
      | none => exact Nat.le_refl _
      | some a =>
        show a.2.2.2 ≤ 0
        rw [h q (List.mem_of_getElem? e) a (List.mem_of_getElem? e1)]
        exact Nat.le_refl _
open Classical in
theorem gm_St {n W : Nat} {E : List (Nat × Nat)} {ps : List Nat} {M : Nat → Nat → Nat} {hs : List Hnd} {k : Nat} {p : Nat → Prop} (kl : k < hs.length) (ne : ∃ a, a < n ∧ p a) : (gmOf n W E ps M hs).St (k, lotP n p) := by
  refine ⟨by show k < (hs.map _).length; rw [List.length_map]; exact kl, fun e => ?_, ⟨fun b => decide (p b), ?_⟩⟩
  · obtain ⟨a, an, pa⟩ := ne
    have := mem_lotP.mpr ⟨an, pa⟩
    rw [show lotP n p = [] from e] at this
    cases this
  · unfold lotP
    exact List.filter_congr fun b _ => by congr
theorem gm_sub {n W : Nat} {E : List (Nat × Nat)} {ps : List Nat} {M : Nat → Nat → Nat} {hs : List Hnd} {k : Nat} {p q : Nat → Prop} (kl : k < hs.length) (ne : ∃ a, a < n ∧ q a) (sub : ∀ a, a < n → q a → p a) : Sub (gmOf n W E ps M hs) (k, lotP n q) (k, lotP n p) :=
  ⟨rfl, gm_St kl ne, gm_St kl (ne.imp fun a h => ⟨h.1, sub a h.1 h.2⟩), fun a ha => mem_lotP.mpr ⟨(mem_lotP.mp ha).1, sub a (mem_lotP.mp ha).1 (mem_lotP.mp ha).2⟩⟩
theorem cut_toG (k : Nat) {xs : List V} : cutV xs none (some (k : Int)) = xs.take k := by
  unfold cutV
  rw [HT.sIx_nat]
  show (xs.drop 0).take (min k xs.length - 0) = _
  rw [List.drop_zero, Nat.sub_zero]
  rcases Nat.le_total k xs.length with h | h
  · rw [Nat.min_eq_left h]
  · rw [Nat.min_eq_right h, List.take_of_length_le (Nat.le_refl _), List.take_of_length_le h]
theorem lotP_pw {n : Nat} {p : Nat → Prop} : (lotP n p).Pairwise (· < ·) := by
  unfold lotP
  exact List.Pairwise.sublist List.filter_sublist List.pairwise_lt_range
theorem Less.snoc {h : List Plk} (l4 : h.length ≤ 4) (a : Plk) : Less ((h ++ [a]).take 4) h := by
  refine ⟨by rw [List.length_take, List.length_append]; show h.length ≤ min 4 (h.length + 1); omega, fun i b b' e e' => ?_⟩
  have il := (List.getElem?_eq_some_iff.mp e).1
  rw [List.getElem?_take, if_pos (by omega), List.getElem?_append_left il, e] at e'
  cases e'
  exact ⟨rfl, Nat.le_refl _⟩
theorem lot_sub {n : Nat} {p : Nat → Prop} {ys : List Nat} (h : ys.Sublist (lotP n p)) : ys = lotP n fun a => a ∈ ys := by
  refine sorted_eq ((lotP_pw (n := n) (p := p)).sublist h) lotP_pw fun b => ?_
  rw [mem_lotP]
  exact ⟨fun hb => ⟨(mem_lotP.mp (h.subset hb)).1, hb⟩, fun hb => hb.2⟩
/-- a hand with another's looks, prices beside them so -/
def RelH (S : Plk → Plk → Prop) (n : Nat) (H : Hp) (q0 q : Hnd) : Prop := HndAt n H q ∧ q.2.length = q0.2.length ∧ ∀ (i : Nat) (a0 a : Plk), q0.2[i]? = some a0 → q.2[i]? = some a → a.2.2.1 = a0.2.2.1 ∧ S a0 a
theorem RelH.looks {S : Plk → Plk → Prop} {n : Nat} {H : Hp} {q0 q : Hnd} (h : RelH S n H q0 q) : q.2.map (fun a => a.2.2.1) = q0.2.map fun a => a.2.2.1 := by
  refine List.ext_getElem? fun i => ?_
  rw [List.getElem?_map, List.getElem?_map]
  by_cases il : i < q0.2.length
  · have e0 : q0.2[i]? = some q0.2[i] := List.getElem?_eq_getElem il
    have e1 : q.2[i]? = some (q.2[i]'(by rw [h.2.1]; exact il)) := List.getElem?_eq_getElem _
    rw [e0, e1]
    exact congrArg some (h.2.2 i _ _ e0 e1).1
  · have e0 : q0.2[i]? = none := List.getElem?_eq_none (by omega)
    have e1 : q.2[i]? = none := List.getElem?_eq_none (by rw [h.2.1]; omega)
    rw [e0, e1]
theorem RelH.less {n : Nat} {H : Hp} {q0 q : Hnd} (h : RelH (fun a0 a => a0.2.2.2 ≤ a.2.2.2) n H q0 q) : Less q0.2 q.2 :=
  ⟨by rw [h.2.1]; exact Nat.le_refl _, fun i a a0 e e0 => ⟨(h.2.2 i a0 a e0 e).1.symm, (h.2.2 i a0 a e0 e).2⟩⟩
theorem RelH.free {n : Nat} {H : Hp} {q0 q : Hnd} (h : RelH (fun _ a => a.2.2.2 = 0) n H q0 q) : ∀ a ∈ q.2, a.2.2.2 = 0 := fun a ha => by
  obtain ⟨i, hi⟩ := List.mem_iff_getElem?.mp ha
  have il := (List.getElem?_eq_some_iff.mp hi).1
  exact (h.2.2 i (q0.2[i]'(by rw [← h.2.1]; exact il)) a (List.getElem?_eq_getElem _) hi).2
end RL
/-! `a or b` of any values -/
namespace RL
open PySem PySem.Spec PyProof.Rows L2
def tOrA (K : PySem.W.Frag) (ta tb : TE) : TE := fun σ H Q => ta σ H fun x H1 => ∃ k, TruV K x H1 k ∧ if k = true then Q x H1 else tb σ H1 Q
theorem pe_orA {X : Cx} {K : PySem.W.Frag} {a b : Expr} {rest : List Expr} {pos : Pos} {ta tb : TE} (hK : X.K = K) (ha : PE X a ta) (hb : PE X (.BoolOp .Or (b :: rest) pos) tb) : PE X (.BoolOp .Or (a :: b :: rest) pos) (tOrA K ta tb) := by
  subst hK
  refine ⟨fun pins s σ H Q I h => ?_⟩
  refine BoolOp_or (thn (ha.run pins s σ H _ I h) fun v s1 ⟨x, H1, I1, r1, k, tk, q1⟩ => ?_)
  refine thn (tru_ok pins s1 σ H1 x v (fun k' H' => k' = k ∧ H' = H1) I1 r1 ⟨k, tk, rfl, rfl⟩) fun c s2 ⟨H', I2, ec, eH⟩ => ?_
  subst ec eH
  cases c with
  | false => exact hb.run pins s2 σ _ Q I2 q1
  | true => exact ⟨x, _, I2, r1, q1⟩
end RL
/-! o.m(e, .., x=e2, ..) of an own class -/
namespace RL
open PySem PySem.Spec PyProof.Rows L2
def tMethN (C : Addr) (m : Str) (n c : Nat) (sp : Sp) (gV : List V → List V → List V) (E : XK) (ta : TE) (t tk : TA) : TE := fun σ H Q => ta σ H fun x H1 => ∃ a dx fs, x = .ref a ∧ H1 a = some (.ins C dx fs) ∧ fs.lookup m = none ∧
  t σ H1 fun vs H2 => tk σ H2 fun zs H3 => vs.length + 1 = n ∧ zs.length = c ∧ sp (gV (x :: vs) zs) H3 Q E
section
variable {X : Cx} {CX : CXT} {k n : Nat} {C f : Addr} {fd : FuncData} {ps ks : List Str} {sp : Sp} {E : XK} {m : Str} {apos pos : Pos} {o e : Expr} {es : List Expr} {kws : List Keyword} {ta : TE} {t tk : TA} {g : List Value → List Value → List Value} {gV : List V → List V → List V}
theorem pe_methN {pl : Sem Bool} (he : PE X o ta) (c : Cls X.K C) (hm : Meth X.K C m f) (F : FnOk X.prog X.w X.K X.mg X.base CX k f fd ps sp) (hr : Room k X.A) (hb : KBn X.K fd ps n ks g gV) (hx : Passes CX X E)
    (ha : PA X (e :: es) t) (hkw : PK X kws tk) (hall : (backToKw pos (keywordEach kws X.env)).all (·.1.isSome) = true := by rfl) (hks : (backToKw pos (keywordEach kws X.env)).filterMap (·.1) = ks := by rfl)
    (hst : starEach (e :: es) X.env = (false, eval e X.env) :: starEach es X.env := by rfl)
    (hpl : ((backTo pos (starEach (e :: es) X.env)).any (·.1) || (backToKw pos (keywordEach kws X.env)).any (·.1.isNone)) = false := by rfl)
    (ht : eval (.Call (.Attribute o m apos) (e :: es) kws pos) X.env = (do
      let ov ← eval o X.env
      standAt apos.atName
      let (f, first) ← holding [ov] (getMethod ov m pl)
      callWith pos f first (backTo pos (starEach (e :: es) X.env)) (backToKw pos (keywordEach kws X.env))) := by rfl) :
    PE X (.Call (.Attribute o m apos) (e :: es) kws pos) (tMethN C m n ks.length sp gV E ta t tk) := by
  refine ⟨fun pins s σ H Q I h => ?_⟩
  refine PySem.W.methodCall_KW (pl := pl) (thn (he.run pins s σ H _ I h) fun u s1 ⟨x, H1, I1, rx, a, dx, fs, ex, ea, l, q⟩ => ?_) ht
  subst ex
  obtain rfl : u = Value.ref a := rx
  refine getmeth_ok I1 ea c hm l ?_
  refine PySem.W.callWith_KW (first := [.ref a]) (h₀ := X.base) I.ok.mod.kin hm.kp hall (thn (ha.run pos pins s1 σ H1 _ I1 q) fun us s2 ⟨vs, H2, I2, r, q2⟩ => ?_) hpl hst
  refine thn (hkw.run pos pins s2 σ H2 _ I2 q2) fun ws s3 ⟨zs, H3, I3, rz, l1, l2, q3⟩ => ⟨I3.kIn, ?_⟩
  rw [hks]
  exact run_fnN (us := .ref a :: us) (vs := .ref a :: vs) F hr hb hx I3 (.cons rfl r) rz (by rw [List.length_cons]; exact l1) l2 q3
end
end RL
namespace RL
open PySem PySem.Spec PyProof.Rows L2 RLM
/-- a game drawn and made, what it was made of -/
structure Hl (K : PySem.W.Frag) (b c d : Addr) (u : Tl) (x : Addr) (G : Gm) (H : Hp) : Prop where
  ga : GameAt K c H x G
  U : TlAt K c H u
  B : Box b c H
  hd : ∃ od, H d = some (.frz od (.dK (told u)))
  dc : d ≠ c
theorem Hl.same {K : PySem.W.Frag} {b c d : Addr} {u : Tl} {x : Addr} {G : Gm} {H H' : Hp} (s : Same H H') (h : Hl K b c d u x G H) : Hl K b c d u x G H' := ⟨h.ga.same s, h.U.same s, h.B.same s, h.hd.imp fun _ z => s _ _ z, h.dc⟩
theorem Hl.keep {K : PySem.W.Frag} {b c d : Addr} {u : Tl} {x : Addr} {G : Gm} {H H' : Hp} (k : Kc c H H') (B : Box b c H') (h : Hl K b c d u x G H) : Hl K b c d u x G H' := ⟨h.ga.keep k h.B.lst, h.U.keep k h.B.lst, B, h.hd.imp fun _ z => k _ _ h.dc (fun _ z => by cases z) z, h.dc⟩
theorem Hl.rd {K : PySem.W.Frag} {b c d : Addr} {u : Tl} {x : Addr} {G : Gm} {H : Hp} (h : Hl K b c d u x G H) : Rd H d (.dK (told u)) := .inr h.hd
theorem GameAt.ins {K : PySem.W.Frag} {c : Addr} {H : Hp} {x : Addr} {G : Gm} (h : GameAt K c H x G) : ∃ dx fs, H x = some (.ins (cG K) dx fs) ∧ fs.lookup ("price" : Str) = none ∧ fs.lookup ("lasting" : Str) = none := by
  obtain ⟨dx, b, e, o, es, us, E, h1, _⟩ := h.ex
  exact ⟨dx, _, h1, by rfl, by rfl⟩
section
variable {P : Program} {w : World} {K : PySem.W.Frag} {mg : Str → Option Value} {base : Heap}
def spLaw (K : PySem.W.Frag) : Sp := fun vs H Q _ => ∃ (a : Addr) (ns : List Int), vs = [.ref a] ∧ SqL K H a (ns.map V.int) ∧ ns.length ≤ 63 ∧ ∀ H', Q (.bl true) H'
theorem sc_law : FnScope ["_law_script", "_law_box_here", "_law_k", "_law_told", "_law_lot_here", "_law_at", "_law_beats", "_law_here", "_law_many", "_law_cost", "_law_hands", "_law_spot", "_law_more", "_law_wider", "_law_few", "_law_up", "_law_free", "_law_dear_here", "_law_plain", "_law_nought", "_law_one", "_law_place", "_law_hand_here", "_law_look_here"] ["_law_script"] (defScope s_law) := ⟨rfl, rfl, rfl, by decide +kernel, rfl, by decide +kernel, by decide +kernel⟩
theorem ok_law (T : Tx K mg) {fd : FuncData} (F : FnP K "law" "law" s_law [] (He.ga K "law") fd) : FnOk P w K mg base CX0 13 (He.ga K "law") fd ["_law_script"] (spLaw K) := by
  obtain ⟨⟨fd_law_box, F_law_box, b_law_box⟩, kp_law_box⟩ := ok_box (P := P) (w := w) (base := base) T
  obtain ⟨⟨fd_law_pick, F_law_pick, b_law_pick⟩, kp_law_pick⟩ := ok_pick (P := P) (w := w) (base := base) T
  obtain ⟨⟨fd_law_game, F_law_game, b_law_game⟩, kp_law_game⟩ := okl_game (P := P) (w := w) (base := base) T
  obtain ⟨⟨fd_law_played, F_law_played, b_law_played⟩, kp_law_played⟩ := okl_played (P := P) (w := w) (base := base) T
  obtain ⟨⟨fd_law_game_like, F_law_game_like, b_law_game_like⟩, kp_law_game_like⟩ := okl_like (P := P) (w := w) (base := base) T
  obtain ⟨⟨fd_law_dear, F_law_dear, b_law_dear⟩, kp_law_dear⟩ := okl_dear (P := P) (w := w) (base := base) T
  obtain ⟨⟨fd_law_look, F_law_look, b_law_look⟩, kp_law_look⟩ := ok_look (P := P) (w := w) (base := base) T
  obtain ⟨⟨fd_price, F_price, kb_price⟩, kp_price⟩ := ok_gPrice (P := P) (w := w) (base := base) T
  obtain ⟨⟨fd_lasting, F_lasting, kb_lasting⟩, kp_lasting⟩ := ok_gLasting (P := P) (w := w) (base := base) T
  refine F.ok sc_law (fun vs H Q E h => ?_) (fun cdv A outer s H vs Q E hr h => ?_)
  · obtain ⟨a, ns, rfl, _⟩ := h
    rfl
  · obtain ⟨a, ns, rfl, hS, hl, h⟩ := h
    have hu := hu_of hr
    have hr_law_box : Room 1 _ := hr.mono (by decide)
    have hr_law_pick : Room 1 _ := hr.mono (by decide)
    have hr_law_game : Room 8 _ := hr.mono (by decide)
    have hr_law_played : Room 12 _ := hr.mono (by decide)
    have hr_law_game_like : Room 12 _ := hr.mono (by decide)
    have hr_law_dear : Room 1 _ := hr.mono (by decide)
    have hr_law_look : Room 3 _ := hr.mono (by decide)
    have hr_price : Room 8 _ := hr.mono (by decide)
    have hr_lasting : Room 7 _ := hr.mono (by decide)
    refine ⟨_, PSs.nox (pss_cons (ps_set (i := 1) sc_law.nd rfl (Or.inr rfl) (pe_call F_law_box hr_law_box rfl T.glo_law_box kp_law_box b_law_box .nil pass0 (pa_cons (pv 0) pa_nil)))
      (pss_cons (ps_for PassesOwn.never rfl (pi_range1 (by rfl) T.free_range (pa_cons pe_int pa_nil)) (pg_name (i := 2) sc_law.nd rfl (Or.inl rfl)) (pss_cons (ps_set (i := 3) sc_law.nd rfl (Or.inl rfl) (pe_freeze (pe_call F_law_game hr_law_game rfl T.glo_law_game kp_law_game b_law_game .nil pass0 (pa_cons (pv 1) (pa_cons pe_int pa_nil)))))
      (pss_cons (ps_asg (pe_tup (pa_cons (pe_dget hu (pv 3) pe_str (fun _ _ => rfl)) (pa_cons (pe_dget hu (pv 3) pe_str (fun _ _ => rfl)) (pa_cons (pe_call F_law_pick hr_law_pick rfl T.glo_law_pick kp_law_pick b_law_pick .nil pass0 (pa_cons (pv 1) (pa_cons pe_int pa_nil))) pa_nil)))) (pgT (K := K) (n := 3) rfl (pgs_cons (pg_name (i := 4) sc_law.nd rfl (Or.inr rfl)) (pgs_cons (pg_name (i := 5) sc_law.nd rfl (Or.inr rfl)) (pgs_cons (pg_name (i := 6) sc_law.nd rfl (Or.inr rfl)) pgs_nil)))))
      (pss_cons (ps_par (i := 7) (j := 8) rfl sc_law.nd rfl rfl (by decide) rfl rfl (pa_cons (pe_call F_law_played hr_law_played rfl T.glo_law_played kp_law_played b_law_played .nil pass0 (pa_cons (pv 3) pa_nil)) (pa_cons (pe_callB (lenK (K := K)) (by rfl) T.free_len (by decide +kernel) (pa_cons (pe_dget hu (pv 3) pe_str (fun _ _ => rfl)) pa_nil)) pa_nil)) (by rfl))
      (C8.pss_cut (ps_set (i := 9) sc_law.nd rfl (Or.inr rfl) (pe_call F_law_dear hr_law_dear rfl T.glo_law_dear kp_law_dear b_law_dear .nil pass0 (pa_cons (pe_methN (pv 7) T.cl_Game T.m_Game_price F_price hr_price kb_price pass0 (pa_cons (pv 4) (pa_cons (pv 6) pa_nil)) (pk_cons (pv 5) pk_nil)) pa_nil)))
      (pss_cons (ps_if (PW.pt (pw_or (pt_cmpR op_ne (pe_methN (pv 7) T.cl_Game T.m_Game_price F_price hr_price kb_price pass0 (pa_cons (pv 4) (pa_cons pe_int pa_nil)) (pk_cons (pv 5) pk_nil)) pe_int (nomark _)) (pw_or1 (pt_cmpR op_lt (pe_call F_law_dear hr_law_dear rfl T.glo_law_dear kp_law_dear b_law_dear .nil pass0 (pa_cons (pe_methN (pv 7) T.cl_Game T.m_Game_price F_price hr_price kb_price pass0 (pa_cons (pv 4) (pa_cons (pe_op op_add (pv 6) pe_int) pa_nil)) (pk_cons (pv 5) pk_nil)) pa_nil)) (pv 9) (nomark _))))) (pss_one (ps_ret pe_bl)) pss_nil)
      (pss_cons (ps_par (i := 10) (j := 11) rfl sc_law.nd rfl rfl (by decide) rfl rfl (pa_cons (pe_callTy (listK (K := K)) (by rfl) T.free_list (by decide +kernel) (pa_cons (pe_dget hu (pv 3) pe_str (fun _ _ => rfl)) pa_nil)) (pa_cons (pe_call F_law_pick hr_law_pick rfl T.glo_law_pick kp_law_pick b_law_pick .nil pass0 (pa_cons (pv 1) (pa_cons (pe_callB (lenK (K := K)) (by rfl) T.free_len (by decide +kernel) (pa_cons (pe_dget hu (pv 3) pe_str (fun _ _ => rfl)) pa_nil)) pa_nil))) pa_nil)) (by rfl))
      (pss_cons (ps_asg (pe_slice slTS (pe_op catS (pe_ix (ixL (K := K)) (pv 10) (pv 11) (fun _ _ => rfl)) (pe_tup (pa_cons (pe_tup (pa_cons (pe_call F_law_look hr_law_look rfl T.glo_law_look kp_law_look b_law_look .nil pass0 (pa_cons (pv 1) (pa_cons (pv 8) pa_nil))) (pa_cons (pe_call F_law_pick hr_law_pick rfl T.glo_law_pick kp_law_pick b_law_pick .nil pass0 (pa_cons (pv 1) (pa_cons pe_int pa_nil))) pa_nil))) pa_nil))) po_none (po_some pe_int)) (pg_sub (pv 10) (pv 11) set_list))
      (pss_cons (ps_set (i := 12) sc_law.nd rfl (Or.inl rfl) (pe_call F_law_game_like hr_law_game_like rfl T.glo_law_game_like kp_law_game_like b_law_game_like .nil pass0 (pa_cons (pv 3) (pa_cons (pv 10) (pa_cons (pe_dget hu (pv 3) pe_str (fun _ _ => rfl)) pa_nil)))))
      (pss_cons (ps_set (i := 13) sc_law.nd rfl (Or.inl rfl) (pe_call F_law_game_like hr_law_game_like rfl T.glo_law_game_like kp_law_game_like b_law_game_like .nil pass0 (pa_cons (pv 3) (pa_cons (pe_dget hu (pv 3) pe_str (fun _ _ => rfl)) (pa_cons (pe_callB (call_min2 rfl) (by rfl) T.free_min (by decide +kernel) (pa_cons pe_int (pa_cons (pe_op op_add (pe_dget hu (pv 3) pe_str (fun _ _ => rfl)) pe_int) pa_nil))) pa_nil)))))
      (C8.pss_cut (ps_if (pt_not (pt_val (pe_callB (allK (K := K)) (by rfl) T.free_all (by decide +kernel) (pa_cons (pe_lc (own := [("_law_one", 20)]) (g := (gName 20)) (tt := tYes) rfl sc_law.nd (piT (K := K) (pe_tup (pa_cons (pv 12) (pa_cons (pv 13) pa_nil)))) (blkOk_by (by kernel_rfl)) (fun _ _ _ _ _ => (pg_name (i := 20) sc_law.nd rfl (Or.inl rfl))) (fun _ _ _ _ _ => pts_nil) (fun _ _ _ _ _ => (pe_cmpR op_le (pe_call F_law_dear hr_law_dear rfl T.glo_law_dear kp_law_dear b_law_dear .nil pass0 (pa_cons (pe_methN (pv 20) T.cl_Game T.m_Game_price F_price hr_price kb_price pass0 (pa_cons (pv 4) (pa_cons (pv 6) pa_nil)) (pk_cons (pv 5) pk_nil)) pa_nil)) (pv 9) (nomark _)))) pa_nil)))) (pss_one (ps_ret pe_bl)) pss_nil)
      (C8.pss_cut (ps_set (i := 14) sc_law.nd rfl (Or.inl rfl) (pe_orA (K := K) rfl (pe_callTy (tupK (K := K)) (by rfl) T.free_tuple (by decide +kernel) (pa_cons (pe_lc (own := [("_law_place", 21)]) (g := (gName 21)) rfl sc_law.nd (piT (K := K) (pv 4)) (blkOk_by (by kernel_rfl)) (fun _ _ _ _ _ => (pg_name (i := 21) sc_law.nd rfl (Or.inl rfl))) (fun _ _ _ _ _ => (pts_one (pt_cmpR op_eq (pe_call F_law_pick hr_law_pick rfl T.glo_law_pick kp_law_pick b_law_pick .nil pass0 (pa_cons (pv 1) (pa_cons pe_int pa_nil))) pe_int (nomark _)))) (fun _ _ _ _ _ => (pv 21))) pa_nil)) (pe_one (pe_slice slTS (pv 4) po_none (po_some pe_int)))))
      (C8.pss_cut (ps_if (pt_cmpR op_gt (pe_call F_law_dear hr_law_dear rfl T.glo_law_dear kp_law_dear b_law_dear .nil pass0 (pa_cons (pe_methN (pv 7) T.cl_Game T.m_Game_price F_price hr_price kb_price pass0 (pa_cons (pv 14) (pa_cons (pv 6) pa_nil)) (pk_cons (pv 5) pk_nil)) pa_nil)) (pv 9) (nomark _)) (pss_one (ps_ret pe_bl)) pss_nil)
      (pss_cons (ps_setLc (i := 15) (own := [("_law_hand_here", 22)]) (g := (gName 22)) (tt := tYes) rfl sc_law.nd rfl rfl (sw_true rfl rfl rfl (by decide +kernel)) (piT (K := K) (pe_dget hu (pv 3) pe_str (fun _ _ => rfl))) (blkOk_by (by kernel_rfl)) (fun _ _ _ _ _ => (pg_name (i := 22) sc_law.nd rfl (Or.inl rfl))) (fun _ _ _ _ _ => pts_nil) (fun _ _ _ _ _ => (pe_callTy (tupK (K := K)) (by rfl) T.free_tuple (by decide +kernel) (pa_cons (pe_lc (own := [("_law_look_here", 23), ("_law_one", 20)]) (tt := tYes) rfl sc_law.nd (piT (K := K) (pv 22)) (blkOk_by (by kernel_rfl)) (fun _ _ _ _ _ => (pgT (K := K) (n := 2) rfl (pgs_cons (pg_name (i := 23) sc_law.nd rfl (Or.inl rfl)) (pgs_cons (pg_name (i := 20) sc_law.nd rfl (Or.inl rfl)) pgs_nil)))) (fun _ _ _ _ _ => pts_nil) (fun _ _ _ _ _ => (pe_tup (pa_cons (pv 23) (pa_cons (pe_callB (call_min2 rfl) (by rfl) T.free_min (by decide +kernel) (pa_cons pe_int (pa_cons (pe_op op_add (pv 20) (pe_call F_law_pick hr_law_pick rfl T.glo_law_pick kp_law_pick b_law_pick .nil pass0 (pa_cons (pv 1) (pa_cons pe_int pa_nil)))) pa_nil))) pa_nil))))) pa_nil))))
      (pss_cons (ps_setLc (i := 16) (own := [("_law_hand_here", 22)]) (g := (gName 22)) (tt := tYes) rfl sc_law.nd rfl rfl (sw_true rfl rfl rfl (by decide +kernel)) (piT (K := K) (pe_dget hu (pv 3) pe_str (fun _ _ => rfl))) (blkOk_by (by kernel_rfl)) (fun _ _ _ _ _ => (pg_name (i := 22) sc_law.nd rfl (Or.inl rfl))) (fun _ _ _ _ _ => pts_nil) (fun _ _ _ _ _ => (pe_callTy (tupK (K := K)) (by rfl) T.free_tuple (by decide +kernel) (pa_cons (pe_lc (own := [("_law_look_here", 23), ("_law_one", 20)]) (tt := tYes) rfl sc_law.nd (piT (K := K) (pv 22)) (blkOk_by (by kernel_rfl)) (fun _ _ _ _ _ => (pgT (K := K) (n := 2) rfl (pgs_cons (pg_name (i := 23) sc_law.nd rfl (Or.inl rfl)) (pgs_cons (pg_name (i := 20) sc_law.nd rfl (Or.inl rfl)) pgs_nil)))) (fun _ _ _ _ _ => pts_nil) (fun _ _ _ _ _ => (pe_tup (pa_cons (pv 23) (pa_cons pe_int pa_nil))))) pa_nil))))
      (C8.pss_cut (ps_par (i := 17) (j := 18) rfl sc_law.nd rfl rfl (by decide) rfl rfl (pa_cons (pe_call F_law_game_like hr_law_game_like rfl T.glo_law_game_like kp_law_game_like b_law_game_like .nil pass0 (pa_cons (pv 3) (pa_cons (pv 15) (pa_cons (pe_dget hu (pv 3) pe_str (fun _ _ => rfl)) pa_nil)))) (pa_cons (pe_call F_law_game_like hr_law_game_like rfl T.glo_law_game_like kp_law_game_like b_law_game_like .nil pass0 (pa_cons (pv 3) (pa_cons (pv 16) (pa_cons (pe_dget hu (pv 3) pe_str (fun _ _ => rfl)) pa_nil)))) pa_nil)) (by rfl))
      (pss_cons (ps_if (pt_cmpR op_lt (pe_call F_law_dear hr_law_dear rfl T.glo_law_dear kp_law_dear b_law_dear .nil pass0 (pa_cons (pe_methN (pv 17) T.cl_Game T.m_Game_price F_price hr_price kb_price pass0 (pa_cons (pv 4) (pa_cons (pv 6) pa_nil)) (pk_cons (pv 5) pk_nil)) pa_nil)) (pv 9) (nomark _)) (pss_one (ps_ret pe_bl)) pss_nil)
      (pss_cons (ps_if (pt_cmpR op_ne (pe_methN (pv 17) T.cl_Game T.m_Game_lasting F_lasting hr_lasting kb_lasting pass0 (pa_cons (pv 4) pa_nil) (pk_cons (pv 5) pk_nil)) (pe_methN (pv 7) T.cl_Game T.m_Game_lasting F_lasting hr_lasting kb_lasting pass0 (pa_cons (pv 4) pa_nil) (pk_cons (pv 5) pk_nil)) (nomark _)) (pss_one (ps_ret pe_bl)) pss_nil)
      (pss_cons (ps_set (i := 19) sc_law.nd rfl (Or.inl rfl) (pe_methN (pv 18) T.cl_Game T.m_Game_price F_price hr_price kb_price pass0 (pa_cons (pv 4) (pa_cons (pv 6) pa_nil)) (pk_cons (pv 5) pk_nil)))
      (pss_one (ps_if (PW.pt (pw_or (pt_cmpR (show OpR _ (compareOp .NotIn) (rIn K true) from op_notIn_seq) (pv 19) (pe_tup (pa_cons pe_int (pa_cons pe_non pa_nil))) (by rfl)) (pw_or1 (pt_cmpR op_ne (pe_cmpR op_eq (pv 9) (pe_op op_pow pe_int pe_int) (nomark _)) (pe_cmpR op_isN (pv 19) pe_non (nomark _)) (nomark _))))) (pss_one (ps_ret pe_bl)) pss_nil)))))))))))))))))))))
      (pss_one (ps_ret pe_bl)))), ?_⟩
    refine ⟨_, rfl, a, ns, rfl, hS, hl, fun H1 b c s1 B1 => ?_⟩
    refine ⟨2, rfl, by decide, by decide, for_range (lo := 0) (n := 2) (fun i σ H2 => (∃ (v2 v3 v4 v5 v6 v7 v8 v9 v10 v11 v12 v13 v14 v15 v16 v17 v18 v19 v20 v21 v22 v23 : Option V), σ = [some (.ref a), some (.ref b), v2, v3, v4, v5, v6, v7, v8, v9, v10, v11, v12, v13, v14, v15, v16, v17, v18, v19, v20, v21, v22, v23]) ∧ Box b c H2)
      ⟨⟨none, none, none, none, none, none, none, none, none, none, none, none, none, none, none, none, none, none, none, none, none, none, rfl⟩, B1⟩ ?_ (fun σ H2 _ => h H2)⟩
    rintro i σ H2 hi ⟨⟨v2, v3, v4, v5, v6, v7, v8, v9, v10, v11, v12, v13, v14, v15, v16, v17, v18, v19, v20, v21, v22, v23, rfl⟩, B2⟩
    refine ⟨_, rfl, b, c, rfl, B2, fun H3 d u U3 hd3 db k3 B3 => ⟨d, _, rfl, hd3, True.intro, fun od => ?_⟩⟩
    have dc : d ≠ c := fun z => by
      obtain ⟨ys, hc⟩ := B3.lst
      rw [← z, hd3] at hc
      cases hc
    have k34 : Kc c H3 (upd H3 d (.frz od (.dK (told u)))) := (Kc.refl c H3).dict ⟨_, hd3⟩
    have U4 := U3.keep k34 B3.lst
    have B4 : Box b c (upd H3 d (.frz od (.dK (told u)))) := B3.upd dc db
    have hd4 : (upd H3 d (.frz od (.dK (told u)))) d = some (.frz od (.dK (told u))) := upd_same
    generalize upd H3 d (.frz od (.dK (told u))) = H4 at k34 U4 B4 hd4
    clear k34 U3 hd3 B3 k3 B2
    refine ⟨_, rfl, d, _, rfl, told_lot (.inr ⟨_, hd4⟩), _, rfl, d, _, rfl, told_at (.inr ⟨_, hd4⟩), _, rfl, b, c, _, rfl, B4, by decide, by decide, fun H5 bt k5 B5 b0 b1 => ?_⟩
    obtain ⟨bt, rfl⟩ := Int.eq_ofNat_of_zero_le b0
    have U5 := U4.keep k5 B4.lst
    have hd5 := k5 _ _ dc (fun _ z => by cases z) hd4
    refine ⟨(by show 3 ≤ sizeLine; decide), fun t6 ht6 => ?_⟩
    have s6 := same_upd (o := HO.tup [V.ref u.lt, vI u.k, V.int (bt : Int)]) ht6
    have h6 : (upd H5 t6 (.tup [V.ref u.lt, vI u.k, V.int (bt : Int)])) t6 = some (.tup [V.ref u.lt, vI u.k, V.int (bt : Int)]) := upd_same
    have U6 := U5.same s6
    have B6 := B5.same s6
    have hd6 := s6 _ _ hd5
    generalize upd H5 t6 (.tup [V.ref u.lt, vI u.k, V.int (bt : Int)]) = H6 at s6 h6 U6 B6 hd6
    clear U4 U5 B4 B5 hd4 hd5 k5 s6 ht6
    refine ⟨t6, _, rfl, SqT.of h6, rfl, _, _, rfl, _, _, rfl, _, _, rfl, rfl, ?_⟩
    clear h6
    refine ⟨_, rfl, c, d, u, rfl, .inr ⟨_, hd6⟩, U6, B6.lst, fun H7 x GA7 s7 => ?_⟩
    have U7 := U6.same s7
    have B7 := B6.same s7
    have hd7 := s7 _ _ hd6
    clear U6 B6 hd6 s7
    refine ⟨_, rfl, d, _, rfl, told_spans (.inr ⟨_, hd7⟩), u.D, _, rfl, .inl (SqL.of U7.ta.at_), ?_⟩
    rw [List.length_map, U7.ta.len]
    refine ⟨_, _, rfl, ?_⟩
    have G0 : ∃ G, G = gmOf u.n u.W u.E u.ps u.M u.hs := ⟨_, rfl⟩
    obtain ⟨G, eG⟩ := G0
    have st0 : ∃ st : Stt, st = (u.k, lotP u.n u.p) := ⟨_, rfl⟩
    obtain ⟨st, est⟩ := st0
    have St : G.St st := by rw [eG, est]; exact gm_St U7.kl U7.ne
    have hl7 : Hl K b c d u x G H7 := ⟨by rw [eG]; exact GA7, U7, B7, ⟨_, hd7⟩, dc⟩
    clear GA7 U7 B7 hd7
    refine ⟨fun σ H' => σ = [some (.ref a), some (.ref b), some (.int (0 + (i : Nat))), some (.ref d), some (.ref u.lt), some (vI u.k), some (vI bt), some (.ref x), some (vI u.n), some (vI (dear (G.cost bt st))), v10, v11, v12, v13, v14, v15, v16, v17, v18, v19, v20, v21, v22, v23] ∧ Hl K b c d u x G H', ?_, ?_⟩
    · obtain ⟨dx, fs, h1, f1, f2⟩ := hl7.ga.ins
      refine ⟨_, rfl, x, dx, _, rfl, h1, f1, _, rfl, _, rfl, _, rfl, rfl, rfl, c, x, u.lt, G, st, bt, by rw [est]; rfl, hl7.ga, St, by rw [est]; exact hl7.U.hl, by omega, fun H8 s8 => ?_⟩
      exact ⟨G.cost bt st, rfl, rfl, hl7.same s8⟩
    rintro σ H8 ⟨rfl, hl8⟩
    clear hl7
    obtain ⟨dx, fs, h1, f1, f2⟩ := hl8.ga.ins
    refine ⟨_, rfl, x, dx, _, rfl, h1, f1, _, rfl, _, rfl, rfl, rfl, c, x, u.lt, G, st, 0, by rw [est]; rfl, hl8.ga, St, by rw [est]; exact hl8.U.hl, by decide, fun H9 s9 => ?_⟩
    refine ⟨rfl, false, ?_, ?_⟩
    · show V.bl (!decide (vLast (G.cost 0 st) = V.int 0)) = _
      rw [decide_eq_true (show vLast (G.cost 0 st) = V.int 0 from rfl)]
      rfl
    have hl9 := hl8.same s9
    clear hl8 s9 h1
    obtain ⟨dx, fs, h1, f1, f2⟩ := hl9.ga.ins
    refine iteF ⟨_, rfl, x, dx, _, rfl, h1, f1, _, rfl, _, rfl, _, _, rfl, rfl, _, rfl, rfl, rfl, c, x, u.lt, G, st, bt + 1, by rw [est]; rfl, hl9.ga, St, by rw [est]; exact hl9.U.hl, by omega, fun H10 s10 => ?_⟩
    have GO : GmOk G := hl9.ga.ok
    refine ⟨G.cost (bt + 1) st, rfl, _, rfl, _, _, rfl, rfl, false, ?_, ?_⟩
    · show V.bl (decide (((dear (G.cost (bt + 1) st) : Nat) : Int) < ((dear (G.cost bt st) : Nat) : Int))) = _
      rw [decide_eq_false]
      have := dear_le (cost_more G bt st) (fun v hv => Nat.le_trans (cost_small GO (by omega) v hv) (by decide))
      omega
    have hl10 := hl9.same s10
    clear hl9 s10 h1
    refine iteF ?_
    refine ⟨_, rfl, d, _, rfl, told_hands hl10.rd, u.hd, _, rfl, .inr (SqT.of hl10.U.hs.1), fun l11 hl11 => ?_⟩
    have s11 := same_upd (o := HO.lst (u.hs.map fun h => V.ref h.1)) hl11
    have h11 : (upd H10 l11 (.lst (u.hs.map fun h => V.ref h.1))) l11 = some (.lst (u.hs.map fun h => V.ref h.1)) := upd_same
    have hlA := hl10.same s11
    have l11c : l11 ≠ c := (hl10.B.new hl11).1
    have l11b : l11 ≠ b := (hl10.B.new hl11).2
    generalize upd H10 l11 (.lst (u.hs.map fun h => V.ref h.1)) = H11 at s11 h11 hlA
    have hh3 := hlA.U.hs.2.2.2
    have hh1 := hlA.U.hs.2.2.1
    refine ⟨_, rfl, _, rfl, d, _, rfl, told_hands hlA.rd, u.hd, _, rfl, .inr (SqT.of hlA.U.hs.1), b, c, _, rfl, hlA.B, by rw [List.length_map]; omega, by rw [List.length_map]; omega, fun H12 sp k12 B12 sp0 sp1 => ?_⟩
    rw [List.length_map] at sp1
    obtain ⟨sp, rfl⟩ := Int.eq_ofNat_of_zero_le sp0
    have hl12 := hlA.keep k12 B12
    have k12A : Kc c H10 H12 := (kc_same s11).trans k12
    have h12 := k12 _ _ l11c (fun _ z => by cases z) h11
    clear hlA s11 h11 k12 B12
    obtain ⟨hq, ehq⟩ : ∃ hq, u.hs[sp]? = some hq := ⟨_, List.getElem?_eq_getElem (show sp < u.hs.length by omega)⟩
    refine ⟨_, _, rfl, ?_⟩
    refine ⟨_, rfl, _, rfl, l11, _, _, _, rfl, rfl, SqL.of h12, atI_nat (get_map ehq), ?_⟩
    refine ⟨_, rfl, _, rfl, b, c, u.n, rfl, hl12.B, hl12.U.n1, hl12.U.n8, fun H13 v L LA13 LO k13 B13 => ?_⟩
    refine ⟨_, rfl, b, c, _, rfl, B13, by decide, by decide, fun H14 z k14 B14 z0 z1 => ?_⟩
    obtain ⟨z, rfl⟩ := Int.eq_ofNat_of_zero_le z0
    have k24 := k13.trans k14
    have hl14 := hl12.keep k24 B14
    have h14 := k24 _ _ l11c (fun _ z => by cases z) h12
    have LA14 := LA13.keep k14 B13.lst
    have k14A := k12A.trans k24
    clear hl12 k13 LA13 B13 k14 B14 k24 h12 k12A
    refine ⟨(by show 2 ≤ sizeLine; decide), fun t15 ht15 => ?_⟩
    have s15 := same_upd (o := HO.tup [v, V.int (z : Int)]) ht15
    have h15 : (upd H14 t15 (.tup [v, V.int (z : Int)])) t15 = some (.tup [v, vI z]) := upd_same
    generalize upd H14 t15 (.tup [v, V.int (z : Int)]) = H15 at s15 h15
    refine ⟨(by show 1 ≤ sizeLine; decide), fun t16 ht16 => ?_⟩
    have s16 := same_upd (o := HO.tup [V.ref t15]) ht16
    have h16 : (upd H15 t16 (.tup [V.ref t15])) t16 = some (.tup [V.ref t15]) := upd_same
    generalize upd H15 t16 (.tup [V.ref t15]) = H16 at s16 h16
    have s46 := s15.trans s16
    have hm := List.mem_of_getElem? ehq
    obtain ⟨q1, q2, q3⟩ := hl14.U.hs.2.1 hq hm
    refine ⟨hq.1, t16, _, _, rfl, rfl, s46 _ _ q1, h16, ?_, fun t17 H17 h17 s17 => ?_⟩
    · rw [List.length_map]
      exact Nat.le_trans (show hq.2.length + 1 ≤ 5 by omega) (by decide)
    refine ⟨4, rfl, t17, _, rfl, h17, fun t18 H18 h18 s18 => ?_⟩
    rw [show (some (4 : Int)) = some ((4 : Nat) : Int) from rfl, cut_toG] at h18
    have n0 : ∃ nq : Hnd, nq = (t18, (hq.2 ++ [(t15, v, L, z)]).take 4) := ⟨_, rfl⟩
    obtain ⟨nq, enq⟩ := n0
    have h18 : H18 t18 = some (.tup (nq.2.map fun q => V.ref q.1)) := by
      rw [h18, enq, List.map_take, List.map_append]
      rfl
    have s48 := (s46.trans s17).trans s18
    have k18A := k14A.trans (kc_same s48)
    have h18l := s48 _ _ h14
    have hn18 : HndAt u.n H18 nq := by
      refine ⟨by rw [show nq.1 = t18 by rw [enq]]; exact h18, fun q hq' => ?_, by rw [enq, List.length_take]; exact Nat.min_le_left _ _⟩
      rw [enq] at hq'
      rcases List.mem_append.mp (List.take_subset _ _ hq') with e | e
      · exact (q2 q e).same s48
      · rw [List.mem_singleton.mp e]
        exact ⟨(s16.trans (s17.trans s18)) _ _ h15, LA14.same s48, LO, by show z ≤ 99; omega⟩
    have hl18 := hl14.same s48
    clear hl14 s46 s48 s15 s16 s17 k14A LA14 h14 h15 h16 h17 ht15 ht16 q1 q2 q3
    refine ⟨_, rfl, _, rfl, l11, _, (sp : Int), sp, rfl, rfl, h18l, ixN_nat (by rw [List.length_map]; omega), ?_⟩
    have eset : ((u.hs.map fun h => V.ref h.1).set sp (.ref t18)) = (u.hs.set sp nq).map fun h => V.ref h.1 := by
      rw [List.map_set, enq]
    rw [eset]
    have tk19 : TK H18 (upd H18 l11 (.lst ((u.hs.set sp nq).map fun h => V.ref h.1))) := fun a xs e => by
      rw [upd_ne (ne_of e h18l (fun z => nomatch z))]
      exact e
    have hl19 := hl10.keep (k18A.off (o := .lst ((u.hs.set sp nq).map fun h => V.ref h.1)) (Kc.refl c H10) hl11) (hl18.B.upd l11c l11b)
    have h19 : (upd H18 l11 (.lst ((u.hs.set sp nq).map fun h => V.ref h.1))) l11 = some (.lst ((u.hs.set sp nq).map fun h => V.ref h.1)) := upd_same
    have each : ∀ h ∈ u.hs.set sp nq, HndAt u.n (upd H18 l11 (.lst ((u.hs.set sp nq).map fun h => V.ref h.1))) h := fun q hq' => by
      rcases List.mem_or_eq_of_mem_set hq' with e | e
      · exact (hl18.U.hs.2.1 q e).tk tk19
      · rw [e]
        exact hn18.tk tk19
    generalize upd H18 l11 (.lst ((u.hs.set sp nq).map fun h => V.ref h.1)) = H19 at hl19 h19 each
    clear hl18 tk19 h18l k18A hl10 hl11 h18 s18 hn18 eset
    have WW1 := hl19.U.W1
    have WW8 := hl19.U.W8
    refine ⟨_, rfl, _, rfl, _, rfl, d, _, rfl, told_wished hl19.rd, c, d, l11, u, u.W, u.hs.set sp nq, rfl, hl19.rd, hl19.U, hl19.B.lst, .inl h19, each, by rw [List.length_set]; exact hh1, by rw [List.length_set]; exact hh3, WW1, WW8, fun H20 xm GA20 s20 => ?_⟩
    have hl20 := hl19.same s20
    clear hl19 h19 each s20
    have hW2 : V.int (if (u.W : Int) + 1 < 8 then (u.W : Int) + 1 else 8) = vI (min 8 (u.W + 1)) := by
      show V.int _ = V.int _
      congr 1
      split <;> omega
    refine ⟨_, rfl, _, rfl, d, _, rfl, told_hands hl20.rd, _, rfl, d, _, rfl, told_wished hl20.rd, _, _, rfl, rfl, _, _, rfl, c, d, u.hd, u, min 8 (u.W + 1), u.hs, by rw [← hW2]; rfl, hl20.rd, hl20.U, hl20.B.lst, .inr hl20.U.hs.1, hl20.U.hs.2.1, hh1, hh3, by omega, by omega, fun H21 xw GA21 s21 => ?_⟩
    have hl21 := hl20.same s21
    have GM21 := GA20.same s21
    clear hl20 GA20 s21
    refine ⟨fun σ H' => σ = [some (.ref a), some (.ref b), some (.int (0 + (i : Nat))), some (.ref d), some (.ref u.lt), some (vI u.k), some (vI bt), some (.ref x), some (vI u.n), some (vI (dear (G.cost bt st))), some (.ref l11), some (.int ((sp : Nat) : Int)), some (.ref xm), some (.ref xw), v14, v15, v16, v17, v18, v19, v20, v21, v22, v23] ∧ Hl K b c d u x G H', ?_, ?_⟩
    · have g0 : ∃ gs : List (Addr × Gm), gs = [(xm, gmOf u.n u.W u.E u.ps u.M (u.hs.set sp nq)), (xw, gmOf u.n (min 8 (u.W + 1)) u.E u.ps u.M u.hs)] := ⟨_, rfl⟩
      obtain ⟨gs, egs⟩ := g0
      have gsA : ∀ g ∈ gs, GameAt K c H21 g.1 g.2 ∧ g.2.St st ∧ leO (g.2.cost bt st) (G.cost bt st) := fun g hg => by
        rw [egs] at hg
        rcases List.mem_cons.mp hg with e | e
        · rw [e]
          refine ⟨GM21, by rw [est]; exact gm_St (by rw [List.length_set]; exact hl21.U.kl) hl21.U.ne, ?_⟩
          rw [eG]
          refine cost_wider (wider_of (Nat.le_refl _) (by rw [List.length_set]) fun t q q' e1 e2 => ?_) bt st
          by_cases et : sp = t
          · subst et
            rw [e1] at ehq
            cases ehq
            rw [List.getElem?_set_self (by omega)] at e2
            cases e2
            rw [enq]
            exact Less.snoc (hl21.U.hs.2.1 hq hm).2.2 _
          · rw [List.getElem?_set_ne et, e1] at e2
            cases e2
            exact Less.refl _
        · rw [List.mem_singleton.mp e]
          refine ⟨GA21, by rw [est]; exact gm_St hl21.U.kl hl21.U.ne, ?_⟩
          rw [eG]
          exact cost_wider (wider_of (by omega) rfl fun t q q' e1 e2 => by rw [e1] at e2; cases e2; exact Less.refl _) bt st
      refine ⟨_, rfl, _, rfl, (by show 2 ≤ sizeLine; decide), fun t22 ht22 => ?_⟩
      have s22 := same_upd (o := HO.tup [V.ref xm, V.ref xw]) ht22
      have h22 : (upd H21 t22 (.tup [V.ref xm, V.ref xw])) t22 = some (.tup (gs.map fun g => V.ref g.1)) := by rw [egs]; exact upd_same
      have gs2 : gs.length = 2 := by rw [egs]; rfl
      clear egs
      generalize upd H21 t22 (.tup [V.ref xm, V.ref xw]) = H22 at s22 h22
      have hl22 := hl21.same s22
      refine ⟨t22, rfl, ⟨_, SqT.of h22⟩, fun D hD => ?_⟩
      refine lc_val (walk_tup (K := K) (a := t22) (xs := gs.map fun g => V.ref g.1)) (fun _ => .bl true) (by rw [List.length_map]; omega) hD (fun H1 s1 => SqT.of (s1 _ _ h22)) ?_ ?_
      · rintro j y H23 H24 Nx hj s23 ⟨rfl, hy⟩ k
        rw [List.getElem?_map] at hy
        obtain ⟨g, hg, rfl⟩ := Option.map_eq_some_iff.mp hy
        obtain ⟨GA, gSt, le⟩ := gsA g (List.mem_of_getElem? hg)
        have GA := (GA.same s22).same s23
        have hl23 := hl22.same s23
        obtain ⟨dx', fs', h1', f1', f2'⟩ := GA.ins
        refine ⟨rfl, _, rfl, g.1, dx', _, rfl, h1', f1', _, rfl, _, rfl, _, rfl, rfl, rfl, c, g.1, u.lt, g.2, st, bt, by rw [est]; rfl, GA, gSt, by rw [est]; exact hl23.U.hl, by omega, fun H25 s25 => ?_⟩
        refine ⟨g.2.cost bt st, rfl, _, rfl, _, _, rfl, rfl, ?_⟩
        have := dear_le le (fun v hv => Nat.le_trans (cost_small GA.ok (by omega) v hv) (by decide))
        show Nx (V.bl (decide (((dear (g.2.cost bt st) : Nat) : Int) ≤ ((dear (G.cost bt st) : Nat) : Int)))) H25
        rw [decide_eq_true (by omega)]
        exact k _ s25
      · intro H23 h23 s23
        refine ⟨D, (List.range (gs.map fun g => V.ref g.1).length).map fun _ => true, rfl, SqL.of (by rw [h23, List.map_map]; rfl), ?_⟩
        rw [all_true (by simp)]
        exact ⟨true, rfl, iteF ⟨rfl, hl22.same s23⟩⟩
    rintro σ H23 ⟨rfl, hl23⟩
    clear GM21 GA21 hl21 hm ehq enq h18 hW2 WW1 WW8
    refine ⟨fun σ H' => ∃ (tf : Addr) (ys : List Nat), σ = [some (.ref a), some (.ref b), some (.int (0 + (i : Nat))), some (.ref d), some (.ref u.lt), some (vI u.k), some (vI bt), some (.ref x), some (vI u.n), some (vI (dear (G.cost bt st))), some (.ref l11), some (.int ((sp : Nat) : Int)), some (.ref xm), some (.ref xw), some (.ref tf), v15, v16, v17, v18, v19, v20, v21, v22, v23] ∧ Hl K b c d u x G H' ∧ H' tf = some (.tup (ys.map vI)) ∧ ys.Sublist (lotP u.n u.p) ∧ ys ≠ [], ?_, ?_⟩
    · refine ⟨_, rfl, u.lt, rfl, ⟨_, SqT.of hl23.U.hl⟩, fun D hD => ?_⟩
      obtain ⟨Dc, Db⟩ := hl23.B.new hD
      have hlD : Hl K b c d u x G (upd H23 D (.lst [])) := hl23.same (same_upd hD)
      refine lc_it (walk_tup (K := K) (a := u.lt) (xs := (lotP u.n u.p).map vI)) (fun j H' => ∃ ys : List Nat, H' D = some (.lst (ys.map vI)) ∧ ys.Sublist ((lotP u.n u.p).take j) ∧ Hl K b c d u x G H' ∧ Kc c H23 H') ⟨[], upd_same, List.nil_sublist _, hlD, kc_same (same_upd hD)⟩ (fun j H' _ ⟨ys, e1, e2, e3, e4⟩ => SqT.of e3.U.hl) ?_ ?_
      · rintro j y H24 H25 hj ⟨ys, e1, e2, e3, e4⟩ hY
        obtain ⟨rfl, hy⟩ := hY
        obtain ⟨q, hq1, rfl⟩ := get_mapV hy
        refine ⟨rfl, _, rfl, b, c, _, rfl, e3.B, by decide, by decide, fun H26 pk k26 B26 _ _ => ?_⟩
        have k26' := e4.trans k26
        have hD26 := k26 _ _ Dc (fun _ z => by cases z) e1
        have et : (lotP u.n u.p).take (j + 1) = (lotP u.n u.p).take j ++ [q] := by rw [List.take_add_one, hq1]; rfl
        have lq : ys.length < 1000 := by
          have h1 := e2.length_le
          rw [List.length_take] at h1
          rw [List.length_map] at hj
          have h2 := lotP_len u.n u.p
          have := hl23.U.n8
          omega
        refine ⟨rfl, _, rfl, ?_⟩
        refine ite2 (fun _ => ?_) (fun _ => ?_)
        · refine ⟨_, rfl, _, hD26, ?_, ys ++ [q], ?_, ?_, hl23.keep (k26'.off (Kc.refl c H23) hD) (B26.upd Dc Db), k26'.off (Kc.refl c H23) hD⟩
          · rw [List.length_map]
            exact Nat.lt_of_le_of_lt (Nat.le_of_lt lq) (by decide)
          · rw [upd_same, List.map_append]
            rfl
          · rw [et]
            exact e2.append (List.Sublist.refl _)
        · exact ⟨ys, hD26, by rw [et]; exact e2.trans (List.sublist_append_left _ _), hl23.keep k26' B26, k26'⟩
      · rintro H24 ⟨ys, e1, e2, e3, e4⟩
        rw [List.length_map, List.take_length] at e2
        refine ⟨D, _, rfl, .inl ⟨SqL.of e1, fun t25 ht25 => ?_⟩⟩
        have s25 := same_upd (o := HO.tup (ys.map vI)) ht25
        refine ⟨!ys.isEmpty, .inr (.inl ⟨ys.map vI, SqT.of upd_same, by cases ys <;> rfl⟩), ?_⟩
        cases ys with
        | nil =>
          refine iteF ⟨_, rfl, 1, rfl, u.lt, _, rfl, s25 _ _ e3.U.hl, fun t26 H26 h26 s26 => ?_⟩
          rw [show (some (1 : Int)) = some ((1 : Nat) : Int) from rfl, cut_toG, ← List.map_take] at h26
          refine ⟨t26, (lotP u.n u.p).take 1, rfl, (e3.same s25).same s26, h26, List.take_sublist _ _, fun e => ?_⟩
          obtain ⟨q, qn, qp⟩ := hl23.U.ne
          have hm := mem_lotP.mpr ⟨qn, qp⟩
          cases e0 : lotP u.n u.p with
          | nil => rw [e0] at hm; cases hm
          | cons y ys => rw [e0] at e; cases e
        | cons y ys => exact iteT ⟨t25, y :: ys, rfl, e3.same s25, upd_same, e2, fun e => by cases e⟩
    rintro σ H24 ⟨tf, ys, rfl, hl24, htf, sub, ne⟩
    refine ⟨fun σ H' => σ = [some (.ref a), some (.ref b), some (.int (0 + (i : Nat))), some (.ref d), some (.ref u.lt), some (vI u.k), some (vI bt), some (.ref x), some (vI u.n), some (vI (dear (G.cost bt st))), some (.ref l11), some (.int ((sp : Nat) : Int)), some (.ref xm), some (.ref xw), some (.ref tf), v15, v16, v17, v18, v19, v20, v21, v22, v23] ∧ Hl K b c d u x G H', ?_, ?_⟩
    · obtain ⟨dx, fs, h1, f1, f2⟩ := hl24.ga.ins
      have ey := lot_sub sub
      have sb : Sub G (u.k, ys) st := by
        rw [ey, est, eG]
        refine gm_sub hl24.U.kl ?_ fun a _ ha => (mem_lotP.mp (sub.subset ha)).2
        cases ys with
        | nil => exact absurd rfl ne
        | cons y ys => exact ⟨y, (mem_lotP.mp (sub.subset List.mem_cons_self)).1, List.mem_cons_self⟩
      refine ⟨_, rfl, x, dx, _, rfl, h1, f1, _, rfl, _, rfl, _, rfl, rfl, rfl, c, x, tf, G, (u.k, ys), bt, rfl, hl24.ga, sb.2.1, htf, by omega, fun H25 s25 => ?_⟩
      refine ⟨G.cost bt (u.k, ys), rfl, _, rfl, _, _, rfl, rfl, false, ?_, ?_⟩
      · show V.bl (decide (((dear (G.cost bt st) : Nat) : Int) < ((dear (G.cost bt (u.k, ys)) : Nat) : Int))) = _
        rw [decide_eq_false]
        have := dear_le (cost_sub hl24.ga.ok.stay (by have := hl24.ga.ok.h1; omega) bt sb) (fun v hv => Nat.le_trans (cost_small hl24.ga.ok (by omega) v hv) (by decide))
        omega
      · exact iteF ⟨rfl, hl24.same s25⟩
    rintro σ H25 ⟨rfl, hl25⟩
    clear hl24 hl23 htf sub ne ys
    refine ⟨_, rfl, d, _, rfl, told_hands hl25.rd, u.hd, rfl, ⟨_, SqT.of hl25.U.hs.1⟩, fun Lup hD => ?_⟩
    refine lc_relK (walk_tup (K := K) (a := u.hd) (xs := u.hs.map fun q => V.ref q.1)) (fun k v H' => ∃ q : Hnd, v = .ref q.1 ∧ ∀ q0, u.hs[k]? = some q0 → RelH (fun a0 a : Plk => a0.2.2.2 ≤ a.2.2.2) u.n H' q0 q) (by rw [List.length_map]; omega) hl25.B hD (fun k v Ha Hb ⟨q, e, r⟩ tk => ⟨q, e, fun q0 e0 => ⟨(r q0 e0).1.tk tk, (r q0 e0).2⟩⟩) (fun Ha ka _ => SqT.of (ka.tup hl25.B.lst hl25.U.hs.1)) ?_ ?_
    · rintro j y H2 H3 Nx hj k2 B2 ⟨rfl, hy⟩ kk
      obtain ⟨q0, hq0, rfl⟩ := get_mapV hy
      have hA := (hl25.U.hs.2.1 q0 (List.mem_of_getElem? hq0)).keep k2 hl25.B.lst
      refine ⟨rfl, _, rfl, q0.1, rfl, ⟨_, SqT.of hA.1⟩, fun D2 hD2 => ?_⟩
      refine lc_relK (walk_tup (K := K) (a := q0.1) (xs := q0.2.map fun q => V.ref q.1)) (fun k v H' => ∃ p : Plk, v = .ref p.1 ∧ PlkAt u.n H' p ∧ ∀ p0, q0.2[k]? = some p0 → p.2.2.1 = p0.2.2.1 ∧ (fun a0 a : Plk => a0.2.2.2 ≤ a.2.2.2) p0 p) (by rw [List.length_map]; have := hA.2.2; omega) B2 hD2 (fun k v Ha Hb ⟨p, e, r, r2⟩ tk => ⟨p, e, r.tk tk, r2⟩) (fun Ha ka _ => SqT.of (ka.tup B2.lst hA.1)) ?_ ?_
      · rintro j2 y2 H4 H5 Nx2 hj2 k4 B5 ⟨rfl, hy2⟩ kk2
        obtain ⟨pl, hpl, rfl⟩ := get_mapV hy2
        have pA := (hA.2.1 pl (List.mem_of_getElem? hpl)).keep k4 B2.lst
        refine ⟨pl.1, _, rfl, SqT.of pA.1, rfl, _, _, rfl, _, _, rfl, rfl, rfl, ?_⟩
        refine ⟨_, rfl, _, rfl, _, rfl, b, c, _, rfl, B5, by decide, by decide, fun H6 z k6 B6 z0 z1 => ?_⟩
        obtain ⟨z, rfl⟩ := Int.eq_ofNat_of_zero_le z0
        have em : V.int (if ((pl.2.2.2 : Nat) : Int) + ((z : Nat) : Int) < 99 then ((pl.2.2.2 : Nat) : Int) + ((z : Nat) : Int) else 99) = vI (min 99 (pl.2.2.2 + z)) := by
          show V.int _ = V.int _
          congr 1
          split <;> omega
        refine ⟨_, _, rfl, rfl, _, _, rfl, (by show 2 ≤ sizeLine; decide), fun t7 ht7 => ?_⟩
        show Nx2 _ (upd H6 t7 (.tup [pl.2.1, V.int (if ((pl.2.2.2 : Nat) : Int) + ((z : Nat) : Int) < 99 then ((pl.2.2.2 : Nat) : Int) + ((z : Nat) : Int) else 99)]))
        rw [em]
        have s7 := same_upd (o := HO.tup [pl.2.1, vI (min 99 (pl.2.2.2 + z))]) ht7
        exact kk2 _ _ ⟨(t7, pl.2.1, pl.2.2.1, min 99 (pl.2.2.2 + z)), rfl, ⟨upd_same, ((pA.2.1.keep k6 B5.lst).same s7), pA.2.2.1, Nat.min_le_left _ _⟩, fun p0 e0 => by rw [hpl] at e0; cases e0; exact ⟨rfl, by have := pA.2.2.2; show pl.2.2.2 ≤ min 99 (pl.2.2.2 + z); omega⟩⟩ (k6.trans (kc_same s7)) (B6.same s7)
      · intro H4 ys h4 ly each k4 B4 D2c
        rw [List.length_map] at ly
        obtain ⟨bs, eb, lb, rb⟩ := zip_V (fun p : Plk => V.ref p.1) (fun p p0 => PlkAt u.n H4 p ∧ p.2.2.1 = p0.2.2.1 ∧ (fun a0 a : Plk => a0.2.2.2 ≤ a.2.2.2) p0 p) ys q0.2 ly fun k y p0 e e0 => by
          obtain ⟨p, ep, r1, r2⟩ := each k y e
          exact ⟨p, ep, r1, r2 p0 e0⟩
        subst eb
        refine ⟨D2, _, rfl, .inl ⟨SqL.of h4, fun t8 ht8 => ?_⟩⟩
        have s8 := same_upd (o := HO.tup (bs.map fun p => V.ref p.1)) ht8
        refine kk _ _ ⟨(t8, bs), rfl, fun q1 e1 => ?_⟩ (k4.trans (kc_same s8)) (B4.same s8)
        rw [hq0] at e1
        cases e1
        refine ⟨⟨upd_same, fun p hp => ?_, by show bs.length ≤ 4; rw [lb]; exact hA.2.2⟩, lb, fun k a0 a e0 e => (rb k a a0 e e0).2⟩
        obtain ⟨k, hk⟩ := List.mem_iff_getElem?.mp hp
        have kl := (List.getElem?_eq_some_iff.mp hk).1
        exact (rb k p (q0.2[k]'(by rw [← lb]; exact kl)) hk (List.getElem?_eq_getElem _)).1.same s8
    intro Hup ysup hup lyup eachup kup Bup Nup
    rw [List.length_map] at lyup
    obtain ⟨up, eup, lup, rup⟩ := zip_V (fun q : Hnd => V.ref q.1) (fun q q0 => RelH (fun a0 a : Plk => a0.2.2.2 ≤ a.2.2.2) u.n Hup q0 q) ysup u.hs lyup fun k y q0 e e0 => by
      obtain ⟨q, eq, r⟩ := eachup k y e
      exact ⟨q, eq, r q0 e0⟩
    subst eup
    clear eachup lyup hD
    have hlu := hl25.keep kup Bup
    clear hl25
    refine ⟨_, rfl, d, _, rfl, told_hands hlu.rd, u.hd, rfl, ⟨_, SqT.of hlu.U.hs.1⟩, fun Lfr hD => ?_⟩
    refine lc_relK (walk_tup (K := K) (a := u.hd) (xs := u.hs.map fun q => V.ref q.1)) (fun k v H' => ∃ q : Hnd, v = .ref q.1 ∧ ∀ q0, u.hs[k]? = some q0 → RelH (fun _ a : Plk => a.2.2.2 = 0) u.n H' q0 q) (by rw [List.length_map]; omega) hlu.B hD (fun k v Ha Hb ⟨q, e, r⟩ tk => ⟨q, e, fun q0 e0 => ⟨(r q0 e0).1.tk tk, (r q0 e0).2⟩⟩) (fun Ha ka _ => SqT.of (ka.tup hlu.B.lst hlu.U.hs.1)) ?_ ?_
    · rintro j y H2 H3 Nx hj k2 B2 ⟨rfl, hy⟩ kk
      obtain ⟨q0, hq0, rfl⟩ := get_mapV hy
      have hA := (hlu.U.hs.2.1 q0 (List.mem_of_getElem? hq0)).keep k2 hlu.B.lst
      refine ⟨rfl, _, rfl, q0.1, rfl, ⟨_, SqT.of hA.1⟩, fun D2 hD2 => ?_⟩
      refine lc_relK (walk_tup (K := K) (a := q0.1) (xs := q0.2.map fun q => V.ref q.1)) (fun k v H' => ∃ p : Plk, v = .ref p.1 ∧ PlkAt u.n H' p ∧ ∀ p0, q0.2[k]? = some p0 → p.2.2.1 = p0.2.2.1 ∧ (fun _ a : Plk => a.2.2.2 = 0) p0 p) (by rw [List.length_map]; have := hA.2.2; omega) B2 hD2 (fun k v Ha Hb ⟨p, e, r, r2⟩ tk => ⟨p, e, r.tk tk, r2⟩) (fun Ha ka _ => SqT.of (ka.tup B2.lst hA.1)) ?_ ?_
      · rintro j2 y2 H4 H5 Nx2 hj2 k4 B5 ⟨rfl, hy2⟩ kk2
        obtain ⟨pl, hpl, rfl⟩ := get_mapV hy2
        have pA := (hA.2.1 pl (List.mem_of_getElem? hpl)).keep k4 B2.lst
        refine ⟨pl.1, _, rfl, SqT.of pA.1, rfl, _, _, rfl, _, _, rfl, rfl, rfl, ?_⟩
        refine ⟨_, rfl, (by show 2 ≤ sizeLine; decide), fun t7 ht7 => ?_⟩
        have s7 := same_upd (o := HO.tup [pl.2.1, V.int 0]) ht7
        exact kk2 _ _ ⟨(t7, pl.2.1, pl.2.2.1, 0), rfl, ⟨upd_same, pA.2.1.same s7, pA.2.2.1, Nat.zero_le _⟩, fun p0 e0 => by rw [hpl] at e0; cases e0; exact ⟨rfl, rfl⟩⟩ (kc_same s7) (B5.same s7)
      · intro H4 ys h4 ly each k4 B4 D2c
        rw [List.length_map] at ly
        obtain ⟨bs, eb, lb, rb⟩ := zip_V (fun p : Plk => V.ref p.1) (fun p p0 => PlkAt u.n H4 p ∧ p.2.2.1 = p0.2.2.1 ∧ (fun _ a : Plk => a.2.2.2 = 0) p0 p) ys q0.2 ly fun k y p0 e e0 => by
          obtain ⟨p, ep, r1, r2⟩ := each k y e
          exact ⟨p, ep, r1, r2 p0 e0⟩
        subst eb
        refine ⟨D2, _, rfl, .inl ⟨SqL.of h4, fun t8 ht8 => ?_⟩⟩
        have s8 := same_upd (o := HO.tup (bs.map fun p => V.ref p.1)) ht8
        refine kk _ _ ⟨(t8, bs), rfl, fun q1 e1 => ?_⟩ (k4.trans (kc_same s8)) (B4.same s8)
        rw [hq0] at e1
        cases e1
        refine ⟨⟨upd_same, fun p hp => ?_, by show bs.length ≤ 4; rw [lb]; exact hA.2.2⟩, lb, fun k a0 a e0 e => (rb k a a0 e e0).2⟩
        obtain ⟨k, hk⟩ := List.mem_iff_getElem?.mp hp
        have kl := (List.getElem?_eq_some_iff.mp hk).1
        exact (rb k p (q0.2[k]'(by rw [← lb]; exact kl)) hk (List.getElem?_eq_getElem _)).1.same s8
    intro Hfr ysfr hfr lyfr eachfr kfr Bfr Nfr
    rw [List.length_map] at lyfr
    obtain ⟨fr, efr, lfr, rfr⟩ := zip_V (fun q : Hnd => V.ref q.1) (fun q q0 => RelH (fun _ a : Plk => a.2.2.2 = 0) u.n Hfr q0 q) ysfr u.hs lyfr fun k y q0 e e0 => by
      obtain ⟨q, eq, r⟩ := eachfr k y e
      exact ⟨q, eq, r q0 e0⟩
    subst efr
    clear eachfr lyfr hD
    have hlf := hlu.keep kfr Bfr
    have hup2 := kfr _ _ Nup (fun _ z => by cases z) hup
    have rup2 : ∀ (k : Nat) (q q0 : Hnd), up[k]? = some q → u.hs[k]? = some q0 → RelH (fun a0 a : Plk => a0.2.2.2 ≤ a.2.2.2) u.n Hfr q0 q := fun k q q0 e e0 => ⟨(rup k q q0 e e0).1.tk (kfr.tk hlu.B.lst), (rup k q q0 e e0).2⟩
    refine ⟨fun σ H' => ∃ (xd xp : Addr), σ = [some (.ref a), some (.ref b), some (.int (0 + (i : Nat))), some (.ref d), some (.ref u.lt), some (vI u.k), some (vI bt), some (.ref x), some (vI u.n), some (vI (dear (G.cost bt st))), some (.ref l11), some (.int ((sp : Nat) : Int)), some (.ref xm), some (.ref xw), some (.ref tf), some (.ref Lup), some (.ref Lfr), some (.ref xd), some (.ref xp), v19, v20, v21, v22, v23] ∧ Hl K b c d u x G H' ∧ GameAt K c H' xd (gmOf u.n u.W u.E u.ps u.M up) ∧ GameAt K c H' xp (gmOf u.n u.W u.E u.ps u.M fr), ?_, ?_⟩
    · refine ⟨_, rfl, _, rfl, _, rfl, d, _, rfl, told_wished hlf.rd, c, d, Lup, u, u.W, up, rfl, hlf.rd, hlf.U, hlf.B.lst, .inl hup2, fun q hq' => ?_, by omega, by omega, hlf.U.W1, hlf.U.W8, fun H27 xd GA27 s27 => ?_⟩
      · obtain ⟨k, hk⟩ := List.mem_iff_getElem?.mp hq'
        have kl := (List.getElem?_eq_some_iff.mp hk).1
        exact (rup2 k q (u.hs[k]'(by omega)) hk (List.getElem?_eq_getElem _)).1
      have hl27 := hlf.same s27
      refine ⟨_, rfl, _, rfl, _, rfl, d, _, rfl, told_wished hl27.rd, c, d, Lfr, u, u.W, fr, rfl, hl27.rd, hl27.U, hl27.B.lst, .inl (s27 _ _ hfr), fun q hq' => ?_, by omega, by omega, hlf.U.W1, hlf.U.W8, fun H28 xp GA28 s28 => ?_⟩
      · obtain ⟨k, hk⟩ := List.mem_iff_getElem?.mp hq'
        have kl := (List.getElem?_eq_some_iff.mp hk).1
        exact (rfr k q (u.hs[k]'(by omega)) hk (List.getElem?_eq_getElem _)).1.same s27
      exact ⟨_, _, rfl, xd, xp, rfl, hl27.same s28, GA27.same s28, GA28⟩
    rintro σ H28 ⟨xd, xp, rfl, hl28, GU, GF⟩
    have st2 : ∀ hs' : List Hnd, hs'.length = u.hs.length → (gmOf u.n u.W u.E u.ps u.M hs').St st := fun hs' l => by rw [est]; exact gm_St (by rw [l]; exact hl28.U.kl) hl28.U.ne
    have bt19 : bt ≤ 20 := by omega
    obtain ⟨dxd, fsd, hd1, fd1, fd2⟩ := GU.ins
    refine ⟨_, rfl, xd, dxd, _, rfl, hd1, fd1, _, rfl, _, rfl, _, rfl, rfl, rfl, c, xd, u.lt, _, st, bt, by rw [est]; rfl, GU, st2 _ lup, by rw [est]; exact hl28.U.hl, bt19, fun H29 s29 => ?_⟩
    refine ⟨_, rfl, _, rfl, _, _, rfl, rfl, false, ?_, iteF ?_⟩
    · show V.bl (decide (((dear ((gmOf u.n u.W u.E u.ps u.M up).cost bt st) : Nat) : Int) < ((dear (G.cost bt st) : Nat) : Int))) = _
      rw [decide_eq_false]
      have wd : leO (G.cost bt st) ((gmOf u.n u.W u.E u.ps u.M up).cost bt st) := by
        rw [eG]
        exact cost_wider (wider_of (Nat.le_refl _) lup.symm fun t q q' e e' => (rup2 t q q' e e').less) bt st
      have := dear_le wd (fun v hv => Nat.le_trans (cost_small hl28.ga.ok bt19 v hv) (by decide))
      omega
    have hl29 := hl28.same s29
    have GU29 := GU.same s29
    have GF29 := GF.same s29
    clear hl28 GU GF s29 hd1
    obtain ⟨dxd, fsd, hd1, fd1, fd2⟩ := GU29.ins
    refine ⟨_, rfl, xd, dxd, _, rfl, hd1, fd2, _, rfl, _, rfl, rfl, rfl, c, xd, u.lt, _, st, by rw [est]; rfl, GU29, st2 _ lup, by rw [est]; exact hl29.U.hl, fun H30 r1 s30 Lk1 => ?_⟩
    have hl30 := hl29.same s30
    have GF30 := GF29.same s30
    clear hl29 GU29 GF29 s30 hd1
    obtain ⟨dxd, fsd, hd1, fd1, fd2⟩ := hl30.ga.ins
    refine ⟨_, rfl, x, dxd, _, rfl, hd1, fd2, _, rfl, _, rfl, rfl, rfl, c, x, u.lt, G, st, by rw [est]; rfl, hl30.ga, St, by rw [est]; exact hl30.U.hl, fun H31 r2 s31 Lk2 => ?_⟩
    have er : r1 = r2 := Lasts.uniq Lk1 (by rw [eG] at Lk2; exact (alike_of lup fun t q q' e e' => (rup2 t q' q e' e).looks).lasts Lk2)
    subst er
    refine ⟨by cases r1 <;> rfl, false, ?_, iteF ?_⟩
    · show V.bl (!decide (vLast r1 = vLast r1)) = _
      rw [decide_eq_true rfl]
      rfl
    have hl31 := hl30.same s31
    have GF31 := GF30.same s31
    clear hl30 GF30 s31 hd1
    obtain ⟨dxd, fsd, hd1, fd1, fd2⟩ := GF31.ins
    refine ⟨_, rfl, xp, dxd, _, rfl, hd1, fd1, _, rfl, _, rfl, _, rfl, rfl, rfl, c, xp, u.lt, _, st, bt, by rw [est]; rfl, GF31, st2 _ lfr, by rw [est]; exact hl31.U.hl, bt19, fun H32 s32 => ?_⟩
    have hl32 := hl31.same s32
    have efr : (gmOf u.n u.W u.E u.ps u.M fr).cost bt st = if G.ok bt st = true then some 0 else none := by
      rw [free_cost (fun q hq' a ha => ?_) bt st, eG, (alike_of lfr fun t q q' e e' => (rfr t q' q e' e).looks).ok bt st]
      obtain ⟨k, hk⟩ := List.mem_iff_getElem?.mp hq'
      have kl := (List.getElem?_eq_some_iff.mp hk).1
      exact (rfr k q (u.hs[k]'(by omega)) hk (List.getElem?_eq_getElem _)).free a ha
    rw [efr]
    have cok := cost_ok G bt st
    have e6 : V.int ((10 : Int) ^ ((6 : Int).toNat)) = vI 1000000 := by decide
    refine ⟨_, rfl, (by show 2 ≤ sizeLine; decide), fun t33 ht33 => ?_⟩
    have s33 := same_upd (o := HO.tup [V.int 0, V.non]) ht33
    have B33 := hl32.B.same s33
    cases eo : G.ok bt st with
    | true =>
      rw [eo] at cok
      obtain ⟨v, ev⟩ := Option.isSome_iff_exists.mp cok
      have vle := cost_small hl32.ga.ok bt19 v ev
      refine ⟨t33, _, rfl, .inr (SqT.of upd_same), rfl, rfl, false, rfl, iteF ?_⟩
      refine ⟨_, rfl, _, _, rfl, rfl, ⟨by decide, by decide, by decide⟩, rfl, _, rfl, rfl, rfl, false, ?_, iteF ⟨⟨_, _, _, _, _, _, _, _, _, _, _, _, _, _, _, _, _, _, _, _, _, _, rfl⟩, B33⟩⟩
      rw [ev]
      show V.bl (!decide (V.bl (decide (vI v = V.int ((10 : Int) ^ ((6 : Int).toNat)))) = V.bl (decide (V.int 0 = V.non)))) = _
      rw [e6, decide_eq_false (show ¬ vI v = vI 1000000 from fun z => by have := V.int.inj z; omega), decide_eq_false (show ¬ V.int 0 = V.non from fun z => nomatch z), decide_eq_true (show V.bl false = V.bl false from rfl)]
      rfl
    | false =>
      rw [eo] at cok
      have ev := Option.not_isSome_iff_eq_none.mp (by rw [cok]; decide)
      refine ⟨t33, _, rfl, .inr (SqT.of upd_same), rfl, rfl, false, rfl, iteF ?_⟩
      refine ⟨_, rfl, _, _, rfl, rfl, ⟨by decide, by decide, by decide⟩, rfl, _, rfl, rfl, rfl, false, ?_, iteF ⟨⟨_, _, _, _, _, _, _, _, _, _, _, _, _, _, _, _, _, _, _, _, _, _, rfl⟩, B33⟩⟩
      rw [ev]
      show V.bl (!decide (V.bl (decide (vI 1000000 = V.int ((10 : Int) ^ ((6 : Int).toNat)))) = V.bl (decide (V.non = V.non)))) = _
      rw [e6, decide_eq_true (show vI 1000000 = vI 1000000 from rfl), decide_eq_true (show V.non = V.non from rfl), decide_eq_true (show V.bl true = V.bl true from rfl)]
      rfl
end
end RL
namespace RL
open PySem PySem.Spec PyProof.Rows L2
theorem law_facts {P : Program} {w : World} {K : PySem.W.Frag} {h : Heap} {mg : Str → Option Value} {f : Addr} (X : K.In h) (G : h.Ns mainGlobals mg) (hfa : mg ("law" : Str) = some (.ref f)) (c : He.SaysD fa fn K) :
    ∃ fd : FuncData, (∀ (s : Shared) (v : Value), BindsTo s fd ⟨[v], []⟩ [("_law_script", v)]) ∧ ∀ base : Heap, K.In base → base.Ns mainGlobals mg → FnOk P w K mg base CX0 13 f fd ["_law_script"] (spLaw K) := by
  have T : Tx K mg := ⟨c, fun x z => He.glo_ok X G z, fun x z => He.free_ok X G z, fun x i z => He.int_ok X G z⟩
  obtain ⟨fd, F⟩ := T.d_law
  have e := hfa.symm.trans T.glo_law
  cases e
  have b := FunD.bindsA (ps := ["_law_script"]) F fun _ _ _ _ _ _ us hl => match us, hl with | [_], _ => rfl
  exact ⟨fd, fun s v => b s [v] rfl, fun base _ _ => ok_law T F⟩
end RL
open PySem PySem.W PySem.Calls PyProof.Rows
theorem PySem.Challenge.cw_roamlook_k37_whole_prices_rise_with_beat_holds : PySem.Challenge.rw_roamlook_k37_whole_prices_rise_with_beat.Holds := by
  w_on; o_law
  refine HandSHeadRun.head_any (r := OpenLaw.row PySem.Challenge.rw_roamlook_k37_whole_prices_rise_with_beat) (q := view (OpenLaw.row PySem.Challenge.rw_roamlook_k37_whole_prices_rise_with_beat).prog [67]) (H := RL.hkL) (ob := RL.obL) (M := 9000) (loose := RL.loose) (d := HandSHeadRun.topDef (OpenLaw.row PySem.Challenge.rw_roamlook_k37_whole_prices_rise_with_beat).prog 67) (kwd := []) RL.obL_eq
    (by kernel_rfl) (fun s => by kernel_rfl) RL.run (by kernel_rfl) (by kernel_rfl) (by kernel_rfl) (by rfl) (by first | assumption | decide +kernel) (by decide +kernel) ⟨rfl, rfl, rfl, rfl, rfl, by decide +kernel⟩ ?hw ?hc
  case hw => w_witness2
  case hc =>
    refine L2.walk_ofE (l := PySem.Challenge.rw_roamlook_k37_whole_prices_rise_with_beat) (n := 63) (k := 13) (x := "_law_script") (CX := L2.CX0) rfl (by decide) (by kernel_rfl) ⟨rfl, by decide, by decide⟩ ?F (fun _ _ _ _ z => z)
    intro w mg fa h Y G hmg0
    obtain ⟨K, KX, c⟩ := Y
    have hmg : mg ("law" : PySem.Str) = some (.ref fa) := by
      have e : (HandSHeadRun.topDef (OpenLaw.row PySem.Challenge.rw_roamlook_k37_whole_prices_rise_with_beat).prog 67).name = ("law" : PySem.Str) := by kernel_rfl
      rw [← e]
      exact hmg0
    obtain ⟨fd, hb, hF⟩ := RL.law_facts (P := (PySem.Challenge.rw_roamlook_k37_whole_prices_rise_with_beat).prog) (w := w) KX G hmg c
    exact ⟨K, fd, RL.spLaw K, KX, hb, fun H a ns hl _ hS => ⟨a, ns, rfl, hS, hl, fun _ => rfl⟩, hF⟩
