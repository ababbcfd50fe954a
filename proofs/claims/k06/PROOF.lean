import PyProof.Rows.All
import Wide.All
import OpenK.AllK
import Wide.FinOn
import KE.KStateDown
import HandS.Base
import HandS.Call
import HandS.List
import HandS.Comp
import HandS.Ends
import HandS.Dict
import HandS.Iter
import HandS.Text
import HandS.More
import HandS.Words
import HandS.WordsList
import HandS.WordsDict
import HandS.WordsExc
import HandS.Exc
import HandS.Defaults
import HandS.IsInst
import HandS.Set
import HandS.Strs
import HandS.SetFor
import HandS.TupSets
import HandS.TupMul
import HandS.TupAny
import HandS.TupLe
import HandS.Conv
import HandS.Walk
import HandS.Evl
import HandS.Flow
import HandS.Style
import HandS.Deep
import HandS.DeepEq
import HandS.SetBool
import HandS.Codes
import HandS.Head0
import HandS.Head1
import HandS.Head2
import HandS.HeadEnd
import HandS.HeadHook1
import HandS.HeadHook2
import PySem.Challenge.RW_roamlook_k06_whole_steps_there_and_back
import KE.GoesEnum
import PyProof.TupleOfSeq
import PyProof.EnumMake
set_option Elab.async false
set_option linter.all false
set_option maxRecDepth 100000
set_option maxHeartbeats 0
/-! The text by places, its facts by names. -/
namespace RL
open PySem PySem.Spec PyProof.Rows L2
def top (i : Nat) : Stmt := PySem.Challenge.pw_roamlook_k06_whole_steps_there_and_back.main.body.getD i (.Pass ⟨0, 0, 0, 0⟩)
abbrev s_is_number : Stmt := top 12
abbrev s_is_between : Stmt := top 13
abbrev s_is_lot : Stmt := top 14
abbrev s_check_lot : Stmt := top 15
abbrev s_rising_ways : Stmt := top 16
abbrev s_fars_from : Stmt := top 17
abbrev s_way_text : Stmt := top 18
abbrev s_Board_init : Stmt := inClass (top 19) 0
abbrev s_Board_ways : Stmt := inClass (top 19) 1
abbrev s_Board_far : Stmt := inClass (top 19) 3
abbrev s_Board_within : Stmt := inClass (top 19) 4
abbrev s_Board_turned : Stmt := inClass (top 19) 5
abbrev s_Board_renamed : Stmt := inClass (top 19) 6
abbrev s_Board_check_place : Stmt := inClass (top 19) 7
abbrev s_Board_len : Stmt := inClass (top 19) 9
abbrev s_is_pace : Stmt := top 22
abbrev s_check_pace : Stmt := top 23
abbrev s_even : Stmt := top 24
abbrev s_step : Stmt := top 25
abbrev s_before : Stmt := top 26
abbrev s__law_box : Stmt := top 28
abbrev s__law_pick : Stmt := top 29
abbrev s__law_from : Stmt := top 30
abbrev s__law_mixed : Stmt := top 31
abbrev s__law_ways : Stmt := top 32
abbrev s__law_board : Stmt := top 33
abbrev s__law_made : Stmt := top 34
abbrev s__law_pace : Stmt := top 35
abbrev s__law_lot : Stmt := top 36
abbrev s__law_joined : Stmt := top 37
abbrev s_law : Stmt := top 38
abbrev FnP (K : PySem.W.Frag) (x q : Str) (st : Stmt) (ds : List V) (f : Addr) (fd : FuncData) : Prop := FunD K x q (defArgs st) (defBody st) (defScope st) ds [] f fd
def d_is_number : He.DefD := ⟨("is_number", none), "is_number", "is_number", defArgs s_is_number, defBody s_is_number, defScope s_is_number, [], []⟩
def d_is_between : He.DefD := ⟨("is_between", none), "is_between", "is_between", defArgs s_is_between, defBody s_is_between, defScope s_is_between, [], []⟩
def d_is_lot : He.DefD := ⟨("is_lot", none), "is_lot", "is_lot", defArgs s_is_lot, defBody s_is_lot, defScope s_is_lot, [], []⟩
def d_check_lot : He.DefD := ⟨("check_lot", none), "check_lot", "check_lot", defArgs s_check_lot, defBody s_check_lot, defScope s_check_lot, [], []⟩
def d_rising_ways : He.DefD := ⟨("rising_ways", none), "rising_ways", "rising_ways", defArgs s_rising_ways, defBody s_rising_ways, defScope s_rising_ways, [], []⟩
def d_fars_from : He.DefD := ⟨("fars_from", none), "fars_from", "fars_from", defArgs s_fars_from, defBody s_fars_from, defScope s_fars_from, [], []⟩
def d_way_text : He.DefD := ⟨("way_text", none), "way_text", "way_text", defArgs s_way_text, defBody s_way_text, defScope s_way_text, [], []⟩
def d_Board_init : He.DefD := ⟨("Board", some "__init__"), "__init__", "Board.__init__", defArgs s_Board_init, defBody s_Board_init, defScope s_Board_init, [.adr (He.dflAt ("Board", some "__init__") 0)], []⟩
def d_Board_ways : He.DefD := ⟨("Board", some "ways"), "ways", "Board.ways", defArgs s_Board_ways, defBody s_Board_ways, defScope s_Board_ways, [], []⟩
def d_Board_far : He.DefD := ⟨("Board", some "far"), "far", "Board.far", defArgs s_Board_far, defBody s_Board_far, defScope s_Board_far, [], []⟩
def d_Board_within : He.DefD := ⟨("Board", some "within"), "within", "Board.within", defArgs s_Board_within, defBody s_Board_within, defScope s_Board_within, [], []⟩
def d_Board_turned : He.DefD := ⟨("Board", some "turned"), "turned", "Board.turned", defArgs s_Board_turned, defBody s_Board_turned, defScope s_Board_turned, [], []⟩
def d_Board_renamed : He.DefD := ⟨("Board", some "renamed"), "renamed", "Board.renamed", defArgs s_Board_renamed, defBody s_Board_renamed, defScope s_Board_renamed, [], []⟩
def d_Board_check_place : He.DefD := ⟨("Board", some "check_place"), "check_place", "Board.check_place", defArgs s_Board_check_place, defBody s_Board_check_place, defScope s_Board_check_place, [], []⟩
def d_Board_len : He.DefD := ⟨("Board", some "__len__"), "__len__", "Board.__len__", defArgs s_Board_len, defBody s_Board_len, defScope s_Board_len, [], []⟩
def d_is_pace : He.DefD := ⟨("is_pace", none), "is_pace", "is_pace", defArgs s_is_pace, defBody s_is_pace, defScope s_is_pace, [], []⟩
def d_check_pace : He.DefD := ⟨("check_pace", none), "check_pace", "check_pace", defArgs s_check_pace, defBody s_check_pace, defScope s_check_pace, [], []⟩
def d_even : He.DefD := ⟨("even", none), "even", "even", defArgs s_even, defBody s_even, defScope s_even, [], []⟩
def d_step : He.DefD := ⟨("step", none), "step", "step", defArgs s_step, defBody s_step, defScope s_step, [], []⟩
def d_before : He.DefD := ⟨("before", none), "before", "before", defArgs s_before, defBody s_before, defScope s_before, [], []⟩
def d__law_box : He.DefD := ⟨("_law_box", none), "_law_box", "_law_box", defArgs s__law_box, defBody s__law_box, defScope s__law_box, [], []⟩
def d__law_pick : He.DefD := ⟨("_law_pick", none), "_law_pick", "_law_pick", defArgs s__law_pick, defBody s__law_pick, defScope s__law_pick, [], []⟩
def d__law_from : He.DefD := ⟨("_law_from", none), "_law_from", "_law_from", defArgs s__law_from, defBody s__law_from, defScope s__law_from, [], []⟩
def d__law_mixed : He.DefD := ⟨("_law_mixed", none), "_law_mixed", "_law_mixed", defArgs s__law_mixed, defBody s__law_mixed, defScope s__law_mixed, [], []⟩
def d__law_ways : He.DefD := ⟨("_law_ways", none), "_law_ways", "_law_ways", defArgs s__law_ways, defBody s__law_ways, defScope s__law_ways, [], []⟩
def d__law_board : He.DefD := ⟨("_law_board", none), "_law_board", "_law_board", defArgs s__law_board, defBody s__law_board, defScope s__law_board, [], []⟩
def d__law_made : He.DefD := ⟨("_law_made", none), "_law_made", "_law_made", defArgs s__law_made, defBody s__law_made, defScope s__law_made, [], []⟩
def d__law_pace : He.DefD := ⟨("_law_pace", none), "_law_pace", "_law_pace", defArgs s__law_pace, defBody s__law_pace, defScope s__law_pace, [], []⟩
def d__law_lot : He.DefD := ⟨("_law_lot", none), "_law_lot", "_law_lot", defArgs s__law_lot, defBody s__law_lot, defScope s__law_lot, [], []⟩
def d__law_joined : He.DefD := ⟨("_law_joined", none), "_law_joined", "_law_joined", defArgs s__law_joined, defBody s__law_joined, defScope s__law_joined, [], []⟩
def d_law : He.DefD := ⟨("law", none), "law", "law", defArgs s_law, defBody s_law, defScope s_law, [], []⟩
def fn : List He.DefD := [d_is_number, d_is_between, d_is_lot, d_check_lot, d_rising_ways, d_fars_from, d_way_text, d_Board_init, d_Board_ways, d_Board_far, d_Board_within, d_Board_turned, d_Board_renamed, d_Board_check_place, d_Board_len, d_is_pace, d_check_pace, d_even, d_step, d_before, d__law_box, d__law_pick, d__law_from, d__law_mixed, d__law_ways, d__law_board, d__law_made, d__law_pace, d__law_lot, d__law_joined, d_law]
def fa0 : List He.Fa := [.glo "is_number", .glo "is_between", .glo "is_lot", .glo "check_lot", .glo "rising_ways", .glo "fars_from", .glo "way_text", .glo "is_pace", .glo "check_pace", .glo "even", .glo "step", .glo "before", .glo "_law_box", .glo "_law_pick", .glo "_law_from", .glo "_law_mixed", .glo "_law_ways", .glo "_law_board", .glo "_law_made", .glo "_law_pace", .glo "_law_lot", .glo "_law_joined", .glo "law", .glo "Board", .free "abs", .free "all", .free "any", .free "bool", .free "enumerate", .free "int"]
def fa1 : List He.Fa := [.free "isinstance", .free "len", .free "list", .free "max", .free "min", .free "range", .free "set", .free "sorted", .free "str", .free "tuple", .int "MOST_PLACES" 8, .int "MOST_PACE" 7, .cls "Board", .mkr "Board", .noat "Board" "many", .noat "Board" "pairs", .noat "Board" "leads", .noat "Board" "fars", .meth "Board" "ways", .meth "Board" "far", .meth "Board" "within", .meth "Board" "turned", .meth "Board" "renamed", .meth "Board" "check_place", .meth "Board" "__len__"]
def fa : List He.Fa := fa0 ++ fa1
abbrev R : PySem.W.OpenRow := PySem.W.OpenLaw.row PySem.Challenge.rw_roamlook_k06_whole_steps_there_and_back
abbrev hk : PySem.W.Hook := He.hookD 5 fa fn
def ob (s : PySem.W.SharedT) : He.AlD := He.obsDG 5 fa fn (HandSHeadRun.getT s)
theorem ob_eq (s : PySem.W.SharedT) : ob s = hk.obs s.abs := He.obsDG_eq (HandSHeadRun.getT_eq s)
end RL
namespace RL
open PySem PySem.Spec PyProof.Rows L2
def lo0 : List PySem.Str := ["_wall", "RoamError", "BadMany", "BadWay", "BadOrder", "BadPace", "BadLot", "Missing", "NoPlace", "MOST_PLACES", "is_number", "is_between", "is_lot", "check_lot", "rising_ways", "fars_from", "way_text", "Board", "MOST_PACE", "is_pace", "check_pace", "even", "step", "before", "_law_box", "_law_pick", "_law_from", "_law_mixed", "_law_ways", "_law_board"]
def lo1 : List PySem.Str := ["_law_made", "_law_pace", "_law_lot", "_law_joined"]
def loose : List PySem.Str := lo0 ++ lo1
theorem run (w : World) : HandSHeadRun.RunEq R (PySem.W.view R.prog [38]) hk ob 9000 loose w := by
  intro os
  kernel_rfl
end RL
namespace RL
open PySem PySem.Spec PyProof.Rows L2
/-- what the top has left, by names -/
structure Tx (K : PySem.W.Frag) (mg : Str → Option Value) : Prop where
  sa : He.SaysD fa fn K
  hg : ∀ x, (He.Fa.glo x).ok K = true → mg x = some (.ref (He.ga K x))
  hf : ∀ x, (He.Fa.free x).ok K = true → mg x = none
  hi : ∀ x i, (He.Fa.int x i).ok K = true → ∃ t, mg x = some (.int i t)
/-- the class -/
abbrev cB (K : PySem.W.Frag) : Addr := He.ga K "Board"
abbrev mB (K : PySem.W.Frag) (m : Str) : Addr := He.ma K (He.ga K "Board") m
abbrev mC (K : PySem.W.Frag) (C m : Str) : Addr := He.ma K (He.ga K C) m
section
variable {K : PySem.W.Frag} {mg : Str → Option Value}
theorem Tx.glo_is_number (T : Tx K mg) : mg "is_number" = some (.ref (He.ga K "is_number")) := T.hg _ (T.sa.fact 0)
theorem Tx.glo_is_between (T : Tx K mg) : mg "is_between" = some (.ref (He.ga K "is_between")) := T.hg _ (T.sa.fact 1)
theorem Tx.glo_is_lot (T : Tx K mg) : mg "is_lot" = some (.ref (He.ga K "is_lot")) := T.hg _ (T.sa.fact 2)
theorem Tx.glo_check_lot (T : Tx K mg) : mg "check_lot" = some (.ref (He.ga K "check_lot")) := T.hg _ (T.sa.fact 3)
theorem Tx.glo_rising_ways (T : Tx K mg) : mg "rising_ways" = some (.ref (He.ga K "rising_ways")) := T.hg _ (T.sa.fact 4)
theorem Tx.glo_fars_from (T : Tx K mg) : mg "fars_from" = some (.ref (He.ga K "fars_from")) := T.hg _ (T.sa.fact 5)
theorem Tx.glo_way_text (T : Tx K mg) : mg "way_text" = some (.ref (He.ga K "way_text")) := T.hg _ (T.sa.fact 6)
theorem Tx.glo_is_pace (T : Tx K mg) : mg "is_pace" = some (.ref (He.ga K "is_pace")) := T.hg _ (T.sa.fact 7)
theorem Tx.glo_check_pace (T : Tx K mg) : mg "check_pace" = some (.ref (He.ga K "check_pace")) := T.hg _ (T.sa.fact 8)
theorem Tx.glo_even (T : Tx K mg) : mg "even" = some (.ref (He.ga K "even")) := T.hg _ (T.sa.fact 9)
theorem Tx.glo_step (T : Tx K mg) : mg "step" = some (.ref (He.ga K "step")) := T.hg _ (T.sa.fact 10)
theorem Tx.glo_before (T : Tx K mg) : mg "before" = some (.ref (He.ga K "before")) := T.hg _ (T.sa.fact 11)
theorem Tx.glo_law_box (T : Tx K mg) : mg "_law_box" = some (.ref (He.ga K "_law_box")) := T.hg _ (T.sa.fact 12)
theorem Tx.glo_law_pick (T : Tx K mg) : mg "_law_pick" = some (.ref (He.ga K "_law_pick")) := T.hg _ (T.sa.fact 13)
theorem Tx.glo_law_from (T : Tx K mg) : mg "_law_from" = some (.ref (He.ga K "_law_from")) := T.hg _ (T.sa.fact 14)
theorem Tx.glo_law_mixed (T : Tx K mg) : mg "_law_mixed" = some (.ref (He.ga K "_law_mixed")) := T.hg _ (T.sa.fact 15)
theorem Tx.glo_law_ways (T : Tx K mg) : mg "_law_ways" = some (.ref (He.ga K "_law_ways")) := T.hg _ (T.sa.fact 16)
theorem Tx.glo_law_board (T : Tx K mg) : mg "_law_board" = some (.ref (He.ga K "_law_board")) := T.hg _ (T.sa.fact 17)
theorem Tx.glo_law_made (T : Tx K mg) : mg "_law_made" = some (.ref (He.ga K "_law_made")) := T.hg _ (T.sa.fact 18)
theorem Tx.glo_law_pace (T : Tx K mg) : mg "_law_pace" = some (.ref (He.ga K "_law_pace")) := T.hg _ (T.sa.fact 19)
theorem Tx.glo_law_lot (T : Tx K mg) : mg "_law_lot" = some (.ref (He.ga K "_law_lot")) := T.hg _ (T.sa.fact 20)
theorem Tx.glo_law_joined (T : Tx K mg) : mg "_law_joined" = some (.ref (He.ga K "_law_joined")) := T.hg _ (T.sa.fact 21)
theorem Tx.glo_law (T : Tx K mg) : mg "law" = some (.ref (He.ga K "law")) := T.hg _ (T.sa.fact 22)
theorem Tx.glo_Board (T : Tx K mg) : mg "Board" = some (.ref (He.ga K "Board")) := T.hg _ (T.sa.fact 23)
theorem Tx.free_abs (T : Tx K mg) : mg "abs" = none := T.hf _ (T.sa.fact 24)
theorem Tx.free_all (T : Tx K mg) : mg "all" = none := T.hf _ (T.sa.fact 25)
theorem Tx.free_any (T : Tx K mg) : mg "any" = none := T.hf _ (T.sa.fact 26)
theorem Tx.free_bool (T : Tx K mg) : mg "bool" = none := T.hf _ (T.sa.fact 27)
theorem Tx.free_enumerate (T : Tx K mg) : mg "enumerate" = none := T.hf _ (T.sa.fact 28)
theorem Tx.free_int (T : Tx K mg) : mg "int" = none := T.hf _ (T.sa.fact 29)
theorem Tx.free_isinstance (T : Tx K mg) : mg "isinstance" = none := T.hf _ (T.sa.fact 30)
theorem Tx.free_len (T : Tx K mg) : mg "len" = none := T.hf _ (T.sa.fact 31)
theorem Tx.free_list (T : Tx K mg) : mg "list" = none := T.hf _ (T.sa.fact 32)
theorem Tx.free_max (T : Tx K mg) : mg "max" = none := T.hf _ (T.sa.fact 33)
theorem Tx.free_min (T : Tx K mg) : mg "min" = none := T.hf _ (T.sa.fact 34)
theorem Tx.free_range (T : Tx K mg) : mg "range" = none := T.hf _ (T.sa.fact 35)
theorem Tx.free_set (T : Tx K mg) : mg "set" = none := T.hf _ (T.sa.fact 36)
theorem Tx.free_sorted (T : Tx K mg) : mg "sorted" = none := T.hf _ (T.sa.fact 37)
theorem Tx.free_str (T : Tx K mg) : mg "str" = none := T.hf _ (T.sa.fact 38)
theorem Tx.free_tuple (T : Tx K mg) : mg "tuple" = none := T.hf _ (T.sa.fact 39)
theorem Tx.glob_MOST_PLACES (T : Tx K mg) : ∃ t, mg "MOST_PLACES" = some (.int 8 t) := T.hi _ _ (T.sa.fact 40)
theorem Tx.glob_MOST_PACE (T : Tx K mg) : ∃ t, mg "MOST_PACE" = some (.int 7 t) := T.hi _ _ (T.sa.fact 41)
theorem Tx.cl (T : Tx K mg) : Cls K (cB K) := He.cls_ok (T.sa.fact 42)
theorem Tx.mkB (T : Tx K mg) : Mk K (cB K) (mB K "__init__") := He.mkr_ok (T.sa.fact 43)
theorem Tx.n_many (T : Tx K mg) : NoAttr K (cB K) "many" := He.noat_ok (T.sa.fact 44)
theorem Tx.n_pairs (T : Tx K mg) : NoAttr K (cB K) "pairs" := He.noat_ok (T.sa.fact 45)
theorem Tx.n_leads (T : Tx K mg) : NoAttr K (cB K) "leads" := He.noat_ok (T.sa.fact 46)
theorem Tx.n_fars (T : Tx K mg) : NoAttr K (cB K) "fars" := He.noat_ok (T.sa.fact 47)
theorem Tx.m_ways (T : Tx K mg) : Meth K (cB K) "ways" (mB K "ways") := He.meth_ok (T.sa.fact 48)
theorem Tx.m_far (T : Tx K mg) : Meth K (cB K) "far" (mB K "far") := He.meth_ok (T.sa.fact 49)
theorem Tx.m_within (T : Tx K mg) : Meth K (cB K) "within" (mB K "within") := He.meth_ok (T.sa.fact 50)
theorem Tx.m_turned (T : Tx K mg) : Meth K (cB K) "turned" (mB K "turned") := He.meth_ok (T.sa.fact 51)
theorem Tx.m_renamed (T : Tx K mg) : Meth K (cB K) "renamed" (mB K "renamed") := He.meth_ok (T.sa.fact 52)
theorem Tx.m_check_place (T : Tx K mg) : Meth K (cB K) "check_place" (mB K "check_place") := He.meth_ok (T.sa.fact 53)
theorem Tx.m_len (T : Tx K mg) : Meth K (cB K) "__len__" (mB K "__len__") := He.meth_ok (T.sa.fact 54)
theorem Tx.d_is_number (T : Tx K mg) : ∃ fd, FnP K "is_number" "is_number" s_is_number [] (He.ga K "is_number") fd := T.sa.def_ 0 (d := _root_.RL.d_is_number) rfl
theorem Tx.d_is_between (T : Tx K mg) : ∃ fd, FnP K "is_between" "is_between" s_is_between [] (He.ga K "is_between") fd := T.sa.def_ 1 (d := _root_.RL.d_is_between) rfl
theorem Tx.d_is_lot (T : Tx K mg) : ∃ fd, FnP K "is_lot" "is_lot" s_is_lot [] (He.ga K "is_lot") fd := T.sa.def_ 2 (d := _root_.RL.d_is_lot) rfl
theorem Tx.d_check_lot (T : Tx K mg) : ∃ fd, FnP K "check_lot" "check_lot" s_check_lot [] (He.ga K "check_lot") fd := T.sa.def_ 3 (d := _root_.RL.d_check_lot) rfl
theorem Tx.d_rising_ways (T : Tx K mg) : ∃ fd, FnP K "rising_ways" "rising_ways" s_rising_ways [] (He.ga K "rising_ways") fd := T.sa.def_ 4 (d := _root_.RL.d_rising_ways) rfl
theorem Tx.d_fars_from (T : Tx K mg) : ∃ fd, FnP K "fars_from" "fars_from" s_fars_from [] (He.ga K "fars_from") fd := T.sa.def_ 5 (d := _root_.RL.d_fars_from) rfl
theorem Tx.d_way_text (T : Tx K mg) : ∃ fd, FnP K "way_text" "way_text" s_way_text [] (He.ga K "way_text") fd := T.sa.def_ 6 (d := _root_.RL.d_way_text) rfl
theorem Tx.d_Board_init (T : Tx K mg) : ∃ fd, FnP K "__init__" "Board.__init__" s_Board_init [V.ref (He.dflAt ("Board", some "__init__") 0 K)] (mB K "__init__") fd := T.sa.def_ 7 (d := _root_.RL.d_Board_init) rfl
theorem Tx.d_Board_ways (T : Tx K mg) : ∃ fd, FnP K "ways" "Board.ways" s_Board_ways [] (mB K "ways") fd := T.sa.def_ 8 (d := _root_.RL.d_Board_ways) rfl
theorem Tx.d_Board_far (T : Tx K mg) : ∃ fd, FnP K "far" "Board.far" s_Board_far [] (mB K "far") fd := T.sa.def_ 9 (d := _root_.RL.d_Board_far) rfl
theorem Tx.d_Board_within (T : Tx K mg) : ∃ fd, FnP K "within" "Board.within" s_Board_within [] (mB K "within") fd := T.sa.def_ 10 (d := _root_.RL.d_Board_within) rfl
theorem Tx.d_Board_turned (T : Tx K mg) : ∃ fd, FnP K "turned" "Board.turned" s_Board_turned [] (mB K "turned") fd := T.sa.def_ 11 (d := _root_.RL.d_Board_turned) rfl
theorem Tx.d_Board_renamed (T : Tx K mg) : ∃ fd, FnP K "renamed" "Board.renamed" s_Board_renamed [] (mB K "renamed") fd := T.sa.def_ 12 (d := _root_.RL.d_Board_renamed) rfl
theorem Tx.d_Board_check_place (T : Tx K mg) : ∃ fd, FnP K "check_place" "Board.check_place" s_Board_check_place [] (mB K "check_place") fd := T.sa.def_ 13 (d := _root_.RL.d_Board_check_place) rfl
theorem Tx.d_Board_len (T : Tx K mg) : ∃ fd, FnP K "__len__" "Board.__len__" s_Board_len [] (mB K "__len__") fd := T.sa.def_ 14 (d := _root_.RL.d_Board_len) rfl
theorem Tx.d_is_pace (T : Tx K mg) : ∃ fd, FnP K "is_pace" "is_pace" s_is_pace [] (He.ga K "is_pace") fd := T.sa.def_ 15 (d := _root_.RL.d_is_pace) rfl
theorem Tx.d_check_pace (T : Tx K mg) : ∃ fd, FnP K "check_pace" "check_pace" s_check_pace [] (He.ga K "check_pace") fd := T.sa.def_ 16 (d := _root_.RL.d_check_pace) rfl
theorem Tx.d_even (T : Tx K mg) : ∃ fd, FnP K "even" "even" s_even [] (He.ga K "even") fd := T.sa.def_ 17 (d := _root_.RL.d_even) rfl
theorem Tx.d_step (T : Tx K mg) : ∃ fd, FnP K "step" "step" s_step [] (He.ga K "step") fd := T.sa.def_ 18 (d := _root_.RL.d_step) rfl
theorem Tx.d_before (T : Tx K mg) : ∃ fd, FnP K "before" "before" s_before [] (He.ga K "before") fd := T.sa.def_ 19 (d := _root_.RL.d_before) rfl
theorem Tx.d__law_box (T : Tx K mg) : ∃ fd, FnP K "_law_box" "_law_box" s__law_box [] (He.ga K "_law_box") fd := T.sa.def_ 20 (d := _root_.RL.d__law_box) rfl
theorem Tx.d__law_pick (T : Tx K mg) : ∃ fd, FnP K "_law_pick" "_law_pick" s__law_pick [] (He.ga K "_law_pick") fd := T.sa.def_ 21 (d := _root_.RL.d__law_pick) rfl
theorem Tx.d__law_from (T : Tx K mg) : ∃ fd, FnP K "_law_from" "_law_from" s__law_from [] (He.ga K "_law_from") fd := T.sa.def_ 22 (d := _root_.RL.d__law_from) rfl
theorem Tx.d__law_mixed (T : Tx K mg) : ∃ fd, FnP K "_law_mixed" "_law_mixed" s__law_mixed [] (He.ga K "_law_mixed") fd := T.sa.def_ 23 (d := _root_.RL.d__law_mixed) rfl
theorem Tx.d__law_ways (T : Tx K mg) : ∃ fd, FnP K "_law_ways" "_law_ways" s__law_ways [] (He.ga K "_law_ways") fd := T.sa.def_ 24 (d := _root_.RL.d__law_ways) rfl
theorem Tx.d__law_board (T : Tx K mg) : ∃ fd, FnP K "_law_board" "_law_board" s__law_board [] (He.ga K "_law_board") fd := T.sa.def_ 25 (d := _root_.RL.d__law_board) rfl
theorem Tx.d__law_made (T : Tx K mg) : ∃ fd, FnP K "_law_made" "_law_made" s__law_made [] (He.ga K "_law_made") fd := T.sa.def_ 26 (d := _root_.RL.d__law_made) rfl
theorem Tx.d__law_pace (T : Tx K mg) : ∃ fd, FnP K "_law_pace" "_law_pace" s__law_pace [] (He.ga K "_law_pace") fd := T.sa.def_ 27 (d := _root_.RL.d__law_pace) rfl
theorem Tx.d__law_lot (T : Tx K mg) : ∃ fd, FnP K "_law_lot" "_law_lot" s__law_lot [] (He.ga K "_law_lot") fd := T.sa.def_ 28 (d := _root_.RL.d__law_lot) rfl
theorem Tx.d__law_joined (T : Tx K mg) : ∃ fd, FnP K "_law_joined" "_law_joined" s__law_joined [] (He.ga K "_law_joined") fd := T.sa.def_ 29 (d := _root_.RL.d__law_joined) rfl
theorem Tx.d_law (T : Tx K mg) : ∃ fd, FnP K "law" "law" s_law [] (He.ga K "law") fd := T.sa.def_ 30 (d := _root_.RL.d_law) rfl
end
/-- a def keeps its promise -/
structure Has (P : Program) (w : World) (K : PySem.W.Frag) (mg : Str → Option Value) (base : Heap) (f : Addr) (k : Nat) (ps : List Str) (sp : Sp) : Prop where
  ex : ∃ fd, FnOk P w K mg base CX0 k f fd ps sp ∧ Binds K fd ps []
  kp : PySem.W.keepIn K (.ref f) = true
end RL
/-! Walks on a board, how far places are, lots: plain mathematics. -/
namespace RLM
/-- a walk of so many ways -/
inductive Wk (E : List (Nat × Nat)) : Nat → Nat → Nat → Prop where
  | z (a : Nat) : Wk E 0 a a
  | s {k a b c : Nat} (h : Wk E k a b) (e : (b, c) ∈ E) : Wk E (k + 1) a c
def Near (E : List (Nat × Nat)) (m : Int) (a b : Nat) : Prop := ∃ k : Nat, (k : Int) ≤ m ∧ Wk E k a b
/-- all ways lie on n places -/
def On (n : Nat) (E : List (Nat × Nat)) : Prop := ∀ p ∈ E, p.1 < n ∧ p.2 < n ∧ p.1 ≠ p.2
theorem Wk.lt {n : Nat} {E : List (Nat × Nat)} (h : On n E) {k a b : Nat} (w : Wk E k a b) (ha : a < n) : b < n := by
  induction w with
  | z a => exact ha
  | s w e ih => exact (h _ e).2.1
theorem Wk.left {E : List (Nat × Nat)} {k a b c : Nat} (e : (a, b) ∈ E) (w : Wk E k b c) : Wk E (k + 1) a c := by
  induction w with
  | z b => exact .s (.z a) e
  | s w e2 ih => exact .s (ih e) e2
theorem Wk.turn {E F : List (Nat × Nat)} (h : ∀ a b, (a, b) ∈ E → (b, a) ∈ F) {k a b : Nat} (w : Wk E k a b) : Wk F k b a := by
  induction w with
  | z a => exact .z a
  | s w e ih => exact ih.left (h _ _ e)
theorem Wk.map {E F : List (Nat × Nat)} (f : Nat → Nat) (h : ∀ a b, (a, b) ∈ E → (f a, f b) ∈ F) {k a b : Nat} (w : Wk E k a b) : Wk F k (f a) (f b) := by
  induction w with
  | z a => exact .z _
  | s w e ih => exact .s ih (h _ _ e)
theorem Wk.mono {E F : List (Nat × Nat)} (h : ∀ p, p ∈ E → p ∈ F) {k a b : Nat} (w : Wk E k a b) : Wk F k a b := by
  induction w with
  | z a => exact .z _
  | s w e ih => exact .s ih (h _ e)
theorem near_refl {E : List (Nat × Nat)} {m : Int} {a : Nat} (h : 0 ≤ m) : Near E m a a := ⟨0, h, .z a⟩
theorem near_mono {E : List (Nat × Nat)} {m m' : Int} {a b : Nat} (h : m ≤ m') (x : Near E m a b) : Near E m' a b := by
  obtain ⟨k, h1, h2⟩ := x
  exact ⟨k, Int.le_trans h1 h, h2⟩
theorem near_turn {E F : List (Nat × Nat)} (h : ∀ a b, (a, b) ∈ E ↔ (b, a) ∈ F) {m : Int} {a b : Nat} : Near E m a b ↔ Near F m b a := by
  constructor
  · rintro ⟨k, h1, h2⟩
    exact ⟨k, h1, h2.turn fun a b => (h a b).1⟩
  · rintro ⟨k, h1, h2⟩
    exact ⟨k, h1, h2.turn fun a b => (h b a).2⟩
/-! ### how far: breadth first -/
/-- the lists of how far while the places that are l far are looked at -/
structure Lev (n : Nat) (E : List (Nat × Nat)) (a l : Nat) (fs : List (Option Nat)) (edge : List Nat) : Prop where
  len : fs.length = n
  some_ : ∀ (b d : Nat), fs[b]? = some (some d) → d ≤ l ∧ Wk E d a b ∧ ∀ k, Wk E k a b → d ≤ k
  none_ : ∀ b : Nat, fs[b]? = some none → ∀ k, Wk E k a b → l < k
  edge_ : ∀ b, b ∈ edge ↔ fs[b]? = some (some l)
theorem lev_start {n : Nat} {E : List (Nat × Nat)} {a : Nat} (ha : a < n) : Lev n E a 0 ((List.replicate n none).set a (some 0)) [a] := by
  refine ⟨by simp, fun b d h => ?_, fun b h k w => ?_, fun b => ?_⟩
  · rw [List.getElem?_set] at h
    by_cases e : a = b
    · subst e
      simp [ha] at h
      subst h
      exact ⟨Nat.le_refl _, .z _, fun k _ => Nat.zero_le _⟩
    · rw [if_neg e, List.getElem?_replicate] at h
      split at h <;> simp at h
  · rw [List.getElem?_set] at h
    by_cases e : a = b
    · subst e
      simp [ha] at h
    · cases w with
      | z => exact absurd rfl e
      | s w e2 => omega
  · rw [List.getElem?_set]
    by_cases e : a = b
    · subst e
      simp [ha]
    · rw [if_neg e, List.getElem?_replicate]
      simp
      exact fun h => e h.symm
/-- within a level: done are the ends looked at -/
structure Mid (n : Nat) (E : List (Nat × Nat)) (l : Nat) (fs0 : List (Option Nat)) (edge done : List Nat) (fs : List (Option Nat)) (bey : List Nat) : Prop where
  len : fs.length = n
  old : ∀ (b d : Nat), fs0[b]? = some (some d) → fs[b]? = some (some d)
  new : ∀ (b d : Nat), fs[b]? = some (some d) → fs0[b]? = some (some d) ∨ (fs0[b]? = some none ∧ d = l + 1 ∧ b ∈ bey)
  bey_ : ∀ b : Nat, b ∈ bey → fs0[b]? = some none ∧ fs[b]? = some (some (l + 1)) ∧ ∃ c, c ∈ edge ∧ (c, b) ∈ E
  done_ : ∀ o : Nat, o ∈ done → ∃ d, fs[o]? = some (some d)
  cnt : fs.count none + bey.length = fs0.count none
theorem mid_start {n l : Nat} {E : List (Nat × Nat)} {fs0 : List (Option Nat)} {edge : List Nat} (h : fs0.length = n) : Mid n E l fs0 edge [] fs0 [] :=
  ⟨h, fun _ _ h => h, fun _ _ h => .inl h, fun _ h => (by cases h), fun _ h => (by cases h), by simp⟩
theorem count_set : ∀ (fs : List (Option Nat)) (o d : Nat), fs[o]? = some none → (fs.set o (some d)).count none + 1 = fs.count none
  | [], o, d, h => by simp at h
  | x :: r, 0, d, h => by
    simp at h
    subst h
    simp
  | x :: r, o + 1, d, h => by
    simp at h
    have ih := count_set r o d h
    rw [List.set_cons_succ, List.count_cons, List.count_cons]
    omega
theorem Mid.hit {n l : Nat} {E : List (Nat × Nat)} {fs0 fs : List (Option Nat)} {edge done bey : List Nat} {o d : Nat} (M : Mid n E l fs0 edge done fs bey) (h : fs[o]? = some (some d)) : Mid n E l fs0 edge (done ++ [o]) fs bey :=
  ⟨M.len, M.old, M.new, M.bey_, fun p hp => (List.mem_append.mp hp).elim (M.done_ p) (fun hq => ⟨d, by rw [List.mem_singleton.mp hq]; exact h⟩), M.cnt⟩
theorem Mid.put {n l : Nat} {E : List (Nat × Nat)} {fs0 fs : List (Option Nat)} {edge done bey : List Nat} {o c : Nat} (M : Mid n E l fs0 edge done fs bey) (h0 : fs0.length = n) (h : fs[o]? = some none) (hc : c ∈ edge) (he : (c, o) ∈ E) :
    Mid n E l fs0 edge (done ++ [o]) (fs.set o (some (l + 1))) (bey ++ [o]) := by
  have hl : o < fs.length := (List.getElem?_eq_some_iff.mp h).1
  have h00 : fs0[o]? = some none := by
    have h1 : o < fs0.length := by rw [h0, ← M.len]; exact hl
    rw [List.getElem?_eq_getElem h1]
    cases e : fs0[o] with
    | none => rfl
    | some d =>
      have q := M.old o d (by rw [List.getElem?_eq_getElem h1, e])
      rw [h] at q
      cases q
  refine ⟨by simp [M.len], fun b d hb => ?_, fun b d hb => ?_, fun b hb => ?_, fun p hp => ?_, ?_⟩
  · have q := M.old b d hb
    rw [List.getElem?_set]
    by_cases e : o = b
    · subst e
      rw [h] at q
      cases q
    · rw [if_neg e]
      exact q
  · rw [List.getElem?_set] at hb
    by_cases e : o = b
    · subst e
      simp [hl] at hb
      exact .inr ⟨h00, hb.symm, by simp⟩
    · rw [if_neg e] at hb
      rcases M.new b d hb with q | ⟨q1, q2, q3⟩
      · exact .inl q
      · exact .inr ⟨q1, q2, List.mem_append_left _ q3⟩
  · rcases List.mem_append.mp hb with hb | hb
    · obtain ⟨q1, q2, q3⟩ := M.bey_ b hb
      refine ⟨q1, ?_, q3⟩
      rw [List.getElem?_set]
      by_cases e : o = b
      · subst e
        simp [hl]
      · rw [if_neg e]
        exact q2
    · rw [List.mem_singleton.mp hb]
      exact ⟨h00, by simp [hl], c, hc, he⟩
  · rw [List.getElem?_set]
    by_cases e : o = p
    · subst e
      exact ⟨l + 1, by simp [hl]⟩
    · rw [if_neg e]
      rcases List.mem_append.mp hp with hp | hp
      · exact M.done_ p hp
      · exact absurd (List.mem_singleton.mp hp).symm e
  · have q := count_set fs o (l + 1) h
    have q2 := M.cnt
    rw [List.length_append]
    simp
    omega
/-- a level's end -/
theorem Mid.next {n l a : Nat} {E : List (Nat × Nat)} {fs0 fs : List (Option Nat)} {edge done bey : List Nat} (M : Mid n E l fs0 edge done fs bey) (L : Lev n E a l fs0 edge) (hE : On n E) (ha : a < n) (hd : ∀ c o, c ∈ edge → (c, o) ∈ E → o ∈ done) : Lev n E a (l + 1) fs bey := by
  have key : ∀ b, fs[b]? = some none → fs0[b]? = some none := fun b h => by
    have hl : b < fs.length := (List.getElem?_eq_some_iff.mp h).1
    have h1 : b < fs0.length := by rw [L.len, ← M.len]; exact hl
    rw [List.getElem?_eq_getElem h1]
    cases e : fs0[b] with
    | none => rfl
    | some d =>
      have q := M.old b d (by rw [List.getElem?_eq_getElem h1, e])
      rw [h] at q
      cases q
  refine ⟨M.len, fun b d h => ?_, fun b h k w => ?_, fun b => ⟨fun h => (M.bey_ b h).2.1, fun h => ?_⟩⟩
  · rcases M.new b d h with q | ⟨q1, q2, q3⟩
    · obtain ⟨r1, r2, r3⟩ := L.some_ b d q
      exact ⟨Nat.le_succ_of_le r1, r2, r3⟩
    · subst q2
      obtain ⟨_, _, c, hc, he⟩ := M.bey_ b q3
      have r := (L.some_ c l ((L.edge_ c).1 hc)).2.1
      exact ⟨Nat.le_refl _, .s r he, fun k w => L.none_ b q1 k w⟩
  · have h0 := key b h
    have q := L.none_ b h0 k w
    rcases Nat.lt_or_ge (l + 1) k with c | c
    · exact c
    · exfalso
      have e : k = l + 1 := by omega
      subst e
      cases w with
      | s w e =>
        rename_i c
        have hc : c < n := w.lt hE ha
        have hcl : c < fs0.length := by rw [L.len]; exact hc
        have hcs : fs0[c]? = some (some l) := by
          rw [List.getElem?_eq_getElem hcl]
          cases z : fs0[c] with
          | none =>
            have := L.none_ c (by rw [List.getElem?_eq_getElem hcl, z]) l w
            omega
          | some d =>
            have hz : fs0[c]? = some (some d) := by rw [List.getElem?_eq_getElem hcl, z]
            obtain ⟨r1, r2, r3⟩ := L.some_ c d hz
            have r4 := r3 l w
            have r5 : l + 1 ≤ d + 1 := by
              have := L.none_ b h0 (d + 1) (.s r2 e)
              omega
            have : d = l := by omega
            rw [this]
        obtain ⟨d, hd2⟩ := M.done_ b (hd c b ((L.edge_ c).2 hcs) e)
        rw [h] at hd2
        cases hd2
  · rcases M.new b (l + 1) h with q | ⟨_, _, q3⟩
    · have := (L.some_ b _ q).1
      omega
    · exact q3
/-- what a list of how far tells -/
def Fars (n : Nat) (E : List (Nat × Nat)) (a : Nat) (fs : List (Option Nat)) : Prop := fs.length = n ∧ ∀ (b : Nat) (d : Option Nat), fs[b]? = some d → (∀ m : Int, (∃ k : Nat, d = some k ∧ (k : Int) ≤ m) ↔ Near E m a b)
theorem Lev.fars {n l a : Nat} {E : List (Nat × Nat)} {fs : List (Option Nat)} (L : Lev n E a l fs []) (hE : On n E) (ha : a < n) : Fars n E a fs := by
  have all : ∀ k b, Wk E k a b → ∃ d, fs[b]? = some (some d) := by
    intro k
    induction k with
    | zero =>
      intro b w
      cases w
      have hl : a < fs.length := by rw [L.len]; exact ha
      cases z : fs[a] with
      | none =>
        have := L.none_ a (by rw [List.getElem?_eq_getElem hl, z]) 0 (.z a)
        omega
      | some d => exact ⟨d, by rw [List.getElem?_eq_getElem hl, z]⟩
    | succ k ih =>
      intro b w
      have hb : b < n := w.lt hE ha
      have hbl : b < fs.length := by rw [L.len]; exact hb
      cases w with
      | s w e =>
        rename_i c
        obtain ⟨d, hd⟩ := ih c w
        obtain ⟨r1, r2, r3⟩ := L.some_ c d hd
        have r4 : d ≠ l := fun z => by
          subst z
          have := (L.edge_ c).2 hd
          cases this
        cases z : fs[b] with
        | none =>
          have := L.none_ b (by rw [List.getElem?_eq_getElem hbl, z]) (d + 1) (.s r2 e)
          omega
        | some d2 => exact ⟨d2, by rw [List.getElem?_eq_getElem hbl, z]⟩
  refine ⟨L.len, fun b d h m => ⟨?_, ?_⟩⟩
  · rintro ⟨k, rfl, hk⟩
    exact ⟨k, hk, (L.some_ b k h).2.1⟩
  · rintro ⟨k, hk, w⟩
    obtain ⟨d2, hd2⟩ := all k b w
    rw [h] at hd2
    have e : d = some d2 := Option.some.inj hd2
    subst e
    have := (L.some_ b d2 h).2.2 k w
    exact ⟨d2, rfl, by omega⟩
/-! ### lots -/
open Classical in
noncomputable def lotP (n : Nat) (p : Nat → Prop) : List Nat := (List.range n).filter fun b => decide (p b)
open Classical in
theorem mem_lotP {n : Nat} {p : Nat → Prop} {b : Nat} : b ∈ lotP n p ↔ b < n ∧ p b := by
  unfold lotP
  rw [List.mem_filter, List.mem_range, decide_eq_true_iff]
open Classical in
theorem lotP_congr {n : Nat} {p q : Nat → Prop} (h : ∀ b, b < n → (p b ↔ q b)) : lotP n p = lotP n q := by
  unfold lotP
  refine List.filter_congr fun b hb => ?_
  rw [decide_eq_decide]
  exact h b (List.mem_range.mp hb)
theorem sorted_eq : ∀ {xs ys : List Nat}, xs.Pairwise (· < ·) → ys.Pairwise (· < ·) → (∀ b, b ∈ xs ↔ b ∈ ys) → xs = ys
  | [], [], _, _, _ => rfl
  | [], y :: ys, _, _, h => by
    have := (h y).2 (by simp)
    cases this
  | x :: xs, [], _, _, h => by
    have := (h x).1 (by simp)
    cases this
  | x :: xs, y :: ys, h1, h2, h => by
    rw [List.pairwise_cons] at h1 h2
    have exy : x = y := by
      rcases List.mem_cons.mp ((h x).1 (by simp)) with e | e
      · exact e
      · rcases List.mem_cons.mp ((h y).2 (by simp)) with e2 | e2
        · exact e2.symm
        · have a := h1.1 y e2
          have b := h2.1 x e
          omega
    subst exy
    congr 1
    refine sorted_eq h1.2 h2.2 fun b => ⟨fun hb => ?_, fun hb => ?_⟩
    · rcases List.mem_cons.mp ((h b).1 (List.mem_cons_of_mem _ hb)) with e | e
      · have := h1.1 b hb
        omega
      · exact e
    · rcases List.mem_cons.mp ((h b).2 (List.mem_cons_of_mem _ hb)) with e | e
      · have := h2.1 b hb
        omega
      · exact e
theorem range_sorted (n : Nat) : (List.range n).Pairwise (· < ·) := List.pairwise_lt_range
theorem lotP_sorted (n : Nat) (p : Nat → Prop) : (lotP n p).Pairwise (· < ·) := (range_sorted n).filter _
theorem lotP_of {n : Nat} {p : Nat → Prop} {xs : List Nat} (h : xs.Pairwise (· < ·)) (hm : ∀ b, b ∈ xs ↔ b < n ∧ p b) : xs = lotP n p :=
  sorted_eq h (lotP_sorted n p) fun b => (hm b).trans mem_lotP.symm
theorem lotP_len (n : Nat) (p : Nat → Prop) : (lotP n p).length ≤ n := by
  have := List.length_filter_le (fun b => @decide (p b) (Classical.propDecidable _)) (List.range n)
  rw [List.length_range] at this
  exact this
end RLM
/-! Rules that this program wants besides: len of an own object, sorted and set of a tuple, a tuple's index and multiple, enumerate of a tuple. -/
namespace RL
open PySem PySem.Spec PyProof.Rows L2
section
variable {X : Cx}
/-- set(t), t a tuple of ints -/
def rSetT (w : World) (K : PySem.W.Frag) : List V → Hp → VK → Prop := fun vs H Q => ∃ (a : Addr) (ns : List Int), vs = [.ref a] ∧ SqT K H a (ns.map V.int) ∧ ns.length ≤ 1000 ∧
  ∀ (p : Addr) (c : Nat), H p = none → c ≤ ns.length → Q (.ref p) (upd H p (SetO w p (fun j => decide (j ∈ ns)) c))
theorem cr_setT (hc : X.calm = true) : CallR X (.type "set") (rSetT X.w X.K) := by
  intro pins s σ H vs us Q I r h
  obtain ⟨a, ns, rfl, hs, hz, q⟩ := h
  obtain ⟨its, rv, ht, _⟩ := I.tuple hs
  rw [Vals.ref1 r]
  have hi : IntsAre its.toArray.toList ns := by simpa using rv.ints
  refine call_set_tupI ns (I.ok.hd hc) ht hi (Nat.lt_of_le_of_lt (Nat.succ_le_succ hz) (by decide)) fun h' tk c R hcl hk => ?_
  have fr : H s.heap.objs.size = none := I.hok.fresh (Nat.le_refl _)
  exact ⟨.ref _, _, I.laid hk (Nat.le_refl _) (setO_new R), rfl, q _ c fr hcl⟩
/-- sorted(t), t a tuple of ints, fewer than 64 -/
def rSortT (K : PySem.W.Frag) : List V → Hp → VK → Prop := fun vs H Q => ∃ (a : Addr) (ns : List Int), vs = [.ref a] ∧ SqT K H a (ns.map V.int) ∧ ns.length < 64 ∧
  ∀ (ms : List Int) (p : Addr), ms.Perm ns → ms.Pairwise (· ≤ ·) → H p = none → Q (.ref p) (upd H p (.lst (ms.map V.int)))
theorem cr_sortTup : CallR X (.builtin "sorted") (rSortT X.K) := by
  intro pins s σ H vs us Q I r h
  obtain ⟨a, ns, rfl, hs, h64, q⟩ := h
  obtain ⟨its, rv, ⟨o, ho, hcl, nn, hd⟩, _⟩ := I.tuple hs
  rw [Vals.ref1 r]
  have hi := rv.ints
  have hle : its.length = ns.length := hi.length
  refine Calls.call_function_entry kind_sorted plain_sorted entry_sorted (args_sorted1 _) ?_
  unfold Builtin.«sorted»
  refine wpAny_bind (m := checkCount "sorted" 1 1 _) (wpAny_pure ?_)
  refine wpAny_bind (wpAny_collect_seq a (.inr rfl) ho hcl hd (fun h1 k1 => ?_) (by rw [List.size_toArray, hle, sizeLine_eq]; omega))
  refine wpAny_bind (wpAny_newList ?_ (by rw [sizeLine_eq]; simp; omega))
  have at1 : (h1.push (seqObj "list" its.toArray 0)).get? h1.objs.size = some (seqObj "list" its.toArray 0) := Heap.get?_push_size _ rfl
  refine wpAny_bind (wpAny_holding (wpAny_call_entry slot_list_sort ⟨_, at1, rfl⟩ entry_list_sort (list_sort_tree at1 hi (by omega) fun out ms a1 a2 a3 => ⟨_, rfl, ?_⟩) (args_list_sort _)))
  refine wpAny_pure ⟨_, rfl, ?_⟩
  have I1 : Inv X pins σ H { s with heap := h1 } := I.kept (t' := s.toks) k1
  obtain ⟨ep, he⟩ := PyProof.Rows.sortedHeap_at (vs := its) (out := out) at1
  have hlen : (ms.map V.int).length ≤ sizeLine := by rw [List.length_map, a2.length_eq, sizeLine_eq]; omega
  refine ⟨.ref h1.objs.size, upd H h1.objs.size (.lst (ms.map V.int)), I1.laid (t' := s.toks) (fun b ob e => ?_) (Nat.le_refl _) ⟨hlen, out.toList, ep, vals_of_ints a1, by simpa using he⟩, rfl, q ms _ a2 a3 (I1.hok.fresh (Nat.le_refl _))⟩
  rw [PyProof.Rows.sortedHeap_old (Nat.ne_of_lt (Heap.lt_size e)) (by rw [Heap.size_push]; exact Nat.lt_succ_of_lt (Heap.lt_size e))]
  exact Heap.get?_push_of_some _ e
/-- t.index(k), ints: the first place -/
theorem flat_ints (ys : List Int) : (ys.map V.int).all flatV = true := by
  rw [List.all_map]
  exact List.all_eq_true.mpr fun _ _ => rfl
def rTupIx (K : PySem.W.Frag) : V → List V → Hp → VK → Prop := fun x xs H Q => ∃ (p : Addr) (ys : List Int) (z : Int) (j : Nat), x = .ref p ∧ xs = [.int z] ∧ SqT K H p (ys.map V.int) ∧ ys[j]? = some z ∧ (∀ m : Nat, m < j → ys[m]? ≠ some z) ∧ Q (.int (j : Nat)) H
theorem mt_tupIx : MtR X "tuple.index" (rTupIx X.K) := by
  intro pins s σ H x xs v us Q I rx rs h
  obtain ⟨p, ys, z, j, rfl, rfl, hq, hy, hno, q⟩ := h
  cases rx
  obtain ⟨u, rfl, t, rfl⟩ := vals1 rs
  obtain ⟨its, r, ⟨⟨cls, dd, dt, sl⟩, ho, hc, n, hd⟩, hz⟩ := I.tuple hq
  cases (show cls = _ from hc)
  cases (show dt = _ from hd)
  have hl : its.length = ys.length := by rw [← r.length, List.length_map]
  have each : ∀ (m : Nat) (hm : m < its.toArray.size), ∃ y t', ys[m]? = some y ∧ its.toArray[m] = Value.int y t' := fun m hm => by
    have hm2 : m < ys.length := by rw [← hl]; simpa using hm
    obtain ⟨wv, hw, t', hw'⟩ := r.get (i := m) (x := .int ys[m]) (by simp [hm2])
    refine ⟨ys[m], t', List.getElem?_eq_getElem hm2, ?_⟩
    have e := (List.getElem?_eq_some_iff.mp hw).2
    rw [← hw', ← e]
    simp
  have hj : j < its.toArray.size := by
    rw [List.size_toArray, hl]
    exact (List.getElem?_eq_some_iff.mp hy).1
  refine call_meets PySem.F.slot_tuple_index ⟨_, ho, rfl⟩ PySem.F.entry_tuple_index (PySem.F.args_tuple_index_2 _ _) (TI.tuple_indexAt p its.toArray n dd sl (.int z t) (eqU (.int z)) j hj ?_ ?_)
    ⟨ho, fun wv hw => mem_eqAt (x := .int z) ⟨t, rfl⟩ rfl r (flat_ints ys) wv (by simpa using hw), ⟨.int (j : Nat), H, I.tok _, ⟨_, rfl⟩, q⟩⟩
  · obtain ⟨y, t', h1, h2⟩ := each j hj
    rw [hy] at h1
    cases h1
    rw [h2]
    show decide (z = z) = true
    simp
  · intro m hm hmj
    obtain ⟨y, t', h1, h2⟩ := each m hm
    rw [h2]
    have e : y ≠ z := fun e => hno m hmj (e ▸ h1)
    show decide (y = z) = false
    simp [e]
end
end RL
namespace RL
open PySem PySem.Spec PyProof.Rows L2
open AutoSeq1 (wpAny_loadPart')
/-- t * 1 is t -/
theorem tuple_mul1 (l : Addr) (items : Array Value) (n : Nat) (dd : Option Addr) (sl : Array (Option Value)) (u : Tok) :
    Meets (Builtin.«tuple.__mul__» ⟨[.ref l, .int 1 u], []⟩) (fun _ R s => s.heap.get? l = some { cls := .type "tuple", dict := dd, data := .seq items n, slots := sl } ∧ R (.ok (.ret (.ref l))) s) :=
  .of_wp fun prog w A R s h => by
    obtain ⟨hp, g, d, tk, os⟩ := s
    obtain ⟨hl, h⟩ := h
    have f1 := AutoSeq1.idx_int
    have c1 : (items.isEmpty || (1 : Int) == 1) = true := by simp
    wp_walk using wpAny_loadPart' hl
    exact ⟨_, rfl, h⟩
set_option maxHeartbeats 1000000 in
theorem meets_enum_tup {v : Value} {o : Obj} {H : Heap → Prop} (B : Begins v o H) :
    Meets (Builtin.«enumerate.__new__» ⟨[.type "enumerate", v], []⟩) (fun _ R s => H s.heap ∧
      R (.ok (.ret (.ref (s.heap.push o).objs.size))) { s with heap := (s.heap.push o).push { cls := .type "enumerate", data := .fields #[.none, .bool false, .ref s.heap.objs.size, rawInt 0, .none, .none] } }) :=
  .of_wp fun P0 w0 A R s hh => by
    obtain ⟨hp, g, d, tk, os⟩ := s
    have hsub := sub_enumerate
    have draw : ∀ {A1 : Around} {E1 : Value → Shared → Prop} {Q1 : Value → Shared → Prop}, Q1 (.ref hp.objs.size) ⟨hp.push o, g, d, tk, os⟩ → wpAny (model P0 w0) A1 (pyIter v) Q1 E1 ⟨hp, g, d, tk, os⟩ :=
      fun z => B.iter P0 w0 _ _ ⟨hp, g, d, tk, os⟩ _ hh.1 z
    have fin := hh.2
    wp_walk using draw
    refine wpAny_stack_any fun st => wpAny_pure ?_
    split
    · rename_i c _ _ _ _ _
      cases (c == Value.type "enumerate")
      all_goals
        wp_walk using draw
        exact ⟨_, rfl, fin⟩
    · wp_walk using draw
      exact ⟨_, rfl, fin⟩
theorem call_enum_tup {prog : Program} {w : World} {A : Around} {E : Value → Shared → Prop} {s : Shared} {t : Addr} {items : Array Value} {Q : Value → Shared → Prop} (ht : s.heap.IsTuple t items)
    (h : ∀ h', IsEnum h' (s.heap.objs.size + 1) s.heap.objs.size 0 .none → h'.IsTupleIter s.heap.objs.size t 0 → (∀ b o, s.heap.get? b = some o → h'.get? b = some o) → Q (.ref (s.heap.objs.size + 1)) { s with heap := h' }) :
    wpAny (model prog w) A (call (.type "enumerate") [.ref t]) Q E s := by
  refine callType_new F.called_enumerate (by decide) (F.typeCall_enumerate_1 _) (F.newCall_enumerate_1 _) (fun ob => F.args_object_init_2 ob _) F.entry_enumerate_new (meets_enum_tup (begins_tuple t items)) ⟨ht, ?_⟩
  generalize ho1 : ({ cls := .type "tuple_iterator", data := .fields #[.ref t, .int 0 0] } : Obj) = o1
  have fr1 : o1.isFreed = false := by rw [← ho1]; rfl
  generalize ho2 : ({ cls := .type "enumerate", data := .fields #[.none, .bool false, .ref s.heap.objs.size, rawInt 0, .none, .none] } : Obj) = o2
  have z1 : (s.heap.push o1).objs.size = s.heap.objs.size + 1 := Heap.size_push ..
  have g2 : ((s.heap.push o1).push o2).get? (s.heap.objs.size + 1) = some o2 := by
    rw [← z1]
    exact Heap.get?_push_size _ (by rw [← ho2]; rfl)
  have g1 : ((s.heap.push o1).push o2).get? s.heap.objs.size = some o1 := Heap.get?_push_of_some _ (Heap.get?_push_size _ fr1)
  show _ ∧ _
  rw [z1]
  refine ⟨⟨o2, g2, by rw [← ho2]⟩, h _ (by rw [← ho2] at g2 ⊢; exact g2) ⟨o1, g1, by rw [← ho1], by rw [← ho1]; rfl⟩ fun b o e => Heap.get?_push_of_some _ (Heap.get?_push_of_some _ e)⟩
/-- a tuple at a, its items in new pairs with their numbers -/
def Itu (K : PySem.W.Frag) (a : Addr) : It :=
  ⟨fun i H => ∃ (xs : List V) (x : V), SqT K H a xs ∧ xs[i]? = some x, fun i H v H' => ∃ T x, v = .ref T ∧ H T = none ∧ H' = upd H T (.tup [.int (i : Nat), x]) ∧ ∀ xs, SqT K H a xs → xs[i]? = some x, fun i H => ∃ xs : List V, SqT K H a xs ∧ xs.length = i⟩
theorem turn_enumT {P : Program} {w : World} {K : PySem.W.Frag} {elts : List Expr} {kk : Nat} {tpos : Pos} (a e it : Addr) (hne : e ≠ it) (hai : a ≠ it) (hea : e ≠ a) :
    Turn P w K (.Tuple elts kk tpos) (Itu K a) [e, it] e (fun i h => (∃ old, IsEnum h e it ((i : Nat) : Int) old) ∧ h.IsTupleIter it a i) where
  mem := by simp
  obj := fun i h st b hb => by
    obtain ⟨⟨old, he⟩, ⟨o, ho, hc, hd⟩⟩ := st
    have z : b = e ∨ b = it := by simpa using hb
    rcases z with z | z
    · rw [z]
      exact ⟨_, he, fun v q => nomatch q⟩
    · rw [z]
      exact ⟨o, ho, fun v q => by rw [hd] at q; cases q⟩
  keep := fun i h h' st k => ⟨st.1.imp fun old he => k e (by simp) _ he, st.2.at fun o q => k it (by simp) o q⟩
  item := by
    intro X hP hw hK hc i pins s σ H E I hf st hg
    subst hP hw hK
    obtain ⟨⟨old, he⟩, hit⟩ := st
    obtain ⟨xs, x, hq, hx⟩ := hg
    obtain ⟨its, rv, ht, hz⟩ := I.tuple hq
    obtain ⟨u, hu, ru⟩ := rv.get hx
    have hi : i < its.toArray.size := by
      rw [List.size_toArray]
      exact (List.getElem?_eq_some_iff.mp hu).1
    have el : e < s.heap.objs.size := Heap.lt_size he
    have il : it < s.heap.objs.size := by
      obtain ⟨_, q, _⟩ := hit
      exact Heap.lt_size q
    refine wpAny_pyNext_enum_itemD (Draws.tuple (A := X.A.in1) (show X.A.in1.handled = none from I.ok.hd hc) it a hai its.toArray) he ⟨hit, ht⟩ hi hne (by simp [hne, hea]) fun y h' tk py ho st' hT hsz hk => ?_
    have ey : y = u := by
      have q : its[i]? = some y := by simpa using py
      rw [hu] at q
      exact (Option.some.inj q).symm
    subst ey
    refine ⟨_, rfl, wpAny_letOwnedTupleGo_enum (s := { s with heap := h', toks := tk + 1 }) ho fun h'' he' sb => ?_⟩
    have hT2 : h''.get? s.heap.objs.size = some { cls := .type "tuple", data := .seq #[.int i tk, y] } := (sb.2 _ (Nat.ne_of_gt el)).trans hT
    have new : ObjOk X.prog X.w (upd H s.heap.objs.size (.tup [.int (i : Nat), x])) h'' s.heap.objs.size (.tup [.int (i : Nat), x]) :=
      ⟨by show 2 ≤ sizeLine; decide, [.int i tk, y], .cons ⟨_, rfl⟩ (.cons ru .nil), ⟨_, hT2, rfl, _, rfl⟩⟩
    have I1 : Inv X pins σ (upd H s.heap.objs.size (.tup [.int (i : Nat), x])) { s with heap := h'', toks := tk + 1 } :=
      I.turnedNew (ch := [e, it]) (fun b ob hb q => (sb.2 b (fun z => hb (by simp [z]))).trans (hk b ob (fun z => hb (by simp [z])) (fun z => hb (by simp [z])) q)) hf (Nat.le_refl _) new
    refine ⟨.ref s.heap.objs.size, _, I1, rfl, ⟨_, x, rfl, I.hok.fresh (Nat.le_refl _), rfl, fun ys hy => by rw [I.tuple_inj hy hq]; exact hx⟩, ⟨⟨y, by simpa using he'⟩, st'.1.at fun o q => (sb.2 it (Ne.symm hne)).trans q⟩, fun b hb => ?_⟩
    have lt : b < s.heap.objs.size := by
      have z : b = e ∨ b = it := by simpa using hb
      rcases z with z | z
      · rw [z]; exact el
      · rw [z]; exact il
    rw [upd_ne (Nat.ne_of_lt lt)]
    exact (hf b hb).1
  done := by
    intro X hP hw hK hc i pins s σ H E I hf st hg
    subst hP hw hK
    obtain ⟨⟨old, he⟩, hit⟩ := st
    obtain ⟨xs, hq, hx⟩ := hg
    obtain ⟨its, rv, ht, hz⟩ := I.tuple hq
    obtain ⟨f0, f1, f2, f3, f4, f5⟩ := hf it (by simp)
    have hl : its.toArray.size = i := by
      rw [List.size_toArray, ← rv.length]
      exact hx
    exact wpAny_pyNext_enum_endD (Draws.tuple (A := X.A.in1) (show X.A.in1.handled = none from I.ok.hd hc) it a hai its.toArray) he (by rw [hl]; exact ⟨hit, ht⟩) fun h' eb => ⟨rfl, I.turned (t' := s.toks) (fun b o hb q => eb b o hb q) f0 f1 f3 f4 f5⟩
  self := fun A i s Q E st h => wpAny_pyIter_enum st.1.choose_spec h
def iEnumT (K : PySem.W.Frag) (ta : TA) : TI := fun σ H R => ta σ H fun vs H1 => ∃ a xs, vs = [.ref a] ∧ SqT K H1 a xs ∧ R (Itu K a) H1
theorem pi_enumT {X : Cx} {e : Expr} {ta : TA} {p pos tpos : Pos} {elts : List Expr} {kk : Nat} (hg : Gl X "enumerate") (hm : X.mg "enumerate" = none) (ha : PA X [e] ta) (hs : starEach [e] X.env = [(false, eval e X.env)] := by rfl) :
    PI X (.Tuple elts kk tpos) (.Call (.Name "enumerate" p) [e] [] pos) (iEnumT X.K ta) := by
  refine ⟨fun pins s σ H R I h => ?_⟩
  refine Call_ (ld_blt I hg hm boot_enumerate (PyProof.Rows.callWith_type1 (thn (ha.run pos pins s σ H _ I h) fun us s1 ⟨vs, H1, I1, r1, q1⟩ => ?_) hs rfl))
  obtain ⟨a, xs, ex, hq, q⟩ := q1
  subst ex
  rw [Vals.ref1 r1]
  obtain ⟨its, rv, ht, hz⟩ := I1.tuple hq
  have al : a < s1.heap.objs.size := by
    obtain ⟨o, ho, _⟩ := ht
    exact Heap.lt_size ho
  refine call_enum_tup ht fun h' he hit hk => wpAny_pyIter_enum he ?_
  have I2 : Inv X pins σ H1 { s1 with heap := h' } := I1.kept (t' := s1.toks) hk
  refine ⟨s1.heap.objs.size + 1, [s1.heap.objs.size + 1, s1.heap.objs.size], _, _, H1, rfl, I2, turn_enumT a (s1.heap.objs.size + 1) s1.heap.objs.size (Nat.succ_ne_self _) (Nat.ne_of_lt al) (Nat.ne_of_gt (Nat.lt_succ_of_lt al)), ⟨⟨.none, he⟩, hit⟩, fun b hb => ?_, q⟩
  have hle : s1.heap.objs.size ≤ b := by
    have z : b = s1.heap.objs.size + 1 ∨ b = s1.heap.objs.size := by simpa using hb
    rcases z with z | z
    · rw [z]; exact Nat.le_succ _
    · rw [z]; exact Nat.le_refl _
  exact I1.fpOk hle (I1.hok.fresh hle)
theorem walk_enumT {K : PySem.W.Frag} {a : Addr} {xs : List V} : Walk (Itu K a) xs.length (fun H => SqT K H a xs) (YPair (fun i => some (.int (i : Nat))) (fun i => xs[i]?)) := by
  refine ⟨fun i H hi q => ⟨xs, xs[i], q, by simp [hi]⟩, fun H q => ⟨xs, q, rfl⟩, fun i H v H' hi q y => ?_⟩
  obtain ⟨T, x, e1, e2, e3, e4⟩ := y
  exact ⟨T, _, x, e1, e2, e3, rfl, e4 xs q⟩
section
variable {X : Cx}
/-- t * k, 1 ≤ k -/
def rRepT1 (K : PySem.W.Frag) : R2 := fun x y H Q => ∃ (l : Addr) (k : Int) (xs : List V), x = .ref l ∧ y = .int k ∧ SqT K H l xs ∧ xs ≠ [] ∧ 1 ≤ k ∧ k ≤ 1000 ∧ xs.length ≤ 1000 ∧ (k = 1 → Q (.ref l) H) ∧ ∀ p, H p = none → Q (.ref p) (upd H p (.tup (List.replicate k.toNat xs).flatten))
theorem op_repT1 : OpR X (binaryOp .Mult) (rRepT1 X.K) := by
  intro pins s σ H x y v u Q I rx ry h
  obtain ⟨l, k, xs, hx, hy, hT, hne, h1, h2, hz, q1, q⟩ := h
  by_cases hk : k = 1
  · subst hk hx hy
    cases rx
    obtain ⟨t, rfl⟩ := ry
    obtain ⟨its, r, ⟨⟨cls, dd, data, sl⟩, ho, hc, n, hd⟩, hs⟩ := I.tuple hT
    cases (show cls = _ from hc)
    cases (show data = _ from hd)
    refine wpAny_binaryOp_repeat_ref (T := "tuple") (U := "int") (by decide) ⟨_, ho, rfl⟩ (fun s' => typeIs_int s' 1 t) noFill_tuple_mul F.fills_int_mul F.slot_int_rmul repeat_tuple F.slot_int_index.lookup
      (call_meets F.slot_int_rmul (typeIs_int s 1 t) F.entry_int_rmul (F.args_int_rmul_2 _ _) (int_rmul_tuple 1 t l its.toArray n dd sl)
        ⟨ho, rfl, ⟨_, ho, rfl⟩, call_meets F.slot_tuple_mul ⟨_, ho, rfl⟩ F.entry_tuple_mul (F.args_tuple_mul_2 _ _) (tuple_mul1 l its.toArray n dd sl t) ⟨ho, ?_⟩⟩)
    exact ⟨.ref l, H, I, rfl, q1 rfl⟩
  · exact op_repT pins s σ H x y v u Q I rx ry ⟨l, k, xs, hx, hy, hT, hne, by omega, h2, hz, q⟩
/-- len(o), o of a class with its own __len__ -/
def rLenOwn (C : Addr) (sp : Sp) : List V → Hp → VK → Prop := fun vs H Q => ∃ (a dx : Addr) (fs : List (Str × V)), vs = [.ref a] ∧ H a = some (.ins C dx fs) ∧ sp [.ref a] H (fun v H' => ∃ n : Int, v = .int n ∧ 0 ≤ n ∧ n < 2 ^ 63 ∧ Q (.int n) H') (fun _ _ _ => False)
theorem call_lenOwn {C f : Addr} {fd : FuncData} {ps : List Str} {sp : Sp} {k : Nat} (hm : Meth X.K C "__len__" f) (F : FnOk X.prog X.w X.K X.mg X.base CX0 k f fd ps sp) (hb : Binds X.K fd ps []) (hr : Room (k + 1) X.A) : CallR X (.builtin "len") (rLenOwn C sp) := by
  intro pins s σ H vs us Q I r h
  obtain ⟨a, dx, fs, rfl, ha, q⟩ := h
  rw [Vals.ref1 r]
  obtain ⟨mA, O, _⟩ := ins_get I.hok ha
  obtain ⟨od, J, _⟩ := O.look
  refine Calls.call_function_entry kind_len plain_len entry_len (args_len1 _) ?_
  unfold Builtin.«len»
  refine wpAny_bind (m := oneArg "len" _) (wpAny_pure ?_)
  have ty : PySem.W.typeIn X.K (.ref f) = some (.type "function") := beq_iff_eq.mp hm.fn
  refine wpAny_bind (m := callSpecial? (.ref a) (Str.ofString "__len__")) (PySem.W.special_fn I.kIn J hm.at_ ty ?_)
  refine wpAny_call (codeAny_mono (F.run X.A.in1 X.stack s H ⟨[.ref a], []⟩ [.ref a] [.ref a] _ _ hr.in1 I.env0.in1 (hb s [.ref a] I.kIn (F.len _ _ _ _ q)) (.cons rfl .nil) q) fun rr s1 hq => ?_)
  cases rr with
  | error e => exact hq.elim
  | ok fl =>
    cases fl with
    | ret u =>
      obtain ⟨v, H1, I1, rv, n, e, n0, n1, qq⟩ := I.after hq
      subst e
      obtain ⟨t, rfl⟩ := rv
      refine wpAny_bind (wpAny_holding (wpAny_pure ?_))
      refine wpAny_bind (wpAny_letGo ?_)
      show wpAny _ _ (if n < 0 then _ else _) _ _ _
      rw [if_neg (by omega)]
      show wpAny _ _ (if n ≥ 2 ^ 63 then _ else _) _ _ _
      rw [if_neg (by omega)]
      exact wpAny_bind (wpAny_mkInt (wpAny_pure ⟨_, rfl, .int n, H1, I1.tok _, ⟨_, rfl⟩, qq⟩))
    | next => exact hq.elim
    | brk => exact hq.elim
    | cont => exact hq.elim
end
end RL
/-! A set comprehension with two clauses whose items are ints. -/
namespace RL
open PySem PySem.Spec PyProof.Rows L2
section
variable {prog : Program} {w : World} {A : Around} {R : Result → Shared → Prop} {s : Shared} {el ta ia tb ib : Expr} {fa fb : List Expr} {sc : Scope} {pos : Pos} {it acc : Value} {env : Env}
/-- the expression -/
abbrev sc2E (el ta ia : Expr) (fa : List Expr) (tb ib : Expr) (fb : List Expr) (sc : Scope) (pos : Pos) : Expr := .SetComp el [⟨ta, ia, fa, 0⟩, ⟨tb, ib, fb, 0⟩] sc pos
/-- the tests of a clause -/
abbrev testsOf (fs : List Expr) (env : Env) : Sem Bool := forIn fs true fun c r => if r = true then do let ok ← isTrue c env (eval c env); pure (ForInStep.yield ok) else pure (ForInStep.yield r)
theorem turn2o : compTurn (sc2E el ta ia fa tb ib fb sc pos) 0 it acc env = (do
      standAt ia.pos
      match ← pyNext it with
      | none => pure (.done .next)
      | some v =>
        letOwnedTupleGo ta it v
        assign ta env v
        let ok ← testsOf fa env
        if ok then
          let x ← eval ib env
          standAt ib.pos
          let x ← foldedSetIterable ib env x
          let _ ← runOwn (.compStart (sc2E el ta ia fa tb ib fb sc pos) 1 (← holding [x] (pyIter x)) acc env) env
        again (.compLoop (sc2E el ta ia fa tb ib fb sc pos) 0 it acc env)) := by rfl
theorem turn2i : compTurn (sc2E el ta ia fa tb ib fb sc pos) 1 it acc env = (do
      standAt ib.pos
      match ← pyNext it with
      | none => pure (.done .next)
      | some v =>
        letOwnedTupleGo tb it v
        assign tb env v
        let ok ← testsOf fb env
        if ok then
          (do let v ← eval el env; standAt el.pos; let _ ← call (.builtin "set.add") [acc, v])
        again (.compLoop (sc2E el ta ia fa tb ib fb sc pos) 1 it acc env)) := by rfl
/-- what is noted where it raises -/
abbrev Nt (prog : Program) (w : World) (A : Around) (env : Env) (R : Result → Shared → Prop) : Value → Shared → Prop := notedBy (model prog w) A env fun e s' => R (.error e) s'
theorem loop2o (hs : ∀ x, foldedSetIterable ib env x = pure x) (J : Nat → Shared → Prop)
    (turn : ∀ n s, J n s → wpAny (model prog w) A (pyNext it) (fun r s1 => match r with
      | none => R (.ok .next) s1
      | some v => wpAny (model prog w) A (letOwnedTupleGo ta it v) (fun _ s2 => wpAny (model prog w) A (assign ta env v) (fun _ s3 => wpAny (model prog w) A (testsOf fa env) (fun ok s4 =>
            if ok = true then wpAny (model prog w) A (eval ib env) (fun x s5 => wpAny (model prog w) A (pyIter x) (fun jt s6 =>
              codeAny (model prog w) A (.compStart (sc2E el ta ia fa tb ib fb sc pos) 1 jt acc env) (fun r s' => match r with
                | .ok _ => ∃ m, m < n ∧ J m s'
                | .error _ => False) s6) (Nt prog w A env R) s5) (Nt prog w A env R) s4
            else ∃ m, m < n ∧ J m s4) (Nt prog w A env R) s3) (Nt prog w A env R) s2) (Nt prog w A env R) s1) (Nt prog w A env R) s)
    (n : Nat) (h : J n s) : codeAny (model prog w) A (.compLoop (sc2E el ta ia fa tb ib fb sc pos) 0 it acc env) R s := by
  refine codeAny_loop rfl J (fun n s hJ => ?_) n h
  show wpAny _ A ((compTurn (sc2E el ta ia fa tb ib fb sc pos) 0 it acc env).onRaise (fun x => do noteFrame x env; theTreesLotGoes x)) _ _ s
  refine wpAny_noted ?_
  rw [turn2o]
  refine wpAny_bind (wpAny_standAt (wpAny_bind (wpAny_mono (turn n s hJ) (fun r s1 h1 => ?_) fun _ _ z => z)))
  cases r with
  | none => exact wpAny_pure h1
  | some v =>
    refine wpAny_bind (wpAny_mono h1 (fun _ s2 h2 => wpAny_bind (wpAny_mono h2 (fun _ s3 h3 => wpAny_bind (wpAny_mono h3 (fun ok s4 h4 => ?_) fun _ _ z => z)) fun _ _ z => z)) fun _ _ z => z)
    cases ok with
    | false => exact wpAny_pure ⟨rfl, h4⟩
    | true =>
      refine wpAny_bind (wpAny_mono h4 (fun x s5 h5 => ?_) fun _ _ z => z)
      refine wpAny_bind (wpAny_standAt (wpAny_bind (wpAny_of_eq (hs x) (wpAny_bind (wpAny_holding (wpAny_mono h5 (fun jt s6 h6 => ?_) fun _ _ z => z))))))
      refine wpAny_bind (wpAny_runOwn ?_)
      rw [Around.mark_none]
      refine codeAny_mono h6 fun r s' hr => ?_
      cases r with
      | ok f =>
        first
          | exact wpAny_pure ⟨rfl, hr⟩
          | exact wpAny_bind (wpAny_pure (wpAny_pure ⟨rfl, hr⟩))
      | error e => exact hr.elim
theorem loop2i (J : Nat → Shared → Prop)
    (turn : ∀ n s, J n s → wpAny (model prog w) A (pyNext it) (fun r s1 => match r with
      | none => R (.ok .next) s1
      | some v => wpAny (model prog w) A (letOwnedTupleGo tb it v) (fun _ s2 => wpAny (model prog w) A (assign tb env v) (fun _ s3 => wpAny (model prog w) A (testsOf fb env) (fun ok s4 =>
            if ok = true then wpAny (model prog w) A (eval el env) (fun x s5 => wpAny (model prog w) A (call (.builtin "set.add") [acc, x]) (fun _ s6 => ∃ m, m < n ∧ J m s6) (Nt prog w A env R) s5) (Nt prog w A env R) s4
            else ∃ m, m < n ∧ J m s4) (Nt prog w A env R) s3) (Nt prog w A env R) s2) (Nt prog w A env R) s1) (Nt prog w A env R) s)
    (n : Nat) (h : J n s) : codeAny (model prog w) A (.compLoop (sc2E el ta ia fa tb ib fb sc pos) 1 it acc env) R s := by
  refine codeAny_loop rfl J (fun n s hJ => ?_) n h
  show wpAny _ A ((compTurn (sc2E el ta ia fa tb ib fb sc pos) 1 it acc env).onRaise (fun x => do noteFrame x env; theTreesLotGoes x)) _ _ s
  refine wpAny_noted ?_
  rw [turn2i]
  refine wpAny_bind (wpAny_standAt (wpAny_bind (wpAny_mono (turn n s hJ) (fun r s1 h1 => ?_) fun _ _ z => z)))
  cases r with
  | none => exact wpAny_pure h1
  | some v =>
    refine wpAny_bind (wpAny_mono h1 (fun _ s2 h2 => wpAny_bind (wpAny_mono h2 (fun _ s3 h3 => wpAny_bind (wpAny_mono h3 (fun ok s4 h4 => ?_) fun _ _ z => z)) fun _ _ z => z)) fun _ _ z => z)
    cases ok with
    | false => exact wpAny_pure ⟨rfl, h4⟩
    | true => exact wpAny_bind (wpAny_bind (wpAny_mono h4 (fun x s5 h5 => wpAny_bind (wpAny_standAt (wpAny_bind (wpAny_mono h5 (fun _ s6 h6 => wpAny_pure (wpAny_pure ⟨rfl, h6⟩)) fun _ _ z => z)))) fun _ _ z => z))
theorem start2 {k : Nat} (hk : k = 0 ∨ k = 1) (h0 : codeAny (model prog w) A (.compLoop (sc2E el ta ia fa tb ib fb sc pos) k it acc env) R s)
    (h : wpAny (model prog w) A (pyIter it) (fun jt s' => codeAny (model prog w) A (.compLoop (sc2E el ta ia fa tb ib fb sc pos) k jt acc env) R s') (Nt prog w A env R) s) :
    codeAny (model prog w) A (.compStart (sc2E el ta ia fa tb ib fb sc pos) k it acc env) R s := by
  refine codeAny_of_tree ?_
  show wpAny _ _ ((compStart (sc2E el ta ia fa tb ib fb sc pos) k it acc env).onRaise (fun x => do noteFrame x env; standAt theWindowsPlace)) _ _ s
  refine wpAny_notedAt ?_
  rcases hk with e | e
  all_goals
    subst e
    unfold compStart
    show wpAny _ _ (ask >>= _) _ _ s
    refine wpAny_bind (wpAny_askSetting (wpAny_ite ?_))
    split
    · first
        | exact wpAny_bind (wpAny_pure (wpAny_pure (And.intro rfl h0)))
        | exact wpAny_pure (And.intro rfl h0)
    · refine wpAny_bind (wpAny_rule ?_)
      first
        | (show wpAny _ _ (standAt ia.pos >>= _) _ _ s; exact wpAny_bind (wpAny_standAt (wpAny_bind (wpAny_mono h (fun jt s' h' => wpAny_pure (And.intro rfl h')) fun _ _ z => z))))
        | (show wpAny _ _ (standAt ib.pos >>= _) _ _ s; exact wpAny_bind (wpAny_standAt (wpAny_bind (wpAny_mono h (fun jt s' h' => wpAny_pure (And.intro rfl h')) fun _ _ z => z))))
end
end RL
namespace RL
open PySem PySem.Spec PyProof.Rows L2
section
variable {X : Cx}
theorem newSet_at {prog : Program} {w : World} {A : Around} {E : Value → Shared → Prop} {s : Shared} {Q : Value → Shared → Prop}
    (h : Q (.ref s.heap.objs.size) { s with heap := s.heap.push { cls := .type "set", dict := none, data := .set #[] 0 (.fresh 0 0 (!w.params.followText "set-order")) } }) : wpAny (model prog w) A (newSet (.type "set")) Q E s := PpSet.newSet_ok h
theorem addI {pins : List (Addr × Obj)} {σ : L2.St} {H : Hp} {s : Shared} {E : Value → Shared → Prop} {D : Addr} {S : Int → Bool} {n : Nat} {y : Int} {v : Value} {Q : Value → Shared → Prop} (I : L2.Inv X pins σ H s) (hD : H D = some (SetO X.w D S n)) (room : n + 1 < scanBound) (r : RelV (.int y) v)
    (h : ∀ s', L2.Inv X pins σ (upd H D (SetO X.w D (fun j => S j || decide (j = y)) (if S y = true then n else n + 1))) s' → Q .none s') : wpAny (model X.prog X.w) X.A (call (.builtin "set.add") [.ref D, v]) Q E s := by
  obtain ⟨tk, rfl⟩ := r
  have R := setO_get I hD
  refine setR_add R room fun h1 sb new => ?_
  have ex : ∃ u, h1.get? D = some u := by
    have ⟨o, _, _, _, ho, _⟩ := new
    exact ⟨o, ho⟩
  exact h _ (I.write (e := D) (t' := s.toks + 1) (by rw [hD]; trivial) (.inl rfl) (fun b u hb hu => (sb.2 b hb).trans hu) ex (setO_new new))
/-- the reading: D the new set, its members told by S -/
def tSc2 (w : World) (wa : TI) (ga : TG) (fa : TT) (wb : TI) (gb : TG) (fb : TT) (te : TE) (vs vb : List Nat) : TE := fun σ H Q => wa σ H fun J H1 => ∀ D, H1 D = none → ∃ W : Nat → Nat → Hp → Prop, (∃ m, W 0 m (upd H1 D (SetO w D (fun _ => false) 0))) ∧ ∀ i m H, W i m H →
  (J.stop i H ∧ Q (.ref D) H) ∨ (J.go i H ∧ ∃ Nx : Hp → Prop, (∀ H', Nx H' → ∃ m', m' < m ∧ W (i + 1) m' H') ∧ ∀ x H', J.yld i H x H' → ga x (wipe σ vs) H' fun σ2 H2 => wipe σ2 vs = wipe σ vs ∧ fa σ2 H2 fun b H3 =>
    if b = true then wb σ2 H3 fun J1 H4 => ∃ W1 : Nat → Nat → Hp → Prop, (∃ m, W1 0 m H4) ∧ ∀ j k H, W1 j k H →
      (J1.stop j H ∧ Nx H) ∨ (J1.go j H ∧ ∃ Ny : Hp → Prop, (∀ H', Ny H' → ∃ k', k' < k ∧ W1 (j + 1) k' H') ∧ ∀ x H', J1.yld j H x H' → gb x (wipe σ2 vb) H' fun σ3 H5 => wipe σ3 vb = wipe σ2 vb ∧ fb σ3 H5 fun b H6 =>
        if b = true then te σ3 H6 fun y H7 => ∃ (c : Int) (S : Int → Bool) (n : Nat), y = .int c ∧ H7 D = some (SetO w D S n) ∧ n + 1 < scanBound ∧ Ny (upd H7 D (SetO w D (fun j => S j || decide (j = c)) (if S c = true then n else n + 1))) else Ny H6)
    else Nx H3)
theorem pe_sc2 {el ta ia tb ib : Expr} {ea eb : List Expr} {sc : Scope} {own : List (Str × Nat)} {vs1 : List Nat} {pos : Pos} {wa wb : TI} {ga gb : TG} {fa fb : TT} {te : TE} (hc : X.calm = true) (hN : X.N.Nodup) (hi : PI X ta ia wa) (ok : BlkOk X.N X.env.scope sc own) (hv : ∀ i ∈ vs1, i ∈ own.map (·.2))
    (hg : ∀ (s : Shared) (H : Hp) (C : Addr) (cl : List (Str × Addr)) (fp : List Addr), PG (X.blk s H sc (compEnvC sc cl C X.env) fp) ta ga) (ht : ∀ (s : Shared) (H : Hp) (C : Addr) (cl : List (Str × Addr)) (fp : List Addr), PTs (X.blk s H sc (compEnvC sc cl C X.env) fp) ea fa)
    (hi1 : ∀ (s : Shared) (H : Hp) (C : Addr) (cl : List (Str × Addr)) (fp : List Addr), PI (X.blk s H sc (compEnvC sc cl C X.env) fp) tb ib wb)
    (hg1 : ∀ (s : Shared) (H : Hp) (C : Addr) (cl : List (Str × Addr)) (fp : List Addr), PG (X.blk s H sc (compEnvC sc cl C X.env) fp) tb gb) (ht1 : ∀ (s : Shared) (H : Hp) (C : Addr) (cl : List (Str × Addr)) (fp : List Addr), PTs (X.blk s H sc (compEnvC sc cl C X.env) fp) eb fb)
    (he : ∀ (s : Shared) (H : Hp) (C : Addr) (cl : List (Str × Addr)) (fp : List Addr), PE (X.blk s H sc (compEnvC sc cl C X.env) fp) el te) (hs : ∀ x, foldedSetIterable ia X.env x = pure x := by intro _; rfl) (hs1 : ∀ env x, foldedSetIterable ib env x = pure x := by intro _ _; rfl) :
    PE X (sc2E el ta ia ea tb ib eb sc pos) (tSc2 X.w wa ga fa wb gb fb te (own.map (·.2)) vs1) := by
  refine ⟨fun pins s σ H Q I h => ?_⟩
  rw [PpSet.eval_SetComp]
  have cells : ∀ y ∈ sc.names, y.2 = .free → ∃ c, X.env.cells.lookup y.1 = some c := fun y hy e => (ok.free y hy e).elim (fun k => I.ok.has _ (.inl k)) fun k => I.ok.has _ (.inr k)
  refine wpAny_comprehension_free (use := none) rfl hs (closure_ok cells) ok.kind (fun y hy e => by rw [ok.uniq y hy, e]) (thn (hi.run pins s σ H _ I h) fun xv s1 hx => thn hx fun itv s2 h2 => ?_)
  obtain ⟨it, fp, tn, J, H2, e, I2, T, st2, f2, q⟩ := h2
  subst e
  refine newSet_at (newEnv_comp ?_)
  generalize hD : s2.heap.objs.size = D
  obtain ⟨W, ⟨m0, w0⟩, turn⟩ := q D (I2.hok.fresh (Nat.le_of_eq hD))
  generalize ho : ({ cls := .type "set", dict := none, data := .set #[] 0 (.fresh 0 0 (!X.w.params.followText "set-order")) } : Obj) = oS
  generalize hs3 : ({ s2 with heap := s2.heap.push oS } : Shared) = s3
  have hp3 : s3.heap = s2.heap.push oS := by rw [← hs3]
  have I3 : L2.Inv X pins σ (upd H2 D (SetO X.w D (fun _ => false) 0)) s3 := by
    rw [← hs3]
    refine I2.laid (t' := s2.toks) (fun b o e => Heap.get?_push_of_some _ e) (Nat.le_of_eq hD) ?_
    have g : (s2.heap.push oS).get? D = some oS := by
      rw [← hD]
      exact Heap.get?_push_size _ (by rw [← ho]; rfl)
    rw [← ho] at g ⊢
    exact setO_new (by simpa using setR_new_at (ns := []) g)
  have small : ∀ b ∈ fp, b < s2.heap.objs.size := fun b hb => (T.obj _ _ st2 b hb).elim fun o e => Heap.lt_size e.1
  have f3 : ∀ b ∈ fp, FpOk X pins (upd H2 D (SetO X.w D (fun _ => false) 0)) b ∧ b < s3.heap.objs.size := fun b hb => by
    refine ⟨⟨?_, (f2 b hb).2⟩, by rw [hp3, Heap.size_push]; exact Nat.lt_succ_of_lt (small b hb)⟩
    rw [upd_ne (by rw [← hD]; exact Nat.ne_of_lt (small b hb))]
    exact (f2 b hb).1
  have st3 : tn 0 s3.heap := T.keep _ _ _ st2 fun b _ o e => by rw [hp3]; exact Heap.get?_push_of_some _ e
  have I4 := block_start I3 ok hN f3
  generalize hcs : cellsFrom (s3.heap.objs.size + 1) sc.names (cloFrom X.env.cells sc.names []) = cs at I4
  have pg := hg s3 (upd H2 D (SetO X.w D (fun _ => false) 0)) s3.heap.objs.size cs fp
  have pt := ht s3 (upd H2 D (SetO X.w D (fun _ => false) 0)) s3.heap.objs.size cs fp
  have pe := he s3 (upd H2 D (SetO X.w D (fun _ => false) 0)) s3.heap.objs.size cs fp
  have qi := hi1 s3 (upd H2 D (SetO X.w D (fun _ => false) 0)) s3.heap.objs.size cs fp
  have qg := hg1 s3 (upd H2 D (SetO X.w D (fun _ => false) 0)) s3.heap.objs.size cs fp
  have qt := ht1 s3 (upd H2 D (SetO X.w D (fun _ => false) 0)) s3.heap.objs.size cs fp
  show codeAny _ _ (.compStart (sc2E el ta ia ea tb ib eb sc pos) 0 (.ref it) (.ref D) (compEnvC sc cs s3.heap.objs.size X.env)) (compPost (model X.prog X.w) X.A X.xe none (EP X pins σ Q) (.ref D) s3.heap.objs.size) { s3 with heap := pushCells (s3.heap.push { cls := .type "dict", data := .dict #[] }) sc.names }
  have nfp : ∀ b ∈ fp, (upd H2 D (SetO X.w D (fun _ => false) 0)) b = none := fun b hb => (f3 b hb).1.1
  generalize hce : compEnvC sc cs s3.heap.objs.size X.env = ce at I4 pg pt pe qi qg qt ⊢
  have cL : ce.locals = s3.heap.objs.size := by subst hce; rfl
  generalize hH3 : upd H2 D (SetO X.w D (fun _ => false) 0) = H3 at I3 I4 pg pt pe qi qg qt w0 nfp f3
  generalize hs4 : ({ s3 with heap := pushCells (s3.heap.push { cls := .type "dict", data := .dict #[] }) sc.names } : Shared) = s4 at I4 ⊢
  have st4 : tn 0 s4.heap := T.keep _ _ _ st3 fun b _ o e => by rw [← hs4]; exact pushCells_keeps _ _ _ _ (Heap.get?_push_of_some _ e)
  generalize hv0 : wipe σ (own.map (·.2)) = σ0 at I4 turn
  have len0 : σ0.length = σ.length := by rw [← hv0, wipe_length]
  have stat : ∀ {τ : L2.St} {H' : Hp} {s' : Shared}, L2.Inv (X.blk s3 H3 sc ce fp) [] τ H' s' → (∀ b ∈ fp, H' b = none) → ∀ b ∈ fp, FpOk (X.blk s3 H3 sc ce fp) [] H' b := fun {τ H' s'} I' hn b hb =>
    ⟨hn b hb, (I'.ok.exf b hb).1, I'.ok.exfs b hb, .inl hb, fun x c e => (I'.ok.exf b hb).2 x c e, fun p hp => absurd (show p ∈ ([] : List (Addr × Obj)) ++ [] from hp) (by simp)⟩
  -- between the turns of the first clause
  let Jo : Nat → Shared → Prop := fun n s' => ∃ i H', L2.Inv (X.blk s3 H3 sc ce fp) [] σ0 H' s' ∧ tn i s'.heap ∧ (∀ b ∈ fp, H' b = none) ∧ W i n H'
  have main : codeAny (model X.prog X.w) X.A (.compLoop (sc2E el ta ia ea tb ib eb sc pos) 0 (.ref it) (.ref D) ce) (compPost (model X.prog X.w) X.A X.xe none (EP X pins σ Q) (.ref D) s3.heap.objs.size) s4 := by
    refine loop2o (hs1 ce) Jo ?_ m0 ⟨0, H3, I4, st4, nfp, w0⟩
    rintro n s5 ⟨i, H5, I5, st5, n5, w5⟩
    rcases turn i n H5 w5 with ⟨stop, qq⟩ | ⟨go, Nx, hNx, step⟩
    · refine thnF (T.done (X.blk s3 H3 sc ce fp) rfl rfl rfl hc i [] s5 _ H5 (fun _ _ => False) I5 (stat I5 n5) st5 stop) fun r s6 ⟨hr, I6⟩ => ?_
      subst hr
      have I7 : L2.Inv X pins σ H5 s6 := I3.call' (ch := fp) I6.os I6.base I6.hok I6.bare fun b hb => ⟨(f3 b hb).1.2.2.2.1, (f3 b hb).1.2.1, (f3 b hb).1.2.2.2.2.1, (f3 b hb).1.2.2.2.2.2⟩
      have nC : H5 s3.heap.objs.size = none := by
        rw [← cL]
        exact I6.free
      obtain ⟨m, hn, _⟩ := I6.loc
      have hn : s6.heap.Ns ce.locals m := hn
      rw [cL] at hn
      refine ⟨m, hn, fun h'' sb => ?_⟩
      obtain ⟨g0, g1, g2, g3, g4, g5⟩ := I3.fpOk (Nat.le_refl _) nC
      exact ⟨.ref D, H5, I7.turned (t' := s6.toks) (fun b o hb e => (sb.2 b hb).trans e) g0 g1 g3 g4 g5, rfl, qq⟩
    · refine thnF (T.item (X.blk s3 H3 sc ce fp) rfl rfl rfl hc i [] s5 _ H5 (fun _ _ => False) I5 (stat I5 n5) st5 go) fun r s6 ⟨u, hr, h6⟩ => ?_
      subst hr
      refine thnF h6 fun _ s7 ⟨x, H7, I7, r7, y7, st7, n7⟩ => ?_
      have I7p := I7.pinned (stat I7 n7) (T.obj _ _ st7)
      refine thnF (pg.run _ s7 _ H7 x u _ I7p r7 (step x H7 y7)) fun _ s8 ⟨σ8, H8, I8, hw8, q8⟩ => ?_
      refine thnF (pt.run _ s8 σ8 H8 _ I8 q8) fun b s9 ⟨H9, I9, q9⟩ => ?_
      have back : ∀ {τ : L2.St} {s' : Shared} {H' : Hp}, L2.Inv (X.blk s3 H3 sc ce fp) ([] ++ pinsAt fp s7.heap) τ H' s' → σ0.length = τ.length → (∀ (j : Nat) v, σ0[j]? = some (some v) → τ[j]? = some (some v)) → Nx H' → ∃ m, m < n ∧ Jo m s' := fun {τ s' H'} I' hl hk nx => by
        obtain ⟨m1, hm, w1⟩ := hNx H' nx
        have pin : ∀ b ∈ fp, ∀ o, s7.heap.get? b = some o → s'.heap.get? b = some o ∧ H' b = none := fun b hb o e =>
          let z := I'.pin (b, o) (List.mem_append_right _ (List.mem_append_right _ (mem_pinsAt hb e)))
          ⟨z.1, z.2.1⟩
        refine ⟨m1, hm, i + 1, H', (I'.unpinned (pins := [])).weak hl hk, T.keep _ _ _ st7 fun b hb o e => (pin b hb o e).1, fun b hb => ?_, w1⟩
        obtain ⟨o, e, _⟩ := T.obj _ _ st7 b hb
        exact (pin b hb o e).2
      have l8 : σ0.length = σ8.length := by rw [← hw8, wipe_length]
      have k8 : ∀ (j : Nat) v, σ0[j]? = some (some v) → σ8[j]? = some (some v) ∧ (wipe σ8 vs1)[j]? = some (some v) := fun j v e => by
        rw [← hw8] at e
        obtain ⟨e1, e2⟩ := wipe_some e
        refine ⟨e1, ?_⟩
        rw [wipe_out fun z => e2 (hv j z)]
        exact e1
      cases b with
      | false =>
        simp only [Bool.false_eq_true, if_false] at q9 ⊢
        exact back I9 l8 (fun j v e => (k8 j v e).1) q9
      | true =>
        simp only [if_true] at q9 ⊢
        refine thnF (qi.run _ s9 σ8 H9 _ I9 q9) fun xv s10 hx => thnF hx fun itv s11 h11 => ?_
        obtain ⟨jt, fq, tq, J1, H11, e1, I11, T1, st11, f11, W1, ⟨m1, w1⟩, turn1⟩ := h11
        subst e1
        have stat1 : ∀ {H' : Hp}, (∀ b ∈ fq, H' b = none) → ∀ b ∈ fq, FpOk (X.blk s3 H3 sc ce fp) ([] ++ pinsAt fp s7.heap) H' b := fun hn b hb => ⟨hn b hb, (f11 b hb).2⟩
        let Ji : Nat → Shared → Prop := fun k s' => ∃ j H', L2.Inv (X.blk s3 H3 sc ce fp) ([] ++ pinsAt fp s7.heap) (wipe σ8 vs1) H' s' ∧ tq j s'.heap ∧ (∀ b ∈ fq, H' b = none) ∧ W1 j k H'
        have inner : codeAny (model X.prog X.w) X.A (.compLoop (sc2E el ta ia ea tb ib eb sc pos) 1 (.ref jt) (.ref D) ce) (fun r s' => match r with
              | .ok _ => ∃ m, m < n ∧ Jo m s'
              | .error _ => False) s11 := by
          refine loop2i Ji ?_ m1 ⟨0, H11, I11.weak (wipe_length _ _) (fun j v e => (wipe_some e).1), st11, fun b hb => (f11 b hb).1, w1⟩
          rintro k s12 ⟨j, H12, I12, st12, n12, w12⟩
          rcases turn1 j k H12 w12 with ⟨stop1, nx1⟩ | ⟨go1, Ny, hNy, step1⟩
          · refine thnF (T1.done (X.blk s3 H3 sc ce fp) rfl rfl rfl hc j _ s12 (wipe σ8 vs1) H12 (fun _ _ => False) I12 (stat1 n12) st12 stop1) fun r s13 ⟨hr, I13⟩ => ?_
            subst hr
            exact back I13 (l8.trans (wipe_length σ8 vs1).symm) (fun j v e => (k8 j v e).2) nx1
          · refine thnF (T1.item (X.blk s3 H3 sc ce fp) rfl rfl rfl hc j _ s12 (wipe σ8 vs1) H12 (fun _ _ => False) I12 (stat1 n12) st12 go1) fun r s13 ⟨u1, hr, h13⟩ => ?_
            subst hr
            refine thnF h13 fun _ s14 ⟨x1, H14, I14, r14, y14, st14, n14⟩ => ?_
            have I14p := I14.pinned (stat1 n14) (T1.obj _ _ st14)
            refine thnF (qg.run _ s14 (wipe σ8 vs1) H14 x1 u1 _ I14p r14 (step1 x1 H14 y14)) fun _ s15 ⟨σ15, H15, I15, hw15, q15⟩ => ?_
            refine thnF (qt.run _ s15 σ15 H15 _ I15 q15) fun b1 s16 ⟨H16, I16, q16⟩ => ?_
            have back1 : ∀ {s' : Shared} {H' : Hp}, L2.Inv (X.blk s3 H3 sc ce fp) (([] ++ pinsAt fp s7.heap) ++ pinsAt fq s14.heap) σ15 H' s' → Ny H' → ∃ m, m < k ∧ Ji m s' := fun {s' H'} I' nx => by
              obtain ⟨m2, hm, w2⟩ := hNy H' nx
              have pin : ∀ b ∈ fq, ∀ o, s14.heap.get? b = some o → s'.heap.get? b = some o ∧ H' b = none := fun b hb o e =>
                let z := I'.pin (b, o) (List.mem_append_right _ (List.mem_append_right _ (mem_pinsAt hb e)))
                ⟨z.1, z.2.1⟩
              refine ⟨m2, hm, j + 1, H', I'.unpinned.weak (by rw [← hw15, wipe_length]) (fun j v e => by rw [← hw15] at e; exact (wipe_some e).1), T1.keep _ _ _ st14 fun b hb o e => (pin b hb o e).1, fun b hb => ?_, w2⟩
              obtain ⟨o, e, _⟩ := T1.obj _ _ st14 b hb
              exact (pin b hb o e).2
            cases b1 with
            | false =>
              simp only [Bool.false_eq_true, if_false] at q16 ⊢
              exact back1 I16 q16
            | true =>
              simp only [if_true] at q16 ⊢
              refine thnF (pe.run _ s16 σ15 H16 _ I16 q16) fun z s17 ⟨yv, H17, I17, r17, c, S, nn, ey, hD17, hz17, nx⟩ => ?_
              subst ey
              exact addI (X := X.blk s3 H3 sc ce fp) I17 hD17 hz17 r17 fun s18 I18 => back1 I18 nx
        exact start2 (.inr rfl) inner (T1.self X.A 0 _ _ _ st11 inner)
  exact start2 (.inl rfl) main (T.self X.A 0 _ _ _ st4 main)
end
end RL
/-! The same rules with the written part by its name, for use within a comprehension. -/
namespace RL
open PySem PySem.Spec PyProof.Rows L2
section
variable {X : Cx} {K : PySem.W.Frag}
theorem ixL (h : X.K = K := by rfl) : IxR X (rIxL K) := h ▸ ix_list
theorem ixS (h : X.K = K := by rfl) : IxR X (rIx K) := h ▸ ix_seq
theorem ixT (h : X.K = K := by rfl) : IxR X (rIxT K) := h ▸ ix_tup
theorem inSq (h : X.K = K := by rfl) : OpR X (compareOp .In) (rIn K false) := h ▸ op_in_seq
theorem neD (hu : X.A.units + 64 < cLine) (h : X.K = K := by rfl) : OpR X (compareOp .NotEq) (rNeD K) := h ▸ op_neD hu
theorem eqD (hu : X.A.units + 64 < cLine) (h : X.K = K := by rfl) : OpR X (compareOp .Eq) (rEqD K) := h ▸ op_eqD hu
def rLenK (K : PySem.W.Frag) : List V → Hp → VK → Prop := fun xs H Q => ∃ p ys, xs = [.ref p] ∧ (SqL K H p ys ∨ SqT K H p ys) ∧ Q (.int ys.length) H
theorem lenK (h : X.K = K := by rfl) : CallR X (.builtin "len") (rLenK K) := h ▸ call_len_seq
def rListK (K : PySem.W.Frag) : List V → Hp → VK → Prop := fun xs H Q => ∃ p ys, xs = [.ref p] ∧ (SqL K H p ys ∨ SqT K H p ys) ∧ ∀ l, H l = none → Q (.ref l) (upd H l (.lst ys))
theorem listK (h : X.K = K := by rfl) : CallR X (.type "list") (rListK K) := h ▸ call_list_of
def rTupK (K : PySem.W.Frag) : List V → Hp → VK → Prop := fun xs H Q => ∃ p ys, xs = [.ref p] ∧ ((SqL K H p ys ∧ ∀ l, H l = none → Q (.ref l) (upd H l (.tup ys))) ∨ (SqT K H p ys ∧ Q (.ref p) H))
theorem tupK (h : X.K = K := by rfl) : CallR X (.type "tuple") (rTupK K) := h ▸ call_tuple_of
theorem isiK (h : X.K = K := by rfl) : CallR X (.builtin "isinstance") (rIsi K) := h ▸ call_isi
theorem anyK (hc : X.calm = true := by rfl) (h : X.K = K := by rfl) : CallR X (.builtin "any") (rAny K) := h ▸ cr_any hc
theorem allK (hc : X.calm = true := by rfl) (h : X.K = K := by rfl) : CallR X (.builtin "all") (rAll K) := h ▸ cr_all hc
theorem slL (h : X.K = K := by rfl) : SlR X (rSlL K) := h ▸ sl_list
theorem sortTK (h : X.K = K := by rfl) : CallR X (.builtin "sorted") (rSortT K) := h ▸ cr_sortTup
theorem sortLK (h : X.K = K := by rfl) : CallR X (.builtin "sorted") (rSorted K) := h ▸ cr_sorted
theorem setTK {w : World} (hc : X.calm = true := by rfl) (hw : X.w = w := by rfl) (h : X.K = K := by rfl) : CallR X (.type "set") (rSetT w K) := hw ▸ h ▸ cr_setT hc
theorem sortS {w : World} (hc : X.calm = true := by rfl) (hw : X.w = w := by rfl) : CallR X (.builtin "sorted") (rSortedSet w) := hw ▸ cr_sortedSet hc
theorem tupIxK (h : X.K = K := by rfl) : MtR X "tuple.index" (rTupIx K) := h ▸ mt_tupIx
theorem repTK (h : X.K = K := by rfl) : OpR X (binaryOp .Mult) (rRepT1 K) := h ▸ op_repT1
theorem fldK {e : Expr} {ta : TE} {f : Str} {pos : Pos} (he : PE X e ta) (hb : attributeBase e f X.env (eval e X.env) = eval e X.env) (h : X.K = K := by rfl) : PE X (.Attribute e f pos) (tFld K ta f) := h ▸ pe_fld he hb
theorem piEnum {e : Expr} {ta : TA} {p pos tpos : Pos} {elts : List Expr} {kk : Nat} (hg : Gl X "enumerate") (hm : X.mg "enumerate" = none) (ha : PA X [e] ta) (hs : starEach [e] X.env = [(false, eval e X.env)] := by rfl) (h : X.K = K := by rfl) :
    PI X (.Tuple elts kk tpos) (.Call (.Name "enumerate" p) [e] [] pos) (iEnum K ta) := h ▸ pi_enum hg hm ha hs
theorem piEnumT {e : Expr} {ta : TA} {p pos tpos : Pos} {elts : List Expr} {kk : Nat} (hg : Gl X "enumerate") (hm : X.mg "enumerate" = none) (ha : PA X [e] ta) (hs : starEach [e] X.env = [(false, eval e X.env)] := by rfl) (h : X.K = K := by rfl) :
    PI X (.Tuple elts kk tpos) (.Call (.Name "enumerate" p) [e] [] pos) (iEnumT K ta) := h ▸ pi_enumT hg hm ha hs
theorem piL {tg l : Expr} {tl : TE} (hl : PE X l tl) (h : X.K = K := by rfl) : PI X tg l (iList K tl) := h ▸ pi_list hl
theorem piT {tg l : Expr} {tl : TE} (hl : PE X l tl) (h : X.K = K := by rfl) : PI X tg l (iTup K tl) := h ▸ pi_tup hl
theorem pgT {es : List Expr} {k : Nat} {t : TGs} {n : Nat} {pos : Pos} (hc : X.calm = true) (ht : PGs X es t) (hn : (assignEach es X.env).length = n := by rfl) (hst : (assignEach es X.env).findIdx? (·.1) = none := by rfl) (h : X.K = K := by rfl) : PG X (.Tuple es k pos) (gTup K n t) := h ▸ pg_tup hc ht hn hst
theorem bmK {T id : String} {name : Str} {r : V → List V → Hp → VK → Prop} {o e : Expr} {es : List Expr} {to : TE} {t : TA} {apos cpos : Pos} (pa : PlainAttrs T) (slot : Slot T name id) (hty : typeOf (.builtin id) = pure (.type "method_descriptor")) (hm : MtR X id r) (ho : PE X o to) (ha : PA X (e :: es) t)
    (hbase : attributeBase o name X.env (eval o X.env) = eval o X.env := by rfl)
    (hfew : ((backTo cpos (starEach (e :: es) X.env)).all (fun x => !x.1) && (backToKw cpos (keywordEach [] X.env)).all (fun x => x.1.isSome) && decide ((e :: es).length + ([] : List Keyword).length + (if ([] : List Keyword).isEmpty then 0 else 1) < 30)) = true := by rfl)
    (hline : (apos.endLine == cpos.line) = true := by rfl) (hs : starEach (e :: es) X.env = (false, eval e X.env) :: starEach es X.env := by rfl) (hplain : (backTo cpos (starEach es X.env)).any (·.1) = false := by rfl) (h : X.K = K := by rfl) :
    PE X (.Call (.Attribute o name apos) (e :: es) [] cpos) (tBM K T r to t) := h ▸ pe_bm pa slot hty hm ho ha hbase hfew hline hs hplain
end
end RL
/-! Sets of tuples of ints: set(), add, in. -/
namespace RL
open PySem PySem.Spec PyProof.Rows L2
section
variable {P : Program} {w : World} {A : Around} {E : Value → Shared → Prop} {s : Shared} {a : Addr} {L : List (Addr × List Int)} {es : Array (Int × Value)} {ep : Nat} {t : SetTable}
/-- the probe's stand at its c-th step -/
abbrev stAt (P : Program) (w : World) (t : SetTable) (k : List Int) (c : Nat) : SetTable.Probe := nth t.mask (runAt t.mask (SetTable.bits (thash P w k) % (t.mask + 1)) (SetTable.bits (thash P w k))) c
theorem stAt_dummy (k : List Int) (c : Nat) : (stAt P w t k c).dummy = none := by
  have key : ∀ (n : Nat) (p : SetTable.Probe), p.dummy = none → (nth t.mask p n).dummy = none := by
    intro n
    induction n with
    | zero => exact fun _ z => z
    | succ n ih =>
      intro p z
      refine ih (adv t.mask p) ?_
      unfold adv
      split <;> exact z
  exact key c _ rfl
theorem find_from (R : SetTR P w s.heap a L es ep t) {x : Addr} {k : List Int} (hx : IsT P w s.heap k x) (hu : A.units < cLine) {M : Nat} (hMf : M < 10 * SetTable.turns t.mask)
    (hM : way t.mask (thash P w k) M ∉ t.place.toList) (hMb : ∀ c, c < M → way t.mask (thash P w k) c ∈ t.place.toList) {Q : SetFound → Shared → Prop}
    (yes : ∀ i, k ∈ L.map (·.2) → Q (.there (some i)) s) (no : k ∉ L.map (·.2) → Q (.free (way t.mask (thash P w k) M) false) s) :
    ∀ (f c : Nat) (st : Option SetTable.Probe), st.getD (t.probeStart (thash P w k)) = stAt P w t k c → c ≤ M → M - c < f →
      (∀ (i : Nat) p, L[i]? = some p → p.2 = k → ∃ d, c ≤ d ∧ d < M ∧ t.place.toList[i]? = some (way t.mask (thash P w k) d)) →
      wpAny (model P w) A (setSearchFrom a (.ref x) (thash P w k) false f st) Q E s
  | 0, c, st, _, _, hf, _ => absurd hf (Nat.not_lt_zero _)
  | f + 1, c, st, hst, hcM, hf, ahead => by
    obtain ⟨o, ho, hex, hd⟩ := R.ob
    rw [setSearchFrom_succ]
    refine wpAny_bind (wpAny_setState_of ho hd R.fits ?_)
    dsimp only
    refine wp_if_neg R.gw ?_
    try refine wpAny_bind (wpAny_pure ?_)
    have sh : ∀ q, nth t.mask (stAt P w t k c) q = stAt P w t k (c + q) := fun q => (nth_add t.mask c _ q).symm
    have jj : ∀ q, (nth t.mask (stAt P w t k c) q).j = way t.mask (thash P w k) (c + q) := fun q => congrArg SetTable.Probe.j (sh q)
    have cM : c + (M - c) = M := by omega
    have spec := go_spec t R.tab.ris R.tab.dm (fun i => (es[i]?.map (·.1)).getD 0) (thash P w k) (10 * SetTable.turns t.mask) (M - c) _ (stAt_dummy k c) (by omega)
      (fun q hq => by rw [jj]; exact hMb (c + q) (by omega)) (by rw [jj, cM]; exact hM)
    have hashAt : ∀ (i : Nat) p, L[i]? = some p → (fun i => (es[i]?.map (·.1)).getD 0) i = thash P w p.2 := fun i p hp => by
      show (es[i]?.map (·.1)).getD 0 = _
      rw [R.entry hp]
      rfl
    rcases spec with ⟨q, i, hq, hi, hh, free, pr⟩ | ⟨free, pr⟩
    · have pr1 : t.probe (fun i => (es[i]?.map (·.1)).getD 0) (thash P w k) (st.getD (t.probeStart (thash P w k))) = some (.candidate (way t.mask (thash P w k) (c + q)) i (stAt P w t k (c + (q + 1)))) := by
        rw [hst, ← jj, ← sh]
        exact pr
      rw [pr1]
      dsimp only
      rw [jj] at hi
      have il : i < L.length := by
        have l1 : i < t.place.toList.length := (List.getElem?_eq_some_iff.mp hi).1
        have l2 := R.tab.sz
        rw [List.length_map] at l2
        rw [Array.length_toList] at l1
        omega
      obtain ⟨p, hp⟩ : ∃ p, L[i]? = some p := ⟨_, List.getElem?_eq_getElem il⟩
      have mp : p ∈ L := List.mem_of_getElem? hp
      have live : t.slot (way t.mask (thash P w k) (c + q)) = .live i := slot_live R.tab.ris hi
      have rest : wpAny (model P w) A (searchRest a (.ref x) (thash P w k) false f es t (way t.mask (thash P w k) (c + q)) i (stAt P w t k (c + (q + 1)))) Q E s := by
        unfold searchRest
        rw [R.entry hp]
        dsimp only
        refine wpAny_bind (wpAny_holding (wpAny_eqBool_tuple hu (R.tup p mp) hx ?_))
        refine wpAny_bind (wpAny_setState_of ho hd R.fits ?_)
        dsimp only
        refine wp_if_neg (by simp) ?_
        try refine wpAny_bind (wpAny_pure ?_)
        rw [sameMem]
        dsimp only
        simp only [if_true, live, R.entry hp]
        refine wpAny_bind (wpAny_isSame_ref_self (wpAny_bind (wpAny_pure ?_)))
        simp only [if_true]
        by_cases e : p.2 = k
        · refine wp_if_pos (by simp [e]) ?_
          exact wpAny_pure (yes i (List.mem_map.mpr ⟨p, mp, e⟩))
        · refine wp_if_neg (by simp [e]) ?_
          refine find_from R hx hu hMf hM hMb yes no f (c + (q + 1)) _ rfl (by omega) (by omega) fun i0 p0 h0 k0 => ?_
          obtain ⟨d, d1, d2, d3⟩ := ahead i0 p0 h0 k0
          refine ⟨d, ?_, d2, d3⟩
          have ne : d ≠ c + q := fun z => by
            rw [z] at d3
            have l0 := slot_live R.tab.ris d3
            rw [live] at l0
            injection l0 with l0
            rw [← l0, hp] at h0
            exact e ((congrArg Prod.snd (Option.some.inj h0)).trans k0)
          have ge : ¬ d < c + q := fun z => by
            refine free (d - c) i0 (by omega) (by rw [jj, show c + (d - c) = d by omega]; exact d3) ?_
            exact (hashAt i0 p0 h0).trans (congrArg (thash P w) k0)
          omega
      by_cases led : t.led = true
      · refine wp_if_neg (by simp [led]) ?_
        try refine wpAny_bind (wpAny_pure ?_)
        exact rest
      · refine wp_if_pos (by simp [led]) ?_
        refine wpAny_bind (seen_tup hx (fun y hy => ?_) ?_)
        · obtain ⟨e, he, ee⟩ := List.mem_map.mp hy
          have e1 : e ∈ es ∧ e.1 = thash P w k := by simpa using he
          have e2 : e ∈ es.toList := by simpa using e1.1
          rw [R.rows] at e2
          obtain ⟨p2, hp2, e3⟩ := List.mem_map.mp e2
          exact ⟨p2.2, p2.1, by rw [← ee, ← e3], R.tup p2 hp2⟩
        · refine wp_if_neg (by decide) ?_
          try refine wpAny_bind (wpAny_pure ?_)
          exact rest
    · have pr1 : t.probe (fun i => (es[i]?.map (·.1)).getD 0) (thash P w k) (st.getD (t.probeStart (thash P w k))) = some (.empty (way t.mask (thash P w k) M) none) := by
        have e2 : way t.mask (thash P w k) M = (nth t.mask (stAt P w t k c) (M - c)).j := by rw [jj, cM]
        rw [hst, e2]
        exact pr
      rw [pr1]
      dsimp only
      refine wpAny_pure (no fun hm => ?_)
      obtain ⟨p0, h0, k0⟩ := List.mem_map.mp hm
      obtain ⟨i0, hi0, e0⟩ := List.getElem_of_mem h0
      have h00 : L[i0]? = some p0 := by rw [List.getElem?_eq_getElem hi0, e0]
      obtain ⟨d, d1, d2, d3⟩ := ahead i0 p0 h00 k0
      refine free (d - c) i0 (by omega) (by rw [jj, show c + (d - c) = d by omega]; exact d3) ?_
      exact (hashAt i0 p0 h00).trans (congrArg (thash P w) k0)
theorem find_at (R : SetTR P w s.heap a L es ep t) {x : Addr} {k : List Int} (hx : IsT P w s.heap k x) (hu : A.units < cLine) {Q : Option Nat → Shared → Prop} (h : ∀ r : Option Nat, r.isSome = decide (k ∈ L.map (·.2)) → Q r s) :
    wpAny (model P w) A (setFind a (.ref x) (thash P w k)) Q E s := by
  have room := R.room
  obtain ⟨M, hMf, hM, hMb⟩ := R.tab.first (by rw [List.length_map]; omega) (thash P w k)
  have big : M < 100000 := by
    have : 10 * SetTable.turns t.mask ≤ 1420 := by
      unfold SetTable.turns
      rcases R.tab.mok with e | e | e <;> omega
    omega
  obtain ⟨o, ho, hex, hd⟩ := R.ob
  unfold setFind setFindIn
  refine wpAny_bind (wpAny_setState_of ho hd R.fits ?_)
  dsimp only
  have bs : byScan (.ref x) es = false := by rfl
  rw [bs]
  simp only [Bool.false_eq_true, if_false]
  unfold setSearch
  refine wpAny_bind (find_from R hx hu hMf hM hMb (fun i hm => wpAny_pure (h _ (by simp [hm]))) (fun hm => wpAny_pure (h _ (by simp [hm]))) 100000 0 none rfl (Nat.zero_le _) (by omega) fun i p hp hk => ?_)
  have hi : (L.map fun p => thash P w p.2)[i]? = some (thash P w k) := by
    rw [List.getElem?_map, hp, ← hk]
    rfl
  have il : i < t.place.toList.length := by
    have h1 : i < L.length := (List.getElem?_eq_some_iff.mp hp).1
    have h2 := R.tab.sz
    rw [List.length_map] at h2
    rw [Array.length_toList]
    omega
  have hj := List.getElem?_eq_getElem il
  obtain ⟨c, hc, e⟩ := R.tab.before hM hi hj
  exact ⟨c, Nat.zero_le _, hc, by rw [hj, e]⟩
end
section
variable {X : Cx} {K : PySem.W.Frag} {P : Program} {w : World}
/-- the set's tuples stand -/
def TupsAt (K : PySem.W.Frag) (H : Hp) (L : List (Addr × List Int)) : Prop := ∀ p ∈ L, SqT K H p.1 (p.2.map V.int)
theorem setTR_of {pins : List (Addr × Obj)} {σ : L2.St} {H : Hp} {s : Shared} {a : Addr} {L : List (Addr × List Int)} (I : L2.Inv X pins σ H s) (ha : H a = some (SetTO X.prog X.w a L)) (ht : TupsAt X.K H L) : ∃ es ep t, SetTR X.prog X.w s.heap a L es ep t :=
  SetT0.full (I.hok a _ ha).1 fun p hp => I.isT (ht p hp)
/-- set() that is to hold tuples -/
def rSet0T (P : Program) (w : World) : List V → Hp → VK → Prop := fun xs H Q => xs = [] ∧ ∀ p, H p = none → Q (.ref p) (upd H p (SetTO P w p []))
theorem set0T (hP : X.prog = P := by rfl) (hw : X.w = w := by rfl) : CallR X (.type "set") (rSet0T P w) := by
  subst hP hw
  intro pins s σ H xs us Q I r h
  obtain ⟨rfl, q⟩ := h
  cases r
  refine setR_new fun _ => ?_
  exact ⟨.ref _, _, I.laid (t' := s.toks) (fun b u e => Heap.get?_push_of_some _ e) (Nat.le_refl _) (setTO_new (setTR_fresh (Heap.get?_push_size _ rfl)).t0), rfl, q _ (I.hok.fresh (Nat.le_refl _))⟩
/-- t in seen -/
def rInT (K : PySem.W.Frag) (P : Program) (w : World) : R2 := fun x y H Q => ∃ (b a : Addr) (k : List Int) (L : List (Addr × List Int)), x = .ref b ∧ y = .ref a ∧ SqT K H b (k.map V.int) ∧ H a = some (SetTO P w a L) ∧ TupsAt K H L ∧ Q (.bl (decide (k ∈ L.map (·.2)))) H
theorem inT (hu : X.A.units + 64 < cLine) (hK : X.K = K := by rfl) (hP : X.prog = P := by rfl) (hw : X.w = w := by rfl) : OpR X (compareOp .In) (rInT K P w) := by
  subst hK hP hw
  intro pins s σ H x y v u Q I rx ry h
  obtain ⟨b, a, k, L, rfl, rfl, hb, ha, ht, q⟩ := h
  cases rx
  cases ry
  obtain ⟨es, ep, t, R⟩ := setTR_of I ha ht
  have hx := I.isT hb
  obtain ⟨o, ho, hex, hd⟩ := R.ob
  have ty : s.TypeIs (.ref a) "set" := ⟨o, ho, hex.1⟩
  show wpAny _ _ (do return Value.bool (← contains (.ref a) (.ref b))) _ _ s
  refine wpAny_bind ?_
  unfold contains
  try with_reducible refine wpAny_holding ?_
  refine wpAny_bind (wpAny_specialOf ty F.slot_set_contains.lookup ?_)
  show wpAny _ _ (if (some (Value.builtin "set.__contains__") == some Value.none) = true then _ else _) _ _ s
  rw [if_neg (by rw [beq_builtin_none]; exact Bool.false_ne_true)]
  refine wpAny_bind (wpAny_callSpecialUnlessNone?_slot (name := Str.ofString "__contains__") ty F.slot_set_contains
    (wpAny_call_entry F.slot_set_contains ty entry_set_contains ?_ (F.args_set_contains_2 _ _)))
  unfold Builtin.«frozenset.__contains__» Builtin.Frozenset.oneOther
  simp only [List.isEmpty_nil, bind_assoc]
  unfold Builtin.Frozenset.addrOf Builtin.Frozenset.withSetAsKey setContains
  refine wpAny_bind (wpAny_pure ?_)
  try dsimp only
  refine wpAny_bind (wpAny_pure ?_)
  try dsimp only
  refine wpAny_bind (wpAny_tryCatch ?_)
  refine wpAny_holding ?_
  have hu2 : X.A.in1.units < cLine := by
    show X.A.units + 1 < cLine
    omega
  refine wpAny_bind (wpAny_pyHash_tuple (by simpa using hu2) hx ?_)
  refine wpAny_bind (find_at (s := { s with toks := s.toks + (k.length + 1) }) R hx (by simpa using hu2) fun r hr => ?_)
  refine wpAny_pure ?_
  show wpAny _ _ (ret (Value.bool r.isSome)) _ _ _
  rw [hr]
  exact wpAny_pure ⟨_, rfl, wpAny_truthy_bool (wpAny_pure ⟨.bl _, H, I.tok _, rfl, q⟩)⟩
/-- seen.add(t) -/
def rAddT (K : PySem.W.Frag) (P : Program) (w : World) : V → List V → Hp → VK → Prop := fun x xs H Q => ∃ (a b : Addr) (k : List Int) (L : List (Addr × List Int)), x = .ref a ∧ xs = [.ref b] ∧ SqT K H b (k.map V.int) ∧ H a = some (SetTO P w a L) ∧ TupsAt K H L ∧ L.length < 63 ∧ k ∉ L.map (·.2) ∧
  ∀ L', L'.Perm ((b, k) :: L) → Q .non (upd H a (SetTO P w a L'))
def tAddT (K : PySem.W.Frag) (P : Program) (w : World) (to : TE) (t : TA) : TE := fun σ H Q => to σ H fun x H1 => (∃ a L, x = V.ref a ∧ H1 a = some (SetTO P w a L)) ∧ t σ H1 fun xs H2 => rAddT K P w x xs H2 Q
theorem addT (hu : X.A.units + 64 < cLine) (hK : X.K = K) (hP : X.prog = P) (hw : X.w = w) : MtR X "set.add" (rAddT K P w) := by
  subst hK hP hw
  intro pins s σ H x xs v us Q I rx rxs h
  obtain ⟨a, b, k, L, rfl, rfl, hb, ha, ht, few, nin, q⟩ := h
  cases rx
  rw [Vals.ref1 rxs]
  obtain ⟨es, ep, t, R⟩ := setTR_of I ha ht
  have hx := I.isT hb
  obtain ⟨o, ho, hex, hd⟩ := R.ob
  have ty : s.TypeIs (.ref a) "set" := ⟨o, ho, hex.1⟩
  refine wpAny_call_entry F.slot_set_add ty F.entry_set_add ?_ (F.args_set_add_2 _ _)
  unfold Builtin.«set.add» Builtin.Frozenset.oneOther
  simp only [List.isEmpty_nil, bind_assoc]
  unfold Builtin.Frozenset.addrOf setAdd
  refine wpAny_bind (wpAny_pure ?_)
  try dsimp only
  refine wpAny_bind (wpAny_pure ?_)
  try dsimp only
  have hu2 : X.A.in1.units < cLine := by
    show X.A.units + 1 < cLine
    omega
  refine wpAny_bind (wpAny_holding (wpAny_bind (wpAny_pyHash_tuple hu2 hx ?_)))
  refine add_at (s := { s with toks := s.toks + (k.length + 1) }) R hx hu2 (by omega) fun fl h1 L' es' ep' t' sb R' _ c2 => ?_
  show wpAny _ _ (ret Value.none) _ _ _
  have ex : ∃ u, h1.get? a = some u := by
    obtain ⟨o', ho', _⟩ := R'.ob
    exact ⟨o', ho'⟩
  refine wpAny_pure ⟨_, rfl, ?_⟩
  exact ⟨.non, _, I.write (e := a) (t' := s.toks + (k.length + 1)) (by rw [ha]; trivial) (.inl rfl) (fun c u hc hu => (sb.2 c hc).trans hu) ex (setTO_new R'.t0), rfl, q L' (c2 nin)⟩
theorem pe_addT {o e : Expr} {es : List Expr} {to : TE} {t : TA} {apos cpos : Pos} (hu : X.A.units + 64 < cLine) (ho : PE X o to) (ha : PA X (e :: es) t)
    (hbase : attributeBase o "add" X.env (eval o X.env) = eval o X.env := by rfl)
    (hfew : ((backTo cpos (starEach (e :: es) X.env)).all (fun x => !x.1) && (backToKw cpos (keywordEach [] X.env)).all (fun x => x.1.isSome) && decide ((e :: es).length + ([] : List Keyword).length + (if ([] : List Keyword).isEmpty then 0 else 1) < 30)) = true := by rfl)
    (hline : (apos.endLine == cpos.line) = true := by rfl) (hs : starEach (e :: es) X.env = (false, eval e X.env) :: starEach es X.env := by rfl) (hplain : (backTo cpos (starEach es X.env)).any (·.1) = false := by rfl) (hK : X.K = K := by rfl) (hP : X.prog = P := by rfl) (hw : X.w = w := by rfl) :
    PE X (.Call (.Attribute o "add" apos) (e :: es) [] cpos) (tAddT K P w to t) := by
  refine ⟨fun pins s σ H Q I h => ?_⟩
  refine wpAny_Call_method_late hbase hfew hline rfl (thn (ho.run pins s σ H _ I h) fun v s1 ⟨x, H1, I1, r1, ty, q1⟩ => ?_)
  obtain ⟨a, L, rfl, hka⟩ := ty
  cases r1
  subst hP hw
  obtain ⟨es1, ep1, t1, ⟨ob, hob, hex, hd⟩, _⟩ := SetT0.ex (I1.hok a _ hka).1
  refine ⟨"set", "set.add", F.plainAttrs_set, F.slot_set_add, F.type_set_add, ⟨ob, hob, hex.1⟩, fun b z => by injection z with z; subst z; exact ⟨ob, hob, hex.2.1⟩, ?_⟩
  have hA := ha.run cpos pins s1 σ H1 _ I1 q1
  rw [hs] at hA ⊢
  refine Calls.callWith_builtin (by show (false || (backTo cpos (starEach es X.env)).any (·.1)) = false; rw [hplain]; rfl) (Calls.evalArgs_plain ?_)
  exact thn hA fun us s2 ⟨vs, H2, I2, r2, q2⟩ => addT hu hK rfl rfl pins s2 σ H2 (.ref a) vs (.ref a) us Q I2 rfl r2 q2
theorem sortSetT (hc : X.calm = true := by rfl) (hK : X.K = K := by rfl) (hP : X.prog = P := by rfl) (hw : X.w = w := by rfl) : CallR X (.builtin "sorted") (rSortedT K P w) := by
  subst hK hP hw
  exact cr_sortedT hc
end
end RL
/-! What stands in the heap: numbers, lots, boards, the law's box. -/
namespace RL
open PySem PySem.Spec PyProof.Rows L2 RLM
def vI (k : Nat) : V := .int (k : Nat)
def vO : Option Nat → V
  | none => .non
  | some k => .int (k : Nat)
/-- all but the list at c and dicts stay -/
def Kc (c : Addr) (H H' : Hp) : Prop := ∀ a o, a ≠ c → (∀ kvs, o ≠ .dK kvs) → H a = some o → H' a = some o
theorem Kc.refl (c : Addr) (H : Hp) : Kc c H H := fun _ _ _ _ h => h
theorem Kc.trans {c : Addr} {H H1 H2 : Hp} (a : Kc c H H1) (b : Kc c H1 H2) : Kc c H H2 := fun x o h1 h2 h => b x o h1 h2 (a x o h1 h2 h)
theorem kc_same {c : Addr} {H H' : Hp} (s : Same H H') : Kc c H H' := fun x o _ _ h => s x o h
theorem same_upd {H : Hp} {p : Addr} {o : HO} (h : H p = none) : Same H (upd H p o) := fun b u e => by
  rw [upd_ne (ne_of_none e h)]
  exact e
/-- an object that H does not know may change -/
theorem same_mut {H H' : Hp} {p : Addr} {o : HO} (s : Same H H') (h : H p = none) : Same H (upd H' p o) := fun b u e => by
  rw [upd_ne (ne_of_none e h)]
  exact s b u e
theorem Kc.upd {c : Addr} {H H' : Hp} {p : Addr} {o : HO} (s : Kc c H H') (h : H p = none) : Kc c H (L2.upd H' p o) := fun b u h1 h2 e => by
  rw [upd_ne (ne_of_none e h)]
  exact s b u h1 h2 e
theorem Kc.tup {c : Addr} {H H' : Hp} {a : Addr} {xs : List V} (k : Kc c H H') (hc : ∃ ys, H c = some (.lst ys)) (h : H a = some (.tup xs)) : H' a = some (.tup xs) := by
  refine k a _ (fun e => ?_) (fun kvs z => by cases z) h
  obtain ⟨ys, hc⟩ := hc
  rw [e, hc] at h
  cases h
/-- a list of pairs: where each stands, and what it is -/
structure PairsAt (c : Addr) (H : Hp) (l : Addr) (L : List (Addr × Nat × Nat)) : Prop where
  at_ : H l = some (.lst (L.map fun q => V.ref q.1))
  ne : l ≠ c
  tup : ∀ q ∈ L, H q.1 = some (.tup [vI q.2.1, vI q.2.2])
theorem PairsAt.keep {c : Addr} {H H' : Hp} {l : Addr} {L : List (Addr × Nat × Nat)} (k : Kc c H H') (hc : ∃ ys, H c = some (.lst ys)) (h : PairsAt c H l L) : PairsAt c H' l L :=
  ⟨k _ _ h.ne (fun _ z => by cases z) h.at_, h.ne, fun q hq => k.tup hc (h.tup q hq)⟩
theorem PairsAt.same {c : Addr} {H H' : Hp} {l : Addr} {L : List (Addr × Nat × Nat)} (k : Same H H') (h : PairsAt c H l L) : PairsAt c H' l L :=
  ⟨k _ _ h.at_, h.ne, fun q hq => k _ _ (h.tup q hq)⟩
/-- a board's attributes -/
def bf (n : Nat) (lp ll lf : Addr) : List (Str × V) := putF "fars" (.ref lf) (putF "leads" (.ref ll) (putF "pairs" (.ref lp) (putF "many" (.int (n : Nat)) [])))
structure BoardAt (K : PySem.W.Frag) (c : Addr) (H : Hp) (x : Addr) (n : Nat) (E : List (Nat × Nat)) : Prop where
  ex : ∃ (dx lp ll lf : Addr) (L : List (Addr × Nat × Nat)) (ls : List V) (F : List (Addr × List (Option Nat))), H x = some (.ins (cB K) dx (bf n lp ll lf)) ∧ PairsAt c H lp L ∧ L.map (·.2) = E ∧
    H ll = some (.lst ls) ∧ ll ≠ c ∧ ls.length = n ∧ H lf = some (.lst (F.map fun q => V.ref q.1)) ∧ lf ≠ c ∧ F.length = n ∧ ∀ (a : Nat) (q : Addr × List (Option Nat)), F[a]? = some q → H q.1 = some (.lst (q.2.map vO)) ∧ q.1 ≠ c ∧ Fars n E a q.2
  lo : 1 ≤ n
  hi : n ≤ 8
  on : On n E
  nd : E.Nodup
theorem BoardAt.keep {K : PySem.W.Frag} {c : Addr} {H H' : Hp} {x : Addr} {n : Nat} {E : List (Nat × Nat)} (k : Kc c H H') (hc : ∃ ys, H c = some (.lst ys)) (h : BoardAt K c H x n E) : BoardAt K c H' x n E := by
  obtain ⟨dx, lp, ll, lf, L, ls, F, h1, h2, h3, h4, h5, h6, h7, h8, h9, h10⟩ := h.ex
  refine ⟨⟨dx, lp, ll, lf, L, ls, F, ?_, h2.keep k hc, h3, k _ _ h5 (fun _ z => by cases z) h4, h5, h6, k _ _ h8 (fun _ z => by cases z) h7, h8, h9, fun a q e => ?_⟩, h.lo, h.hi, h.on, h.nd⟩
  · refine k _ _ (fun e => ?_) (fun _ z => by cases z) h1
    obtain ⟨ys, hc⟩ := hc
    rw [e, hc] at h1
    cases h1
  · obtain ⟨q1, q2, q3⟩ := h10 a q e
    exact ⟨k _ _ q2 (fun _ z => by cases z) q1, q2, q3⟩
theorem BoardAt.same {K : PySem.W.Frag} {c : Addr} {H H' : Hp} {x : Addr} {n : Nat} {E : List (Nat × Nat)} (k : Same H H') (h : BoardAt K c H x n E) : BoardAt K c H' x n E := by
  obtain ⟨dx, lp, ll, lf, L, ls, F, h1, h2, h3, h4, h5, h6, h7, h8, h9, h10⟩ := h.ex
  exact ⟨⟨dx, lp, ll, lf, L, ls, F, k _ _ h1, h2.same k, h3, k _ _ h4, h5, h6, k _ _ h7, h8, h9, fun a q e => ⟨k _ _ (h10 a q e).1, (h10 a q e).2⟩⟩, h.lo, h.hi, h.on, h.nd⟩
theorem BoardAt.obj {K : PySem.W.Frag} {c : Addr} {H : Hp} {x : Addr} {n : Nat} {E : List (Nat × Nat)} (h : BoardAt K c H x n E) : ∃ dx lp ll lf, H x = some (.ins (cB K) dx (bf n lp ll lf)) := by
  obtain ⟨dx, lp, ll, lf, L, ls, F, h1, _⟩ := h.ex
  exact ⟨dx, lp, ll, lf, h1⟩
theorem bf_eq (n : Nat) (lp ll lf : Addr) : bf n lp ll lf = ([("many", .int (n : Nat)), ("pairs", .ref lp), ("leads", .ref ll), ("fars", .ref lf)] : List (Str × V)) := by rfl
theorem bf_many (n : Nat) (lp ll lf : Addr) : (bf n lp ll lf).lookup ("many" : Str) = some (.int (n : Nat)) := by rfl
theorem bf_pairs (n : Nat) (lp ll lf : Addr) : (bf n lp ll lf).lookup ("pairs" : Str) = some (.ref lp) := by rfl
theorem bf_leads (n : Nat) (lp ll lf : Addr) : (bf n lp ll lf).lookup ("leads" : Str) = some (.ref ll) := by rfl
theorem bf_fars (n : Nat) (lp ll lf : Addr) : (bf n lp ll lf).lookup ("fars" : Str) = some (.ref lf) := by rfl
theorem bf_check (n : Nat) (lp ll lf : Addr) : (bf n lp ll lf).lookup ("check_place" : Str) = none := by rfl
theorem bf_within (n : Nat) (lp ll lf : Addr) : (bf n lp ll lf).lookup ("within" : Str) = none := by rfl
theorem bf_turned (n : Nat) (lp ll lf : Addr) : (bf n lp ll lf).lookup ("turned" : Str) = none := by rfl
theorem bf_renamed (n : Nat) (lp ll lf : Addr) : (bf n lp ll lf).lookup ("renamed" : Str) = none := by rfl
/-! ### the law's box -/
def boxK (c : Addr) (r s t : Int) : List (Key × V) := [(Sum.inr "cells", .ref c), (Sum.inr "rest", .int r), (Sum.inr "seed", .int s), (Sum.inr "turn", .int t)]
structure Box (b c : Addr) (H : Hp) : Prop where
  ex : ∃ (ns : List Int) (r s t : Int), H b = some (.dK (boxK c r s t)) ∧ H c = some (.lst (ns.map V.int)) ∧ 0 ≤ r ∧ 0 ≤ s ∧ s < 2147483629 ∧ ns.length ≤ 63
theorem Box.same {b c : Addr} {H H' : Hp} (k : Same H H') (h : Box b c H) : Box b c H' := by
  obtain ⟨ns, r, s, t, h1, h2, h3⟩ := h.ex
  exact ⟨ns, r, s, t, k _ _ h1, k _ _ h2, h3⟩
theorem Box.lst {b c : Addr} {H : Hp} (h : Box b c H) : ∃ ys, H c = some (.lst ys) := by
  obtain ⟨ns, r, s, t, h1, h2, h3⟩ := h.ex
  exact ⟨_, h2⟩
theorem bx_cells (c : Addr) (r s t : Int) : valV (boxK c r s t) (Sum.inr "cells" : Key) = some (.ref c) := by rfl
theorem bx_rest (c : Addr) (r s t : Int) : valV (boxK c r s t) (Sum.inr "rest" : Key) = some (.int r) := by rfl
theorem bx_seed (c : Addr) (r s t : Int) : valV (boxK c r s t) (Sum.inr "seed" : Key) = some (.int s) := by rfl
theorem bx_turn (c : Addr) (r s t : Int) : valV (boxK c r s t) (Sum.inr "turn" : Key) = some (.int t) := by rfl
theorem bx_rest_put (c : Addr) (r s t x : Int) : putK (boxK c r s t) (Sum.inr "rest" : Key) (.int x) = boxK c x s t := by rfl
theorem bx_seed_put (c : Addr) (r s t x : Int) : putK (boxK c r s t) (Sum.inr "seed" : Key) (.int x) = boxK c r x t := by rfl
theorem bx_turn_put (c : Addr) (r s t x : Int) : putK (boxK c r s t) (Sum.inr "turn" : Key) (.int x) = boxK c r s x := by rfl
theorem bg_cells {H : Hp} {b c : Addr} {r s t : Int} (hb : H b = some (.dK (boxK c r s t))) : DGet H b (.str "cells") (some (.ref c)) := DGet.k (k := Sum.inr "cells") hb
theorem bg_rest {H : Hp} {b c : Addr} {r s t : Int} (hb : H b = some (.dK (boxK c r s t))) : DGet H b (.str "rest") (some (.int r)) := DGet.k (k := Sum.inr "rest") hb
theorem bg_seed {H : Hp} {b c : Addr} {r s t : Int} (hb : H b = some (.dK (boxK c r s t))) : DGet H b (.str "seed") (some (.int s)) := DGet.k (k := Sum.inr "seed") hb
theorem bg_turn {H : Hp} {b c : Addr} {r s t : Int} (hb : H b = some (.dK (boxK c r s t))) : DGet H b (.str "turn") (some (.int t)) := DGet.k (k := Sum.inr "turn") hb
theorem bp_rest {H : Hp} {b c : Addr} {r s t x : Int} (hb : H b = some (.dK (boxK c r s t))) : DPut H b (.str "rest") (.int x) (upd H b (.dK (boxK c x s t))) := DPut.k (k := Sum.inr "rest") hb (by show 4 < sizeLine; decide)
theorem bp_seed {H : Hp} {b c : Addr} {r s t x : Int} (hb : H b = some (.dK (boxK c r s t))) : DPut H b (.str "seed") (.int x) (upd H b (.dK (boxK c r x t))) := DPut.k (k := Sum.inr "seed") hb (by show 4 < sizeLine; decide)
theorem bp_turn {H : Hp} {b c : Addr} {r s t x : Int} (hb : H b = some (.dK (boxK c r s t))) : DPut H b (.str "turn") (.int x) (upd H b (.dK (boxK c r s x))) := DPut.k (k := Sum.inr "turn") hb (by show 4 < sizeLine; decide)
/-- the dict changes -/
theorem Kc.dict {c b : Addr} {H H' : Hp} {o : HO} (k : Kc c H H') (hb : ∃ kvs, H b = some (.dK kvs)) : Kc c H (L2.upd H' b o) := fun a u h1 h2 e => by
  have ne : a ≠ b := fun z => by
    obtain ⟨kvs, hb⟩ := hb
    rw [z, hb] at e
    exact h2 kvs (Option.some.inj e).symm
  rw [upd_ne ne]
  exact k a u h1 h2 e
theorem Kc.cell {c : Addr} {H H' : Hp} {o : HO} (k : Kc c H H') : Kc c H (L2.upd H' c o) := fun a u h1 h2 e => by
  rw [upd_ne h1]
  exact k a u h1 h2 e
theorem Box.dict {b c : Addr} {H : Hp} (h : Box b c H) : ∃ kvs, H b = some (.dK kvs) := by
  obtain ⟨ns, r, s, t, h1, h2, h3⟩ := h.ex
  exact ⟨_, h1⟩
theorem Box.ne {b c : Addr} {H : Hp} (h : Box b c H) : b ≠ c := by
  obtain ⟨ns, r, s, t, h1, h2, h3⟩ := h.ex
  exact ne_of h1 h2 (by intro z; cases z)
end RL
namespace RL
open PySem PySem.Spec PyProof.Rows L2 RLM
section
variable {P : Program} {w : World} {K : PySem.W.Frag} {mg : Str → Option Value} {base : Heap}
/-! ### data -/
theorem dp_ints {H : Hp} : ∀ ns : List Int, DpAll K H (ns.map V.int) (ns.map PyData.int)
  | [] => .nil
  | n :: ns => .cons (.int n) (dp_ints ns)
theorem shaped_ints (ns : List Int) : SeqAt.shaped (.list (ns.map PyData.int)) = true := PySem.W.ke_shaped_ints ns
theorem shaped_tup (ns : List Int) : SeqAt.shaped (.tuple (ns.map PyData.int)) = true := by
  have h := PySem.W.ke_shaped_ints ns
  exact h
theorem eqv_tup (ns : List Int) : PyData.eqv (.tuple (ns.map PyData.int)) (.tuple (ns.map PyData.int)) = true := SeqAt.eqv_refl _ (SeqAt.canLay_of_shaped (shaped_tup ns))
theorem six0 (n : Nat) : seqIndex? 0 (n + 1) = some 0 := by
  unfold seqIndex?
  simp
theorem cut_ints (ns : List Int) (lo hi : Option Int) : ∃ ms : List Int, cutV (ns.map V.int) lo hi = ms.map V.int ∧ ms.length ≤ ns.length := by
  unfold cutV
  rw [← List.map_drop, ← List.map_take]
  exact ⟨_, rfl, by rw [List.length_take, List.length_drop]; omega⟩
/-! ### is_number, is_between -/
def spNumber : Sp := fun vs H Q _ => ∃ i : Int, vs = [.int i] ∧ Q (.bl true) H
theorem sc_is_number : FnScope ["thing"] ["thing"] (defScope s_is_number) := ⟨rfl, rfl, rfl, by decide +kernel, rfl, by decide +kernel, by decide +kernel⟩
theorem ok_is_number (T : Tx K mg) : Has P w K mg base (He.ga K "is_number") 1 ["thing"] spNumber := by
  obtain ⟨fd, F⟩ := T.d_is_number
  refine ⟨⟨fd, F.ok sc_is_number (fun vs H Q E h => ?_) (fun cdv A outer s H vs Q E hr h => ?_), F.bindsN fun _ _ _ _ _ _ us hl => match us, hl with | [_], _ => rfl⟩, F.kp⟩
  · obtain ⟨i, rfl, _⟩ := h
    rfl
  · obtain ⟨i, rfl, h⟩ := h
    refine ⟨_, PSs.nox (pss_one (ps_ret (pe_and (pe_callB (isiK (K := K)) (by rfl) T.free_isinstance (by decide +kernel) (pa_cons (pv 0) (pa_cons (pe_bltn (v := .ty "int") (u := .type "int") (by rfl) T.free_int (by decide +kernel) rfl) pa_nil))) (pe_one (pe_not (pe_callB (isiK (K := K)) (by rfl) T.free_isinstance (by decide +kernel) (pa_cons (pv 0) (pa_cons (pe_bltn (v := .ty "bool") (u := .type "bool") (by rfl) T.free_bool (by decide +kernel) rfl) pa_nil)))))))), ?_⟩
    refine ⟨_, rfl, _, _, _, _, true, rfl, .ty _, .base (.int i), kit_ty (by decide +kernel), true, rfl, iteT ?_⟩
    exact ⟨_, rfl, _, _, _, _, false, rfl, .ty _, .base (.int i), kit_ty (by decide +kernel), false, rfl, h⟩
def spBetween : Sp := fun vs H Q _ => ∃ i a b : Int, vs = [.int i, .int a, .int b] ∧ Q (.bl (decide (a ≤ i ∧ i ≤ b))) H
theorem sc_is_between : FnScope ["thing", "least", "most"] ["thing", "least", "most"] (defScope s_is_between) := ⟨rfl, rfl, rfl, by decide +kernel, rfl, by decide +kernel, by decide +kernel⟩
theorem ok_is_between (T : Tx K mg) : Has P w K mg base (He.ga K "is_between") 2 ["thing", "least", "most"] spBetween := by
  obtain ⟨⟨fd_is_number, F_is_number, b_is_number⟩, kp_is_number⟩ := ok_is_number (P := P) (w := w) (base := base) T
  obtain ⟨fd, F⟩ := T.d_is_between
  refine ⟨⟨fd, F.ok sc_is_between (fun vs H Q E h => ?_) (fun cdv A outer s H vs Q E hr h => ?_), F.bindsN fun _ _ _ _ _ _ us hl => match us, hl with | [_, _, _], _ => rfl⟩, F.kp⟩
  · obtain ⟨i, a, b, rfl, _⟩ := h
    rfl
  · obtain ⟨i, a, b, rfl, h⟩ := h
    have hr_is_number : Room 1 _ := hr.mono (by decide)
    refine ⟨_, PSs.nox (pss_one (ps_ret (pe_and (pe_call F_is_number hr_is_number rfl T.glo_is_number kp_is_number b_is_number .nil pass0 (pa_cons (pv 0) pa_nil)) (pe_one (pe_chain op_le op_le (pv 1) (pv 0) (pv 2)))))), ?_⟩
    refine ⟨_, rfl, i, rfl, _, rfl, iteT ?_⟩
    refine ⟨_, rfl, _, rfl, _, _, rfl, rfl, _, rfl, ?_⟩
    by_cases h1 : a ≤ i
    · rw [decide_eq_true h1]
      refine iteT ⟨_, rfl, _, _, rfl, rfl, ?_⟩
      have e : decide (a ≤ i ∧ i ≤ b) = decide (i ≤ b) := by simp [h1]
      rw [e] at h
      exact h
    · rw [decide_eq_false h1]
      refine iteF ?_
      have e : decide (a ≤ i ∧ i ≤ b) = false := by simp [h1]
      rw [e] at h
      exact h
/-! ### the box -/
def spBox (K : PySem.W.Frag) : Sp := fun vs H Q _ => ∃ (a : Addr) (ns : List Int), vs = [.ref a] ∧ SqL K H a (ns.map V.int) ∧ ns.length ≤ 63 ∧ ∀ H' b c, Same H H' → Box b c H' → Q (.ref b) H'
theorem sc__law_box : FnScope ["_law_script"] ["_law_script"] (defScope s__law_box) := ⟨rfl, rfl, rfl, by decide +kernel, rfl, by decide +kernel, by decide +kernel⟩
theorem ok_box (T : Tx K mg) : Has P w K mg base (He.ga K "_law_box") 1 ["_law_script"] (spBox K) := by
  obtain ⟨fd, F⟩ := T.d__law_box
  refine ⟨⟨fd, F.ok sc__law_box (fun vs H Q E h => ?_) (fun cdv A outer s H vs Q E hr h => ?_), F.bindsN fun _ _ _ _ _ _ us hl => match us, hl with | [_], _ => rfl⟩, F.kp⟩
  · obtain ⟨a, ns, rfl, _⟩ := h
    rfl
  · obtain ⟨a, ns, rfl, hS, hl, h⟩ := h
    refine ⟨_, PSs.nox (pss_one (ps_ret (pe_disp (pps_cons pe_str (pe_callTy (listK (K := K)) (by rfl) T.free_list (by decide +kernel) (pa_cons (pe_slice (slL (K := K)) (pv 0) po_none (po_some pe_int)) pa_nil)) (pps_cons pe_str pe_int (pps_cons pe_str pe_int (pps_cons pe_str pe_int pps_nil)))) (by rfl) (by rfl) (fun z => by cases z) (by decide)))), ?_⟩
    intro b hb
    have sb : Same H (upd H b (.dK [])) := same_upd hb
    refine ⟨_, rfl, ?_⟩
    refine ⟨63, rfl, a, _, rfl, sb.seq hS, fun q hq => ?_⟩
    have sq := same_upd (o := .lst (cutV (List.map V.int ns) none (some 63))) hq
    obtain ⟨ms, em, lm⟩ := cut_ints ns none (some 63)
    refine ⟨q, _, rfl, .inl (SqL.of upd_same), fun l hl => ?_⟩
    have s2 := same_upd (o := .lst (cutV (List.map V.int ns) none (some 63))) hl
    have s3 := (sb.trans sq).trans s2
    refine ⟨?_, [(Sum.inr "cells", .ref l), (Sum.inr "rest", .int 0), (Sum.inr "seed", .int 9121001), (Sum.inr "turn", .int 0)], rfl, (by show 4 ≤ 15; decide), ?_⟩
    · exact s2 _ _ (sq _ _ upd_same)
    · have nlb : l ≠ b := fun z => by
        rw [z, sq _ _ upd_same] at hl
        cases hl
      refine h _ b l (same_mut s3 hb) ⟨ms, 0, 9121001, 0, upd_same, ?_, by decide, by decide, by decide, by omega⟩
      rw [upd_ne nlb, upd_same, em]
/-! ### pick -/
def spPick : Sp := fun vs H Q _ => ∃ (b c : Addr) (m : Int), vs = [.ref b, .int m] ∧ Box b c H ∧ 1 ≤ m ∧ m < 1073741824 ∧ ∀ H' i, Kc c H H' → Box b c H' → 0 ≤ i → i < m → Q (.int i) H'
theorem sc__law_pick : FnScope ["_law_box_here", "_law_many", "_law_cell", "_law_digit", "_law_seed"] ["_law_box_here", "_law_many"] (defScope s__law_pick) := ⟨rfl, rfl, rfl, by decide +kernel, rfl, by decide +kernel, by decide +kernel⟩
theorem ok_pick (T : Tx K mg) : Has P w K mg base (He.ga K "_law_pick") 1 ["_law_box_here", "_law_many"] spPick := by
  obtain ⟨fd, F⟩ := T.d__law_pick
  refine ⟨⟨fd, F.ok sc__law_pick (fun vs H Q E h => ?_) (fun cdv A outer s H vs Q E hr h => ?_), F.bindsN fun _ _ _ _ _ _ us hl => match us, hl with | [_, _], _ => rfl⟩, F.kp⟩
  · obtain ⟨b, c, m, rfl, _⟩ := h
    rfl
  · obtain ⟨b, c, m, rfl, B, m1, m2, h⟩ := h
    have hu := hu_of hr
    refine ⟨_, PSs.nox (C8.pss_cut (ps_if (PW.pt (pw_and (pt_cmpR op_eq (pe_dget hu (pv 0) pe_str (fun _ _ => rfl)) pe_int (nomark _)) (pw_and1 (pt_cmpR (neD (K := K) hr.units) (pe_dget hu (pv 0) pe_str (fun _ _ => rfl)) (pe_lst pa_nil) (nomark _))))) (pss_cons (ps_set (i := 2) sc__law_pick.nd rfl (Or.inl rfl) (bmK (K := K) PySem.F.plainAttrs_list PySem.F.slot_list_pop PySem.F.type_list_pop mt_popAt (pe_dget hu (pv 0) pe_str (fun _ _ => rfl)) (pa_cons pe_int pa_nil)))
      (pss_cons (ps_dput hu (pv 0) pe_str (pe_callB (call_max2 rfl) (by rfl) T.free_max (by decide +kernel) (pa_cons pe_int (pa_cons (pe_op op_sub (pv 2) (pe_op op_pow pe_int pe_int)) pa_nil))) rfl)
      (pss_one (ps_dput hu (pv 0) pe_str (pe_op op_mod (pe_op op_add (pe_op op_add (pe_op op_mul (pe_dget hu (pv 0) pe_str (fun _ _ => rfl)) pe_int) (pe_op op_mul (pe_op op_mod (pv 2) pe_int) pe_int)) pe_int) pe_int) rfl)))) pss_nil)
      (pss_cons (ps_if (pt_cmpR op_gt (pe_dget hu (pv 0) pe_str (fun _ _ => rfl)) pe_int (nomark _)) (pss_cons (ps_set (i := 3) sc__law_pick.nd rfl (Or.inl rfl) (pe_op op_modN (pe_dget hu (pv 0) pe_str (fun _ _ => rfl)) (pv 1)))
      (pss_cons (ps_dput hu (pv 0) pe_str (pe_op op_fdivN (pe_dget hu (pv 0) pe_str (fun _ _ => rfl)) (pv 1)) rfl)
      (pss_one (ps_ret (pv 3))))) pss_nil)
      (pss_cons (ps_dput hu (pv 0) pe_str (pe_op op_add (pe_dget hu (pv 0) pe_str (fun _ _ => rfl)) pe_int) rfl)
      (pss_cons (ps_set (i := 4) sc__law_pick.nd rfl (Or.inl rfl) (pe_op op_mod (pe_op op_add (pe_op op_add (pe_op op_mul (pe_dget hu (pv 0) pe_str (fun _ _ => rfl)) pe_int) (pe_op op_mul (pe_dget hu (pv 0) pe_str (fun _ _ => rfl)) pe_int)) pe_int) pe_int))
      (pss_cons (ps_dput hu (pv 0) pe_str (pe_op op_mod (pe_op op_add (pe_op op_add (pe_op op_mul (pv 4) (pv 4)) (pe_op op_mul pe_int (pv 4))) pe_int) pe_int) rfl)
      (pss_one (ps_ret (pe_op op_modN (pe_op op_add (pe_op op_fdiv (pe_dget hu (pv 0) pe_str (fun _ _ => rfl)) pe_int) (pe_op op_mul (pe_op op_mod (pe_dget hu (pv 0) pe_str (fun _ _ => rfl)) pe_int) pe_int)) (pv 1))))))))), ?_⟩
    refine ⟨fun σ H1 => (∃ v2, σ = [some (.ref b), some (.int m), v2, none, none]) ∧ Kc c H H1 ∧ Box b c H1, ?_, ?_⟩
    · obtain ⟨ns, r, z, t, hb, hc, r0, z0, z1, nl⟩ := B.ex
      have nbc := B.ne
      refine ⟨_, rfl, b, _, rfl, bg_rest hb, rfl, _, rfl, ?_⟩
      refine ite2 (fun hr0 => ?_) (fun hr0 => iteF ⟨⟨none, rfl⟩, Kc.refl c H, B⟩)
      refine ⟨_, rfl, b, _, rfl, bg_cells hb, Nat.zero_le _, fun l hl => ?_⟩
      have sl : Same H (upd H l (.lst [])) := same_upd hl
      refine ⟨.list (ns.map .int), .list [], .lst (SqL.of (sl _ _ hc)) (dp_ints ns), .lst (SqL.of upd_same) .nil, shaped_ints ns, shaped_ints [], _, rfl, ?_⟩
      cases ns with
      | nil => exact iteF ⟨⟨none, rfl⟩, kc_same sl, B.same sl⟩
      | cons n0 ns =>
        refine iteT ?_
        have hb1 := sl _ _ hb
        have hc1 := sl _ _ hc
        generalize hH1 : upd H l (.lst []) = H1 at sl hb1 hc1
        refine ⟨_, rfl, b, _, rfl, bg_cells hb1, .inl ⟨rfl, _, SqL.of hc1⟩, c, _, 0, 0, _, rfl, rfl, hc1, by decide, by decide, six0 _, rfl, ?_⟩
        have hb2 : (upd H1 c (.lst (ns.map V.int))) b = some (.dK (boxK c r z t)) := by
          rw [upd_ne nbc]
          exact hb1
        have hc2 : (upd H1 c (.lst (ns.map V.int))) c = some (.lst (ns.map V.int)) := upd_same
        have k2 : Kc c H (upd H1 c (.lst (ns.map V.int))) := (kc_same sl).cell
        have e2 : ((n0 :: ns).map V.int).eraseIdx 0 = ns.map V.int := rfl
        rw [e2]
        generalize upd H1 c (.lst (ns.map V.int)) = H2 at hb2 hc2 k2
        refine ⟨_, rfl, _, _, rfl, rfl, ⟨by decide, by decide, by decide⟩, _, _, rfl, rfl, _, _, rfl, _, rfl, b, _, rfl, bp_rest hb2, ?_⟩
        have hb3 : (upd H2 b (.dK (boxK c (if n0 - 10 ^ (18 : Int).toNat > 0 then n0 - 10 ^ (18 : Int).toNat else 0) z t))) b = _ := upd_same
        have hc3 : (upd H2 b (.dK (boxK c (if n0 - 10 ^ (18 : Int).toNat > 0 then n0 - 10 ^ (18 : Int).toNat else 0) z t))) c = some (.lst (ns.map V.int)) := by
          rw [upd_ne nbc.symm]
          exact hc2
        have k3 : Kc c H (upd H2 b (.dK (boxK c (if n0 - 10 ^ (18 : Int).toNat > 0 then n0 - 10 ^ (18 : Int).toNat else 0) z t))) := k2.dict ⟨_, hb⟩
        have r3 : 0 ≤ (if n0 - 10 ^ (18 : Int).toNat > 0 then n0 - 10 ^ (18 : Int).toNat else 0) := by split <;> omega
        generalize (if n0 - 10 ^ (18 : Int).toNat > 0 then n0 - 10 ^ (18 : Int).toNat else 0) = r1 at hb3 hc3 k3 r3
        generalize upd H2 b (.dK (boxK c r1 z t)) = H3 at hb3 hc3 k3
        refine ⟨_, rfl, b, _, rfl, bg_seed hb3, _, _, rfl, rfl, .inl ⟨by omega, by omega⟩, _, rfl, _, _, rfl, rfl, (by show (0 : Int) < 1000003; decide), _, _, rfl, rfl, .inr ⟨by decide, by decide⟩, _, _, rfl, rfl, _, _, rfl, rfl, _, _, rfl, rfl, (by show (0 : Int) < 2147483629; decide), _, rfl, b, _, rfl, bp_seed hb3, ?_⟩
        refine ⟨⟨_, rfl⟩, k3.dict ⟨_, hb⟩, ⟨ns, r1, _, t, upd_same, ?_, r3, Int.emod_nonneg _ (by decide), Int.emod_lt_of_pos _ (by decide), ?_⟩⟩
        · rw [upd_ne nbc.symm]
          exact hc3
        · rw [List.length_cons] at nl
          omega
    · rintro σ H1 ⟨⟨v2, rfl⟩, k1, B1⟩
      obtain ⟨ns, r, z, t, hb, hc, r0, z0, z1, nl⟩ := B1.ex
      have nbc := B1.ne
      refine ⟨_, rfl, b, _, rfl, bg_rest hb, _, _, rfl, rfl, _, rfl, ?_⟩
      refine ite2 (fun hr0 => ?_) (fun hr0 => ?_)
      · refine ⟨_, rfl, b, _, rfl, bg_rest hb, _, rfl, _, _, rfl, rfl, by omega, ?_⟩
        refine ⟨_, rfl, b, _, rfl, bg_rest hb, _, rfl, _, _, rfl, rfl, ⟨by omega, by omega⟩, _, rfl, b, _, rfl, bp_rest hb, ?_⟩
        refine ⟨_, rfl, ?_⟩
        have e1 : r.fmod m = r % m := Int.fmod_eq_emod_of_nonneg _ (by omega)
        have e2 : r.fdiv m = r / m := Int.fdiv_eq_ediv_of_nonneg _ (by omega)
        refine h _ _ (k1.dict B.dict) ⟨ns, _, z, t, upd_same, ?_, ?_, z0, z1, nl⟩ ?_ ?_
        · rw [upd_ne nbc.symm]
          exact hc
        · rw [e2]
          exact Int.ediv_nonneg r0 (by omega)
        · rw [e1]
          exact Int.emod_nonneg _ (by omega)
        · rw [e1]
          exact Int.emod_lt_of_pos _ (by omega)
      · refine ⟨_, rfl, b, _, rfl, bg_turn hb, _, _, rfl, rfl, _, rfl, b, _, rfl, bp_turn hb, ?_⟩
        have hb2 : (upd H1 b (.dK (boxK c r z (t + 1)))) b = _ := upd_same
        have hc2 : (upd H1 b (.dK (boxK c r z (t + 1)))) c = some (.lst (ns.map V.int)) := by
          rw [upd_ne nbc.symm]
          exact hc
        have k2 : Kc c H (upd H1 b (.dK (boxK c r z (t + 1)))) := k1.dict B.dict
        generalize upd H1 b (.dK (boxK c r z (t + 1))) = H2 at hb2 hc2 k2
        refine ⟨_, rfl, b, _, rfl, bg_seed hb2, _, _, rfl, rfl, .inl ⟨by omega, by omega⟩, _, rfl, b, _, rfl, bg_turn hb2, _, _, rfl, rfl, .inr ⟨by decide, by decide⟩, _, _, rfl, rfl, _, _, rfl, rfl, _, _, rfl, rfl, (by show (0 : Int) < 2147483629; decide), ?_⟩
        have y0 : 0 ≤ (z * 16807 + (t + 1) * 7919 + 3) % 2147483629 := Int.emod_nonneg _ (by decide)
        have y1 : (z * 16807 + (t + 1) * 7919 + 3) % 2147483629 < 2147483629 := Int.emod_lt_of_pos _ (by decide)
        refine ⟨_, rfl, _, rfl, _, _, rfl, rfl, .inl ⟨by omega, by omega⟩, _, rfl, _, _, rfl, rfl, .inl ⟨by decide, by decide⟩, _, _, rfl, rfl, _, _, rfl, rfl, _, _, rfl, rfl, (by show (0 : Int) < 2147483629; decide), _, rfl, b, _, rfl, bp_seed hb2, ?_⟩
        refine ⟨_, rfl, b, _, rfl, bg_seed upd_same, _, _, rfl, rfl, ⟨by decide, by decide⟩, _, rfl, b, _, rfl, bg_seed upd_same, _, _, rfl, rfl, (by show (0 : Int) < 127; decide), _, _, rfl, rfl, .inr ⟨by decide, by decide⟩, _, _, rfl, rfl, _, rfl, _, _, rfl, rfl, by omega, ?_⟩
        show Q (.int (Int.fmod _ m)) _
        rw [Int.fmod_eq_emod_of_nonneg _ (by omega)]
        refine h _ _ (k2.dict B.dict) ⟨ns, r, _, t + 1, upd_same, ?_, r0, Int.emod_nonneg _ (by decide), Int.emod_lt_of_pos _ (by decide), nl⟩ (Int.emod_nonneg _ (by omega)) (Int.emod_lt_of_pos _ (by omega))
        rw [upd_ne nbc.symm]
        exact hc2
end
end RL
namespace RL
open PySem PySem.Spec PyProof.Rows L2 RLM
section
variable {P : Program} {w : World} {K : PySem.W.Frag} {mg : Str → Option Value} {base : Heap}
/-! ### from a menu -/
def spFrom : Sp := fun vs H Q _ => ∃ (b c l : Addr) (xs : List V), vs = [.ref b, .ref l] ∧ Box b c H ∧ H l = some (.lst xs) ∧ l ≠ c ∧ 1 ≤ xs.length ∧ xs.length ≤ 1000 ∧ ∀ H' x, Kc c H H' → Box b c H' → x ∈ xs → Q x H'
theorem sc__law_from : FnScope ["_law_box_here", "_law_menu"] ["_law_box_here", "_law_menu"] (defScope s__law_from) := ⟨rfl, rfl, rfl, by decide +kernel, rfl, by decide +kernel, by decide +kernel⟩
theorem ok_from (T : Tx K mg) : Has P w K mg base (He.ga K "_law_from") 2 ["_law_box_here", "_law_menu"] spFrom := by
  obtain ⟨⟨fd_law_pick, F_law_pick, b_law_pick⟩, kp_law_pick⟩ := ok_pick (P := P) (w := w) (base := base) T
  obtain ⟨fd, F⟩ := T.d__law_from
  refine ⟨⟨fd, F.ok sc__law_from (fun vs H Q E h => ?_) (fun cdv A outer s H vs Q E hr h => ?_), F.bindsN fun _ _ _ _ _ _ us hl => match us, hl with | [_, _], _ => rfl⟩, F.kp⟩
  · obtain ⟨b, c, l, xs, rfl, _⟩ := h
    rfl
  · obtain ⟨b, c, l, xs, rfl, B, hl, nc, l1, l2, h⟩ := h
    have hr_law_pick : Room 1 _ := hr.mono (by decide)
    refine ⟨_, PSs.nox (pss_one (ps_ret (pe_ix (ixS (K := K)) (pv 1) (pe_call F_law_pick hr_law_pick rfl T.glo_law_pick kp_law_pick b_law_pick .nil pass0 (pa_cons (pv 0) (pa_cons (pe_callB (lenK (K := K)) (by rfl) T.free_len (by decide +kernel) (pa_cons (pv 1) pa_nil)) pa_nil))) (fun _ _ => rfl)))), ?_⟩
    refine ⟨_, rfl, _, rfl, _, rfl, l, _, rfl, .inl (SqL.of hl), b, c, _, rfl, B, by omega, by omega, fun H1 i k1 B1 i0 i1 => ?_⟩
    have hl1 : H1 l = some (.lst xs) := k1 _ _ nc (fun _ z => by cases z) hl
    obtain ⟨j, rfl⟩ : ∃ j : Nat, i = (j : Nat) := ⟨i.toNat, by omega⟩
    have hj : j < xs.length := by omega
    refine .inl ⟨l, xs, _, xs[j], rfl, rfl, SqL.of hl1, atI_nat (by simp [hj]), h H1 _ k1 B1 (List.getElem_mem hj)⟩
/-! ### from a tuple -/
def spFromT : Sp := fun vs H Q _ => ∃ (b c l : Addr) (xs : List V), vs = [.ref b, .ref l] ∧ Box b c H ∧ H l = some (.tup xs) ∧ 1 ≤ xs.length ∧ xs.length ≤ 1000 ∧ ∀ H' x, Kc c H H' → Box b c H' → x ∈ xs → Q x H'
theorem ok_fromT (T : Tx K mg) : Has P w K mg base (He.ga K "_law_from") 2 ["_law_box_here", "_law_menu"] spFromT := by
  obtain ⟨⟨fd_law_pick, F_law_pick, b_law_pick⟩, kp_law_pick⟩ := ok_pick (P := P) (w := w) (base := base) T
  obtain ⟨fd, F⟩ := T.d__law_from
  refine ⟨⟨fd, F.ok sc__law_from (fun vs H Q E h => ?_) (fun cdv A outer s H vs Q E hr h => ?_), F.bindsN fun _ _ _ _ _ _ us hl => match us, hl with | [_, _], _ => rfl⟩, F.kp⟩
  · obtain ⟨b, c, l, xs, rfl, _⟩ := h
    rfl
  · obtain ⟨b, c, l, xs, rfl, B, hl, l1, l2, h⟩ := h
    have hr_law_pick : Room 1 _ := hr.mono (by decide)
    refine ⟨_, PSs.nox (pss_one (ps_ret (pe_ix (ixS (K := K)) (pv 1) (pe_call F_law_pick hr_law_pick rfl T.glo_law_pick kp_law_pick b_law_pick .nil pass0 (pa_cons (pv 0) (pa_cons (pe_callB (lenK (K := K)) (by rfl) T.free_len (by decide +kernel) (pa_cons (pv 1) pa_nil)) pa_nil))) (fun _ _ => rfl)))), ?_⟩
    refine ⟨_, rfl, _, rfl, _, rfl, l, _, rfl, (.inr (SqT.of hl)), b, c, _, rfl, B, by omega, by omega, fun H1 i k1 B1 i0 i1 => ?_⟩
    have hl1 : H1 l = some (.tup xs) := k1.tup B.lst hl
    obtain ⟨j, rfl⟩ : ∃ j : Nat, i = (j : Nat) := ⟨i.toNat, by omega⟩
    have hj : j < xs.length := by omega
    refine .inr (.inl ⟨l, xs, _, xs[j], rfl, rfl, SqT.of hl1, atI_nat (by simp [hj]), h H1 _ k1 B1 (List.getElem_mem hj)⟩)
/-! ### mixed -/
def spMixed : Sp := fun vs H Q _ => ∃ (b c l : Addr) (xs : List V), vs = [.ref b, .ref l] ∧ Box b c H ∧ H l = some (.lst xs) ∧ l ≠ c ∧ xs.length ≤ 1000 ∧ ∀ H' p ys, ys.Perm xs → H' p = some (.lst ys) → p ≠ c → Kc c H H' → Box b c H' → Q (.ref p) H'
theorem perm_ins {α : Type} (ys : List α) (j : Nat) (y : α) : (ys.take j ++ [y] ++ ys.drop j).Perm (ys ++ [y]) := by
  have e : ys ++ [y] = ys.take j ++ (ys.drop j ++ [y]) := by rw [← List.append_assoc, List.take_append_drop]
  rw [e, List.append_assoc]
  exact (List.perm_append_comm).append_left _
theorem sc__law_mixed : FnScope ["_law_box_here", "_law_things", "_law_found", "_law_thing"] ["_law_box_here", "_law_things"] (defScope s__law_mixed) := ⟨rfl, rfl, rfl, by decide +kernel, rfl, by decide +kernel, by decide +kernel⟩
theorem ok_mixed (T : Tx K mg) : Has P w K mg base (He.ga K "_law_mixed") 2 ["_law_box_here", "_law_things"] spMixed := by
  obtain ⟨⟨fd_law_pick, F_law_pick, b_law_pick⟩, kp_law_pick⟩ := ok_pick (P := P) (w := w) (base := base) T
  obtain ⟨fd, F⟩ := T.d__law_mixed
  refine ⟨⟨fd, F.ok sc__law_mixed (fun vs H Q E h => ?_) (fun cdv A outer s H vs Q E hr h => ?_), F.bindsN fun _ _ _ _ _ _ us hl => match us, hl with | [_, _], _ => rfl⟩, F.kp⟩
  · obtain ⟨b, c, l, xs, rfl, _⟩ := h
    rfl
  · obtain ⟨b, c, l, xs, rfl, B, hl, nc, l2, h⟩ := h
    have hr_law_pick : Room 1 _ := hr.mono (by decide)
    refine ⟨_, PSs.nox (pss_cons (ps_set (i := 2) sc__law_mixed.nd rfl (Or.inl rfl) (pe_lst pa_nil))
      (pss_cons (ps_for PassesOwn.never rfl (piL (K := K) (pv 1)) (pg_name (i := 3) sc__law_mixed.nd rfl (Or.inl rfl)) (pss_one (ps_expr (bmK (K := K) PySem.F.plainAttrs_list PySem.F.slot_list_insert PySem.F.type_list_insert mt_insert (pv 2) (pa_cons (pe_call F_law_pick hr_law_pick rfl T.glo_law_pick kp_law_pick b_law_pick .nil pass0 (pa_cons (pv 0) (pa_cons (pe_op op_add (pe_callB (lenK (K := K)) (by rfl) T.free_len (by decide +kernel) (pa_cons (pv 2) pa_nil)) pe_int) pa_nil))) (pa_cons (pv 3) pa_nil))))))
      (pss_one (ps_ret (pv 2))))), ?_⟩
    refine ⟨Nat.zero_le _, fun p hp => ?_⟩
    have s0 : Same H (upd H p (.lst [])) := same_upd hp
    have hpc : p ≠ c := fun z => by
      obtain ⟨ys, hc⟩ := B.lst
      rw [z, hc] at hp
      cases hp
    refine ⟨_, rfl, l, rfl, ⟨_, SqL.of (s0 _ _ hl)⟩, for_list (K := K) (a := l) (xs := xs) (fun i σ H1 => ∃ (ys : List V) (v : Option V), σ = [some (.ref b), some (.ref l), some (.ref p), v] ∧ ys.Perm (xs.take i) ∧ H1 p = some (.lst ys) ∧ Kc c H H1 ∧ Box b c H1)
      ⟨[], none, rfl, by simp, upd_same, kc_same s0, B.same s0⟩ (fun i σ H1 _ ⟨_, _, _, _, _, k1, _⟩ => SqL.of (k1 _ _ nc (fun _ z => by cases z) hl)) ?_ ?_⟩
    · rintro i y σ H1 hi ⟨ys, v, rfl, pm, h1, k1, B1⟩
      have li : i < xs.length := (List.getElem?_eq_some_iff.mp hi).1
      have ly : ys.length = i := by
        rw [pm.length_eq, List.length_take]
        omega
      refine ⟨_, rfl, .inl ⟨rfl, _, SqL.of h1⟩, _, rfl, _, rfl, p, _, rfl, .inl (SqL.of h1), _, _, rfl, rfl, b, c, _, rfl, B1, by omega, by omega, fun H2 j k2 B2 j0 j1 => ?_⟩
      have h2 : H2 p = some (.lst ys) := k2 _ _ hpc (fun _ z => by cases z) h1
      refine ⟨_, rfl, p, ys, j, y, rfl, rfl, h2, Nat.lt_of_le_of_lt (show ys.length ≤ 1000 by omega) (by decide), j0, by omega, ?_⟩
      refine ⟨_, _, rfl, ?_, upd_same, (k1.trans k2).upd hp, ?_⟩
      · have e : xs.take (i + 1) = xs.take i ++ [y] := by
          rw [List.take_add_one, hi]
          rfl
        rw [e]
        exact (perm_ins ys j.toNat y).trans (pm.append_right _)
      · obtain ⟨ns, r, z, t, g1, g2, g3⟩ := B2.ex
        refine ⟨ns, r, z, t, ?_, ?_, g3⟩
        · rw [upd_ne (ne_of g1 h2 (by intro z; cases z))]
          exact g1
        · rw [upd_ne hpc.symm]
          exact g2
    · rintro σ H1 ⟨ys, v, rfl, pm, h1, k1, B1⟩
      rw [List.take_length] at pm
      exact ⟨_, rfl, h H1 p ys pm h1 hpc k1 B1⟩
end
end RL
namespace RL
open PySem PySem.Spec PyProof.Rows L2 RLM
theorem Box.upd {b c p : Addr} {H : Hp} {o : HO} (h : Box b c H) (hp : p ≠ c) (hb : p ≠ b) : Box b c (L2.upd H p o) := by
  obtain ⟨ns, r, s, t, h1, h2, h3⟩ := h.ex
  exact ⟨ns, r, s, t, by rw [upd_ne hb.symm]; exact h1, by rw [upd_ne hp.symm]; exact h2, h3⟩
theorem Box.new {b c p : Addr} {H : Hp} (h : Box b c H) (hp : H p = none) : p ≠ c ∧ p ≠ b := by
  obtain ⟨ns, r, s, t, h1, h2, h3⟩ := h.ex
  exact ⟨(ne_of_none h2 hp).symm, (ne_of_none h1 hp).symm⟩
/-- the ways of a list -/
def WaysOk (n : Nat) (L : List (Addr × Nat × Nat)) : Prop := (L.map (·.2)).Nodup ∧ (∀ q ∈ L, q.2.1 < n ∧ q.2.2 < n ∧ q.2.1 ≠ q.2.2) ∧ L.length ≤ 64
theorem WaysOk.sub {n : Nat} {L M : List (Addr × Nat × Nat)} (h : WaysOk n L) (s : M.Sublist L) : WaysOk n M :=
  ⟨(s.map _).nodup h.1, fun q hq => h.2.1 q (s.subset hq), Nat.le_trans s.length_le h.2.2⟩
theorem perm_map {α β : Type} {f : α → β} : ∀ {xs : List α} {ys : List β}, ys.Perm (xs.map f) → ∃ zs : List α, ys = zs.map f ∧ zs.Perm xs
  | [], ys, h => ⟨[], by rw [List.Perm.eq_nil h]; rfl, List.Perm.refl _⟩
  | x :: xs, ys, h => by
    have hm : f x ∈ ys := h.mem_iff.mpr (by simp)
    obtain ⟨y1, y2, rfl⟩ := List.append_of_mem hm
    have h2 : (y1 ++ y2).Perm (xs.map f) := by
      have := List.perm_middle.symm.trans h
      exact this.cons_inv
    obtain ⟨zs, e, p⟩ := perm_map h2
    obtain ⟨z1, z2, rfl, e1, e2⟩ := List.map_eq_append_iff.mp e.symm
    refine ⟨z1 ++ x :: z2, ?_, List.perm_middle.trans (p.cons x)⟩
    rw [List.map_append, List.map_cons, e1, e2]
/-- [way for way in ways if ..], whatever the test says -/
theorem filt {K : PySem.W.Frag} {b c l D : Addr} {k : Nat} {H : Hp} {σ : L2.St} {vs : List Nat} {tt : TT} {L : List (Addr × Nat × Nat)} {Qd : Hp → Prop} (PL : PairsAt c H l L) (B : Box b c H) (len : L.length ≤ 64) (hD : H D = none)
    (hw : ∀ x : V, wipe ((wipe σ vs).set k (some x)) vs = wipe σ vs) (hk : ∀ x : V, ((wipe σ vs).set k (some x))[k]? = some (some x))
    (htt : ∀ q ∈ L, ∀ H1, Kc c H H1 → Box b c H1 → ∀ R : Bool → Hp → Prop, (∀ t H2, Kc c H1 H2 → Box b c H2 → R t H2) → tt ((wipe σ vs).set k (some (.ref q.1))) H1 R)
    (hd : ∀ H1 M, M.Sublist L → PairsAt c H1 D M → Kc c H H1 → Box b c H1 → Qd H1) :
    ∃ W : Nat → Nat → Hp → Prop, (∃ m, W 0 m (upd H D (.lst []))) ∧ ∀ i m H, W i m H →
      ((Itl K l).stop i H ∧ Qd H) ∨ ((Itl K l).go i H ∧ ∃ Nx : Hp → Prop, (∀ H', Nx H' → ∃ m', m' < m ∧ W (i + 1) m' H') ∧ ∀ x H', (Itl K l).yld i H x H' → gName k x (wipe σ vs) H' fun σ2 H2 => wipe σ2 vs = wipe σ vs ∧ tt σ2 H2 fun b H3 =>
        if b = true then tVar k σ2 H3 fun y H4 => ∃ acc, H4 D = some (.lst acc) ∧ acc.length < sizeLine ∧ Nx (upd H4 D (.lst (acc ++ [y]))) else Nx H3) := by
  have Dc := (B.new hD).1
  have Db := (B.new hD).2
  have s0 : Same H (upd H D (.lst [])) := same_upd hD
  refine lc_list (K := K) (a := l) (xs := L.map fun q => V.ref q.1) (fun i H1 => ∃ M : List (Addr × Nat × Nat), M.Sublist (L.take i) ∧ H1 D = some (.lst (M.map fun q => V.ref q.1)) ∧ Kc c H H1 ∧ Box b c H1)
    ⟨[], by simp, upd_same, kc_same s0, B.same s0⟩ (fun i H1 _ ⟨_, _, _, k1, _⟩ => SqL.of (k1 _ _ PL.ne (fun _ z => by cases z) PL.at_)) ?_ ?_
  · rintro i x H1 hx ⟨M, sM, hM, k1, B1⟩
    rw [List.getElem?_map] at hx
    obtain ⟨q, hq, rfl⟩ : ∃ q, L[i]? = some q ∧ V.ref q.1 = x := by
      cases e : L[i]? with
      | none => rw [e] at hx; cases hx
      | some q => rw [e] at hx; exact ⟨q, rfl, Option.some.inj hx⟩
    have et : L.take (i + 1) = L.take i ++ [q] := by
      rw [List.take_add_one, hq]
      rfl
    refine ⟨hw _, htt q (List.mem_of_getElem? hq) H1 k1 B1 _ fun t H2 k2 B2 => ?_⟩
    have hM2 : H2 D = some (.lst (M.map fun q => V.ref q.1)) := k2 _ _ Dc (fun _ z => by cases z) hM
    have lM : M.length ≤ 64 := Nat.le_trans sM.length_le (by rw [List.length_take]; omega)
    cases t with
    | false =>
      refine iteF ⟨M, ?_, hM2, k1.trans k2, B2⟩
      rw [et]
      exact sM.trans (List.sublist_append_left _ _)
    | true =>
      refine iteT ⟨_, hk _, _, hM2, ?_, M ++ [q], ?_, ?_, (k1.trans k2).upd hD, B2.upd Dc Db⟩
      · rw [List.length_map]
        exact Nat.lt_of_le_of_lt lM (by decide)
      · rw [et]
        exact sM.append (List.Sublist.refl _)
      · rw [upd_same, List.map_append]
        rfl
  · rintro H1 ⟨M, sM, hM, k1, B1⟩
    rw [List.length_map, List.take_length] at sM
    exact hd H1 M sM ⟨hM, Dc, fun q hq => k1.tup B.lst (PL.tup q (sM.subset hq))⟩ k1 B1
section
variable {P : Program} {w : World} {K : PySem.W.Frag} {mg : Str → Option Value} {base : Heap}
def spWays : Sp := fun vs H Q _ => ∃ (b c : Addr) (n : Nat), vs = [.ref b, vI n] ∧ Box b c H ∧ 1 ≤ n ∧ n ≤ 8 ∧ ∀ H' l L, PairsAt c H' l L → WaysOk n L → Kc c H H' → Box b c H' → Q (.ref l) H'
theorem sc__law_ways : FnScope ["_law_box_here", "_law_many", "_law_every", "_law_one", "_law_sort", "_law_thick", "_law_other", "_law_way"] ["_law_box_here", "_law_many"] (defScope s__law_ways) := ⟨rfl, rfl, rfl, by decide +kernel, rfl, by decide +kernel, by decide +kernel⟩
theorem ok_ways (T : Tx K mg) : Has P w K mg base (He.ga K "_law_ways") 3 ["_law_box_here", "_law_many"] spWays := by
  obtain ⟨⟨fd_law_pick, F_law_pick, b_law_pick⟩, kp_law_pick⟩ := ok_pick (P := P) (w := w) (base := base) T
  obtain ⟨⟨fd_law_mixed, F_law_mixed, b_law_mixed⟩, kp_law_mixed⟩ := ok_mixed (P := P) (w := w) (base := base) T
  obtain ⟨fd, F⟩ := T.d__law_ways
  refine ⟨⟨fd, F.ok sc__law_ways (fun vs H Q E h => ?_) (fun cdv A outer s H vs Q E hr h => ?_), F.bindsN fun _ _ _ _ _ _ us hl => match us, hl with | [_, _], _ => rfl⟩, F.kp⟩
  · obtain ⟨b, c, n, rfl, _⟩ := h
    rfl
  · obtain ⟨b, c, n, rfl, B, n1, n8, h⟩ := h
    have hr_law_pick : Room 1 _ := hr.mono (by decide)
    have hr_law_mixed : Room 2 _ := hr.mono (by decide)
    refine ⟨_, PSs.nox (pss_cons (ps_set (i := 2) sc__law_ways.nd rfl (Or.inl rfl) (pe_lst pa_nil))
      (pss_cons (ps_for PassesOwn.never rfl (pi_range1 (by rfl) T.free_range (pa_cons (pv 1) pa_nil)) (pg_name (i := 3) sc__law_ways.nd rfl (Or.inr rfl)) (pss_one (ps_set (i := 2) sc__law_ways.nd rfl (Or.inl rfl) (pe_op op_cat (pv 2) (pe_lc (own := [("_law_other", 6)]) (g := (gName 6)) rfl sc__law_ways.nd (pi_range1 (by rfl) T.free_range (pa_cons (pv 1) pa_nil)) (blkOk_by (by kernel_rfl)) (fun _ _ _ _ _ => (pg_name (i := 6) sc__law_ways.nd rfl (Or.inl rfl))) (fun _ _ _ _ _ => (pts_one (pt_cmpR op_ne (pv 6) (pv 3) (nomark _)))) (fun _ _ _ _ _ => (pe_tup (pa_cons (pv 3) (pa_cons (pv 6) pa_nil)))))))))
      (pss_cons (ps_asg (pe_tup (pa_cons (pe_call F_law_pick hr_law_pick rfl T.glo_law_pick kp_law_pick b_law_pick .nil pass0 (pa_cons (pv 0) (pa_cons pe_int pa_nil))) (pa_cons (pe_op op_add pe_int (pe_call F_law_pick hr_law_pick rfl T.glo_law_pick kp_law_pick b_law_pick .nil pass0 (pa_cons (pv 0) (pa_cons pe_int pa_nil)))) pa_nil))) (pgT (K := K) (n := 2) rfl (pgs_cons (pg_name (i := 4) sc__law_ways.nd rfl (Or.inl rfl)) (pgs_cons (pg_name (i := 5) sc__law_ways.nd rfl (Or.inr rfl)) pgs_nil))))
      (pss_cons (ps_if (pt_cmpR op_eq (pv 4) pe_int (nomark _)) (pss_one (ps_ret (pe_lc (own := [("_law_way", 7)]) (g := (gName 7)) rfl sc__law_ways.nd (piL (K := K) (pv 2)) (blkOk_by (by kernel_rfl)) (fun _ _ _ _ _ => (pg_name (i := 7) sc__law_ways.nd rfl (Or.inl rfl))) (fun _ _ _ _ _ => (pts_one (pt_cmpR op_eq (pe_ix (ixT (K := K)) (pv 7) pe_int (fun _ _ => rfl)) (pe_op op_add (pe_ix (ixT (K := K)) (pv 7) pe_int (fun _ _ => rfl)) pe_int) (nomark _)))) (fun _ _ _ _ _ => (pv 7))))) pss_nil)
      (pss_cons (ps_if (pt_cmpR op_eq (pv 4) pe_int (nomark _)) (pss_one (ps_ret (pe_lc (own := [("_law_way", 7)]) (g := (gName 7)) rfl sc__law_ways.nd (piL (K := K) (pv 2)) (blkOk_by (by kernel_rfl)) (fun _ _ _ _ _ => (pg_name (i := 7) sc__law_ways.nd rfl (Or.inl rfl))) (fun _ _ _ _ _ => (pts_one (pt_cmpR op_eq (pe_callB call_abs (by rfl) T.free_abs (by decide +kernel) (pa_cons (pe_op op_sub (pe_ix (ixT (K := K)) (pv 7) pe_int (fun _ _ => rfl)) (pe_ix (ixT (K := K)) (pv 7) pe_int (fun _ _ => rfl))) pa_nil)) pe_int (nomark _)))) (fun _ _ _ _ _ => (pv 7))))) pss_nil)
      (pss_cons (ps_if (pt_cmpR op_eq (pv 4) pe_int (nomark _)) (pss_one (ps_ret (pe_lc (own := [("_law_way", 7)]) (g := (gName 7)) rfl sc__law_ways.nd (piL (K := K) (pv 2)) (blkOk_by (by kernel_rfl)) (fun _ _ _ _ _ => (pg_name (i := 7) sc__law_ways.nd rfl (Or.inl rfl))) (fun _ _ _ _ _ => (pts_one (pt_cmpR op_eq (pe_ix (ixT (K := K)) (pv 7) pe_int (fun _ _ => rfl)) (pe_op op_modN (pe_op op_add (pe_ix (ixT (K := K)) (pv 7) pe_int (fun _ _ => rfl)) pe_int) (pv 1)) (nomark _)))) (fun _ _ _ _ _ => (pv 7))))) pss_nil)
      (pss_cons (ps_if (pt_cmpR op_eq (pv 4) pe_int (nomark _)) (pss_one (ps_ret (pe_lc (own := [("_law_way", 7)]) (g := (gName 7)) rfl sc__law_ways.nd (piL (K := K) (pv 2)) (blkOk_by (by kernel_rfl)) (fun _ _ _ _ _ => (pg_name (i := 7) sc__law_ways.nd rfl (Or.inl rfl))) (fun _ _ _ _ _ => (pts_one (pt_cmpR (inSq (K := K)) pe_int (pv 7) (by rfl)))) (fun _ _ _ _ _ => (pv 7))))) pss_nil)
      (pss_cons (ps_if (pt_cmpR op_eq (pv 4) pe_int (nomark _)) (pss_one (ps_ret (pv 2))) pss_nil)
      (pss_one (ps_ret (pe_call F_law_mixed hr_law_mixed rfl T.glo_law_mixed kp_law_mixed b_law_mixed .nil pass0 (pa_cons (pv 0) (pa_cons (pe_lc (own := [("_law_way", 7)]) (g := (gName 7)) rfl sc__law_ways.nd (piL (K := K) (pv 2)) (blkOk_by (by kernel_rfl)) (fun _ _ _ _ _ => (pg_name (i := 7) sc__law_ways.nd rfl (Or.inl rfl))) (fun _ _ _ _ _ => (pts_one (pt_cmpR op_lt (pe_call F_law_pick hr_law_pick rfl T.glo_law_pick kp_law_pick b_law_pick .nil pass0 (pa_cons (pv 0) (pa_cons pe_int pa_nil))) (pv 5) (nomark _)))) (fun _ _ _ _ _ => (pv 7))) pa_nil))))))))))))), ?_⟩
    refine ⟨Nat.zero_le _, fun l0 hl0 => ?_⟩
    have s0 : Same H (upd H l0 (.lst [])) := same_upd hl0
    refine ⟨_, rfl, (n : Int), rfl, by omega, by omega, for_range (lo := 0) (n := ((n : Nat) : Int).toNat) (fun i σ H1 => ∃ (l : Addr) (L : List (Addr × Nat × Nat)) (v : Option V), σ = [some (.ref b), some (vI n), some (.ref l), v, none, none, none, none] ∧ PairsAt c H1 l L ∧ (L.map (·.2)).Nodup ∧ (∀ q ∈ L, q.2.1 < i ∧ q.2.2 < n ∧ q.2.1 ≠ q.2.2) ∧ L.length ≤ i * n ∧ Same H H1)
      ⟨l0, [], none, rfl, ⟨upd_same, (B.new hl0).1, fun q hq => (by cases hq)⟩, by simp, fun q hq => (by cases hq), Nat.zero_le _, s0⟩ ?_ ?_⟩
    · rintro i σ H1 hi ⟨l, L, v, rfl, PL, nd, on, len, s1⟩
      have hin : i < n := by omega
      have lenL : L.length ≤ 56 := by
        have : i * n ≤ 7 * 8 := Nat.mul_le_mul (by omega) n8
        omega
      refine ⟨_, rfl, _, rfl, (n : Int), rfl, by omega, by omega, fun D hD => ?_⟩
      refine lc_range (lo := 0) (n := ((n : Nat) : Int).toNat) (fun j H2 => ∃ M : List (Addr × Nat × Nat), H2 D = some (.lst (M.map fun q => V.ref q.1)) ∧ (∀ q ∈ M, H2 q.1 = some (.tup [vI q.2.1, vI q.2.2])) ∧ (M.map (·.2)).Nodup ∧ (∀ q ∈ M, q.2.1 = i ∧ q.2.2 < j ∧ q.2.2 ≠ i) ∧ M.length ≤ j ∧ Same H1 H2)
        ⟨[], upd_same, fun q hq => (by cases hq), by simp, fun q hq => (by cases hq), Nat.zero_le _, same_upd hD⟩ ?_ ?_
      · rintro j H2 hj ⟨M, hM, tM, ndM, onM, lM, s2⟩
        refine ⟨rfl, _, rfl, _, rfl, rfl, _, rfl, ?_⟩
        have zi : (0 : Int) + (i : Int) = (i : Nat) := Int.zero_add _
        have zj : (0 : Int) + (j : Int) = (j : Nat) := Int.zero_add _
        by_cases e : j = i
        · have ed : (!decide (V.int (0 + (j : Int)) = V.int (0 + (i : Int)))) = false := by simp [e]
          rw [ed]
          exact iteF ⟨M, hM, tM, ndM, fun q hq => ⟨(onM q hq).1, by have := (onM q hq).2.1; omega, (onM q hq).2.2⟩, by omega, s2⟩
        · have ed : (!decide (V.int (0 + (j : Int)) = V.int (0 + (i : Int)))) = true := by
            have : ¬ ((j : Int) = (i : Int)) := by omega
            simp [zi, zj, this]
          rw [ed]
          refine iteT ⟨_, rfl, _, rfl, (by show 2 ≤ sizeLine; decide), fun t ht => ?_⟩
          have s3 := same_upd (o := HO.tup [V.int (0 + (i : Int)), V.int (0 + (j : Int))]) ht
          have tD : t ≠ D := fun z => by
            rw [z, hM] at ht
            cases ht
          refine ⟨_, s3 _ _ hM, ?_, M ++ [(t, i, j)], ?_, fun q hq => ?_, ?_, fun q hq => ?_, ?_, same_mut (s2.trans s3) hD⟩
          · rw [List.length_map]
            exact Nat.lt_of_le_of_lt (show M.length ≤ 8 by omega) (by decide)
          · rw [upd_same, List.map_append]
            rfl
          · rcases List.mem_append.mp hq with hq | hq
            · have g := s3 _ _ (tM q hq)
              rw [upd_ne (ne_of g (s3 _ _ hM) (by intro z; cases z))]
              exact g
            · rw [List.mem_singleton.mp hq, upd_ne tD, upd_same, zi, zj]
              rfl
          · rw [List.map_append, List.nodup_append]
            refine ⟨ndM, by simp, ?_⟩
            intro x hx y hy z
            obtain ⟨q, hq, rfl⟩ := List.mem_map.mp hx
            have ey : y = (i, j) := by simpa using hy
            have := (onM q hq).2.1
            rw [z, ey] at this
            exact absurd this (Nat.lt_irrefl _)
          · rcases List.mem_append.mp hq with hq | hq
            · exact ⟨(onM q hq).1, by have := (onM q hq).2.1; omega, (onM q hq).2.2⟩
            · rw [List.mem_singleton.mp hq]
              exact ⟨rfl, Nat.lt_succ_self _, e⟩
          · rw [List.length_append]
            simp
            omega
      · rintro H2 ⟨M, hM, tM, ndM, onM, lM, s2⟩
        have PL2 := PL.same s2
        have lM8 : M.length ≤ n := by omega
        refine ⟨l, D, _, _, rfl, rfl, PL2.at_, hM, ?_, fun p hp => ?_⟩
        · rw [List.length_map, List.length_map]
          exact Nat.le_trans (show L.length + M.length ≤ 64 by omega) (by decide)
        · have s3 := same_upd (o := HO.lst (L.map (fun q => V.ref q.1) ++ M.map fun q => V.ref q.1)) hp
          have s4 := (s1.trans s2).trans s3
          refine ⟨p, L ++ M, _, rfl, ⟨?_, ((B.same (s1.trans s2)).new hp).1, fun q hq => ?_⟩, ?_, fun q hq => ?_, ?_, s4⟩
          · rw [upd_same, List.map_append]
          · rcases List.mem_append.mp hq with hq | hq
            · exact s3 _ _ (PL2.tup q hq)
            · exact s3 _ _ (tM q hq)
          · rw [List.map_append, List.nodup_append]
            refine ⟨nd, ndM, ?_⟩
            intro x hx y hy z
            obtain ⟨q, hq, rfl⟩ := List.mem_map.mp hx
            obtain ⟨r, hr', rfl⟩ := List.mem_map.mp hy
            have a1 := (on q hq).1
            have a2 := (onM r hr').1
            rw [z, a2] at a1
            exact absurd a1 (Nat.lt_irrefl _)
          · rcases List.mem_append.mp hq with hq | hq
            · exact ⟨by have := (on q hq).1; omega, (on q hq).2⟩
            · have := onM q hq
              exact ⟨by omega, by omega, by omega⟩
          · rw [List.length_append, Nat.succ_mul]
            omega
    · rintro σ H1 ⟨l, L, v, rfl, PL, nd, on, len, s1⟩
      have W : WaysOk n L := by
        refine ⟨nd, fun q hq => ?_, ?_⟩
        · have := on q hq
          exact ⟨by omega, this.2⟩
        · have : ((n : Nat) : Int).toNat * n ≤ 8 * 8 := Nat.mul_le_mul (by omega) n8
          omega
      have B1 := B.same s1
      refine ⟨_, rfl, b, c, _, rfl, B1, by decide, by decide, fun H2 i k2 B2 i0 i1 => ?_⟩
      refine ⟨_, rfl, b, c, _, rfl, B2, by decide, by decide, fun H3 j k3 B3 j0 j1 => ?_⟩
      refine ⟨_, _, rfl, rfl, (by show 2 ≤ sizeLine; decide), fun t ht => ?_⟩
      have s4 := same_upd (o := HO.tup [V.int i, V.int (1 + j)]) ht
      have k4 : Kc c H (upd H3 t (.tup [.int i, .int (1 + j)])) := ((kc_same s1).trans (k2.trans k3)).trans (kc_same s4)
      have PL4 := (PL.keep (k2.trans k3) B1.lst).same s4
      have B4 := B3.same s4
      refine ⟨t, _, rfl, SqT.of upd_same, rfl, _, _, rfl, _, _, rfl, rfl, ?_⟩
      generalize upd H3 t (.tup [.int i, .int (1 + j)]) = H4 at k4 PL4 B4
      have fin : ∀ D H5 M, M.Sublist L → PairsAt c H5 D M → Kc c H4 H5 → Box b c H5 → Q (.ref D) H5 := fun D H5 M sM pM k5 B5 => h H5 D M pM (W.sub sM) (k4.trans k5) B5
      have it : ∀ q ∈ L, ∀ H5, Kc c H4 H5 → H5 q.1 = some (.tup [vI q.2.1, vI q.2.2]) := fun q hq H5 k5 => k5.tup B4.lst (PL4.tup q hq)
      refine ⟨_, rfl, rfl, _, rfl, ?_⟩
      refine ite2 (fun _ => ?_) (fun _ => ?_)
      · refine ⟨_, rfl, l, rfl, ⟨_, SqL.of PL4.at_⟩, fun D hD => filt PL4 B4 W.2.2 hD (fun x => rfl) (fun x => rfl) (fun q hq H5 k5 B5 R hR => ?_) (fin D)⟩
        exact ⟨_, rfl, q.1, _, 1, _, rfl, rfl, SqT.of (it q hq H5 k5), rfl, _, rfl, q.1, _, 0, _, rfl, rfl, SqT.of (it q hq H5 k5), rfl, _, _, rfl, rfl, rfl, _, rfl, hR _ _ (Kc.refl c H5) B5⟩
      refine ⟨_, rfl, rfl, _, rfl, ?_⟩
      refine ite2 (fun _ => ?_) (fun _ => ?_)
      · refine ⟨_, rfl, l, rfl, ⟨_, SqL.of PL4.at_⟩, fun D hD => filt PL4 B4 W.2.2 hD (fun x => rfl) (fun x => rfl) (fun q hq H5 k5 B5 R hR => ?_) (fin D)⟩
        exact ⟨_, rfl, q.1, _, 1, _, rfl, rfl, SqT.of (it q hq H5 k5), rfl, _, rfl, q.1, _, 0, _, rfl, rfl, SqT.of (it q hq H5 k5), rfl, _, _, rfl, rfl, _, rfl, rfl, _, rfl, hR _ _ (Kc.refl c H5) B5⟩
      refine ⟨_, rfl, rfl, _, rfl, ?_⟩
      refine ite2 (fun _ => ?_) (fun _ => ?_)
      · refine ⟨_, rfl, l, rfl, ⟨_, SqL.of PL4.at_⟩, fun D hD => filt PL4 B4 W.2.2 hD (fun x => rfl) (fun x => rfl) (fun q hq H5 k5 B5 R hR => ?_) (fin D)⟩
        exact ⟨_, rfl, q.1, _, 1, _, rfl, rfl, SqT.of (it q hq H5 k5), rfl, _, rfl, q.1, _, 0, _, rfl, rfl, SqT.of (it q hq H5 k5), rfl, _, _, rfl, rfl, _, rfl, _, _, rfl, rfl, by omega, rfl, _, rfl, hR _ _ (Kc.refl c H5) B5⟩
      refine ⟨_, rfl, rfl, _, rfl, ?_⟩
      refine ite2 (fun _ => ?_) (fun _ => ?_)
      · refine ⟨_, rfl, l, rfl, ⟨_, SqL.of PL4.at_⟩, fun D hD => filt PL4 B4 W.2.2 hD (fun x => rfl) (fun x => rfl) (fun q hq H5 k5 B5 R hR => ?_) (fin D)⟩
        exact ⟨_, rfl, q.1, _, rfl, .inr (SqT.of (it q hq H5 k5)), rfl, rfl, _, rfl, hR _ _ (Kc.refl c H5) B5⟩
      refine ⟨_, rfl, rfl, _, rfl, ?_⟩
      refine ite2 (fun _ => ?_) (fun _ => ?_)
      · exact ⟨_, rfl, fin l H4 L (List.Sublist.refl L) PL4 (Kc.refl c H4) B4⟩
      refine ⟨_, rfl, _, rfl, l, rfl, ⟨_, SqL.of PL4.at_⟩, fun D hD => filt PL4 B4 W.2.2 hD (fun x => rfl) (fun x => rfl) (fun q hq H5 k5 B5 R hR => ?_) (fun H5 M sM pM k5 B5 => ?_)⟩
      · refine ⟨_, rfl, b, c, _, rfl, B5, by decide, by decide, fun H6 x k6 B6 x0 x1 => ?_⟩
        exact ⟨_, rfl, _, _, rfl, rfl, _, rfl, hR _ _ k6 B6⟩
      · have lM : M.length ≤ 64 := (W.sub sM).2.2
        refine ⟨b, c, D, _, rfl, B5, pM.at_, pM.ne, by rw [List.length_map]; omega, fun H6 p ys pm hp pc k6 B6 => ?_⟩
        obtain ⟨M2, e2, p2⟩ : ∃ M2 : List (Addr × Nat × Nat), ys = M2.map (fun q => V.ref q.1) ∧ M2.Perm M := perm_map pm
        subst e2
        have WM := W.sub sM
        refine h H6 p M2 ⟨hp, pc, fun q hq => k6.tup B5.lst (pM.tup q (p2.mem_iff.mp hq))⟩ ⟨?_, fun q hq => WM.2.1 q (p2.mem_iff.mp hq), by rw [p2.length_eq]; exact WM.2.2⟩ ((k4.trans k5).trans k6) B6
        exact ((p2.map _).nodup_iff).mpr WM.1
/-! ### a board's data -/
def spBoard : Sp := fun vs H Q _ => ∃ (b c : Addr), vs = [.ref b, vI 8] ∧ Box b c H ∧ ∀ H' t n l L, 1 ≤ n → n ≤ 8 → H' t = some (.tup [vI n, .ref l]) → PairsAt c H' l L → WaysOk n L → Kc c H H' → Box b c H' → Q (.ref t) H'
theorem sc__law_board : FnScope ["_law_box_here", "_law_most", "_law_many"] ["_law_box_here", "_law_most"] (defScope s__law_board) := ⟨rfl, rfl, rfl, by decide +kernel, rfl, by decide +kernel, by decide +kernel⟩
theorem ok_board (T : Tx K mg) : Has P w K mg base (He.ga K "_law_board") 4 ["_law_box_here", "_law_most"] spBoard := by
  obtain ⟨⟨fd_law_pick, F_law_pick, b_law_pick⟩, kp_law_pick⟩ := ok_pick (P := P) (w := w) (base := base) T
  obtain ⟨⟨fd_law_ways, F_law_ways, b_law_ways⟩, kp_law_ways⟩ := ok_ways (P := P) (w := w) (base := base) T
  obtain ⟨fd, F⟩ := T.d__law_board
  refine ⟨⟨fd, F.ok sc__law_board (fun vs H Q E h => ?_) (fun cdv A outer s H vs Q E hr h => ?_), F.bindsN fun _ _ _ _ _ _ us hl => match us, hl with | [_, _], _ => rfl⟩, F.kp⟩
  · obtain ⟨b, c, rfl, _⟩ := h
    rfl
  · obtain ⟨b, c, rfl, B, h⟩ := h
    have hr_law_pick : Room 1 _ := hr.mono (by decide)
    have hr_law_ways : Room 3 _ := hr.mono (by decide)
    refine ⟨_, PSs.nox (pss_cons (ps_set (i := 2) sc__law_board.nd rfl (Or.inl rfl) (pe_ifExp (pt_cmpR op_eq (pe_call F_law_pick hr_law_pick rfl T.glo_law_pick kp_law_pick b_law_pick .nil pass0 (pa_cons (pv 0) (pa_cons pe_int pa_nil))) pe_int (nomark _)) (pv 1) (pe_op op_add pe_int (pe_call F_law_pick hr_law_pick rfl T.glo_law_pick kp_law_pick b_law_pick .nil pass0 (pa_cons (pv 0) (pa_cons (pv 1) pa_nil))))))
      (pss_one (ps_ret (pe_tup (pa_cons (pv 2) (pa_cons (pe_call F_law_ways hr_law_ways rfl T.glo_law_ways kp_law_ways b_law_ways .nil pass0 (pa_cons (pv 0) (pa_cons (pv 2) pa_nil))) pa_nil)))))), ?_⟩
    refine ⟨_, rfl, b, c, _, rfl, B, by decide, by decide, fun H1 i k1 B1 i0 i1 => ?_⟩
    refine ⟨rfl, _, rfl, ?_⟩
    have fin : ∀ H2 (n : Nat), 1 ≤ n → n ≤ 8 → Kc c H H2 → Box b c H2 → spWays [.ref b, vI n] H2 (fun v H3 => 2 ≤ sizeLine ∧ ∀ t, H3 t = none → Q (.ref t) (upd H3 t (.tup [vI n, v]))) (fun _ _ _ => False) := fun H2 n n1 n8 k2 B2 =>
      ⟨b, c, n, rfl, B2, n1, n8, fun H3 l L pL WL k3 B3 => ⟨by decide, fun t ht => h _ t n l L n1 n8 upd_same (pL.same (same_upd ht)) WL ((k2.trans k3).trans (kc_same (same_upd ht))) (B3.same (same_upd ht))⟩⟩
    refine ite2 (fun _ => ?_) (fun _ => ?_)
    · refine ⟨_, rfl, ?_⟩
      exact ⟨_, rfl, _, rfl, _, rfl, fin H1 8 (by decide) (by decide) k1 B1⟩
    · refine ⟨_, rfl, _, rfl, b, c, _, rfl, B1, by decide, by decide, fun H2 j k2 B2 j0 j1 => ?_⟩
      obtain ⟨m, rfl⟩ : ∃ m : Nat, j = (m : Nat) := ⟨j.toNat, by omega⟩
      have e : (1 : Int) + (m : Nat) = ((m + 1 : Nat) : Int) := by omega
      refine ⟨_, _, rfl, rfl, ?_⟩
      have := fin H2 (m + 1) (by omega) (by omega) (k1.trans k2) B2
      refine ⟨_, rfl, _, rfl, _, rfl, ?_⟩
      show spWays [.ref b, .int (1 + (m : Nat))] H2 (fun v H3 => 2 ≤ sizeLine ∧ ∀ t, H3 t = none → Q (.ref t) (upd H3 t (.tup [.int (1 + (m : Nat)), v]))) (fun _ _ _ => False)
      rw [e]
      exact this
end
end RL
namespace RL
open PySem PySem.Spec PyProof.Rows L2 RLM
theorem rep_flat {α : Type} (x : α) : ∀ k : Nat, (List.replicate k [x]).flatten = List.replicate k x
  | 0 => rfl
  | k + 1 => by
    rw [List.replicate_succ, List.flatten_cons, rep_flat x k]
    rfl
theorem menu_small {xs : List V} {x : V} (h : x ∈ xs) (hs : xs.all (fun v => match v with | .int i => decide (0 ≤ i ∧ i ≤ 7) | _ => false) = true) : ∃ p : Nat, x = vI p ∧ p ≤ 7 := by
  have := List.all_eq_true.mp hs x h
  cases x with
  | int i =>
    have z : 0 ≤ i ∧ i ≤ 7 := of_decide_eq_true this
    refine ⟨i.toNat, ?_, by omega⟩
    show V.int i = V.int (i.toNat : Nat)
    rw [Int.toNat_of_nonneg z.1]
  | _ => cases this
section
variable {P : Program} {w : World} {K : PySem.W.Frag} {mg : Str → Option Value} {base : Heap}
def spPace : Sp := fun vs H Q _ => ∃ (b c : Addr) (n : Nat), vs = [.ref b, vI n] ∧ Box b c H ∧ 1 ≤ n ∧ n ≤ 8 ∧ ∀ H' t (ps : List Nat), ps.length = n → (∀ p ∈ ps, p ≤ 7) → H' t = some (.tup (ps.map vI)) → Kc c H H' → Box b c H' → Q (.ref t) H'
theorem sc__law_pace : FnScope ["_law_box_here", "_law_many", "_law_k"] ["_law_box_here", "_law_many"] (defScope s__law_pace) := ⟨rfl, rfl, rfl, by decide +kernel, rfl, by decide +kernel, by decide +kernel⟩
theorem ok_pace (T : Tx K mg) : Has P w K mg base (He.ga K "_law_pace") 3 ["_law_box_here", "_law_many"] spPace := by
  obtain ⟨⟨fd_law_pick, F_law_pick, b_law_pick⟩, kp_law_pick⟩ := ok_pick (P := P) (w := w) (base := base) T
  obtain ⟨⟨fd_law_from, F_law_from, b_law_from⟩, kp_law_from⟩ := ok_from (P := P) (w := w) (base := base) T
  obtain ⟨fd, F⟩ := T.d__law_pace
  refine ⟨⟨fd, F.ok sc__law_pace (fun vs H Q E h => ?_) (fun cdv A outer s H vs Q E hr h => ?_), F.bindsN fun _ _ _ _ _ _ us hl => match us, hl with | [_, _], _ => rfl⟩, F.kp⟩
  · obtain ⟨b, c, n, rfl, _⟩ := h
    rfl
  · obtain ⟨b, c, n, rfl, B, n1, n8, h⟩ := h
    have hr_law_pick : Room 1 _ := hr.mono (by decide)
    have hr_law_from : Room 2 _ := hr.mono (by decide)
    refine ⟨_, PSs.nox (pss_cons (ps_if (pt_cmpR op_eq (pe_call F_law_pick hr_law_pick rfl T.glo_law_pick kp_law_pick b_law_pick .nil pass0 (pa_cons (pv 0) (pa_cons pe_int pa_nil))) pe_int (nomark _)) (pss_one (ps_ret (pe_op (repTK (K := K)) (pe_tup (pa_cons (pe_call F_law_from hr_law_from rfl T.glo_law_from kp_law_from b_law_from .nil pass0 (pa_cons (pv 0) (pa_cons (pe_lst (pa_cons pe_int (pa_cons pe_int (pa_cons pe_int (pa_cons pe_int (pa_cons pe_int (pa_cons pe_int pa_nil))))))) pa_nil))) pa_nil)) (pv 1)))) pss_nil)
      (pss_one (ps_ret (pe_callTy (tupK (K := K)) (by rfl) T.free_tuple (by decide +kernel) (pa_cons (pe_lc (own := [("_law_k", 2)]) (g := (gName 2)) (tt := tYes) rfl sc__law_pace.nd (pi_range1 (by rfl) T.free_range (pa_cons (pv 1) pa_nil)) (blkOk_by (by kernel_rfl)) (fun _ _ _ _ _ => (pg_name (i := 2) sc__law_pace.nd rfl (Or.inl rfl))) (fun _ _ _ _ _ => pts_nil) (fun _ _ _ _ _ => (pe_call F_law_from hr_law_from rfl T.glo_law_from kp_law_from b_law_from .nil pass0 (pa_cons (pv 0) (pa_cons (pe_lst (pa_cons pe_int (pa_cons pe_int (pa_cons pe_int (pa_cons pe_int (pa_cons pe_int (pa_cons pe_int (pa_cons pe_int (pa_cons pe_int (pa_cons pe_int pa_nil)))))))))) pa_nil))))) pa_nil))))), ?_⟩
    refine ⟨_, rfl, b, c, _, rfl, B, by decide, by decide, fun H1 i k1 B1 i0 i1 => ?_⟩
    refine ⟨rfl, _, rfl, ?_⟩
    refine ite2 (fun _ => ?_) (fun _ => ?_)
    · refine ⟨_, rfl, (by show 6 ≤ sizeLine; decide), fun l hl => ?_⟩
      have s2 := same_upd (o := HO.lst [V.int 0, V.int 1, V.int 1, V.int 2, V.int 3, V.int 7]) hl
      refine ⟨b, c, l, _, rfl, B1.same s2, upd_same, (B1.new hl).1, by decide, by decide, fun H3 x k3 B3 hx => ?_⟩
      obtain ⟨p, rfl, p7⟩ := menu_small hx (by decide)
      refine ⟨(by show 1 ≤ sizeLine; decide), fun t ht => ?_⟩
      have s4 := same_upd (o := HO.tup [vI p]) ht
      have k4 : Kc c H (upd H3 t (.tup [vI p])) := ((k1.trans (kc_same s2)).trans k3).trans (kc_same s4)
      refine ⟨_, rfl, t, (n : Int), _, rfl, rfl, SqT.of upd_same, by simp, by omega, by omega, (by show 1 ≤ 1000; decide), fun e => ?_, fun q hq => ?_⟩
      · have e1 : n = 1 := by omega
        subst e1
        exact h _ t [p] rfl (by simp [p7]) upd_same k4 (B3.same s4)
      · have s5 := same_upd (o := HO.tup (List.replicate (n : Int).toNat [vI p]).flatten) hq
        refine h _ q (List.replicate n p) (by simp) (fun z hz => by rw [(List.mem_replicate.mp hz).2]; exact p7) ?_ (k4.trans (kc_same s5)) ((B3.same s4).same s5)
        rw [upd_same, rep_flat, List.map_replicate, Int.toNat_natCast]
    · refine ⟨_, rfl, (n : Int), rfl, by omega, by omega, fun D hD => ?_⟩
      have s2 : Same H1 (upd H1 D (.lst [])) := same_upd hD
      have Dc := (B1.new hD).1
      have Db := (B1.new hD).2
      refine lc_range (lo := 0) (n := ((n : Nat) : Int).toNat) (fun j H2 => ∃ ps : List Nat, ps.length = j ∧ (∀ p ∈ ps, p ≤ 7) ∧ H2 D = some (.lst (ps.map vI)) ∧ Kc c H1 H2 ∧ Box b c H2)
        ⟨[], rfl, by simp, upd_same, kc_same s2, B1.same s2⟩ ?_ ?_
      · rintro j H2 hj ⟨ps, lp, p7, hp, k2, B2⟩
        refine ⟨rfl, ?_⟩
        unfold tYes
        refine iteT ?_
        refine ⟨_, rfl, (by show 9 ≤ sizeLine; decide), fun l hl => ?_⟩
        have s3 := same_upd (o := HO.lst [V.int 0, V.int 1, V.int 1, V.int 2, V.int 3, V.int 4, V.int 5, V.int 6, V.int 7]) hl
        refine ⟨b, c, l, _, rfl, B2.same s3, upd_same, (B2.new hl).1, by decide, by decide, fun H3 x k3 B3 hx => ?_⟩
        obtain ⟨p, rfl, pp⟩ := menu_small hx (by decide)
        have k4 := (k2.trans (kc_same s3)).trans k3
        have hp3 : H3 D = some (.lst (ps.map vI)) := k3 _ _ Dc (fun _ z => by cases z) (s3 _ _ hp)
        refine ⟨_, hp3, ?_, ps ++ [p], by simp [lp], fun z hz => ?_, ?_, k4.upd hD, B3.upd Dc Db⟩
        · rw [List.length_map]
          exact Nat.lt_of_le_of_lt (show ps.length ≤ 8 by omega) (by decide)
        · rcases List.mem_append.mp hz with hz | hz
          · exact p7 z hz
          · rw [List.mem_singleton.mp hz]
            exact pp
        · rw [upd_same, List.map_append]
          rfl
      · rintro H2 ⟨ps, lp, p7, hp, k2, B2⟩
        refine ⟨D, _, rfl, .inl ⟨SqL.of hp, fun t ht => ?_⟩⟩
        have s3 := same_upd (o := HO.tup (ps.map vI)) ht
        exact h _ t ps (by omega) p7 upd_same ((k1.trans k2).trans (kc_same s3)) (B2.same s3)
/-! ### lots -/
def spLot : Sp := fun vs H Q _ => ∃ (b c : Addr) (n : Nat), vs = [.ref b, vI n] ∧ Box b c H ∧ 1 ≤ n ∧ n ≤ 8 ∧ ∀ H' t p, H' t = some (.tup ((lotP n p).map vI)) → Kc c H H' → Box b c H' → Q (.ref t) H'
theorem rg_range (n : Nat) : rgV 0 (n : Int) = (List.range n).map vI := by
  unfold rgV
  rw [Int.sub_zero, Int.toNat_natCast]
  refine List.map_congr_left fun i _ => ?_
  show V.int (0 + (i : Nat)) = V.int (i : Nat)
  rw [Int.zero_add]
theorem lotP_true (n : Nat) : lotP n (fun _ => True) = List.range n := (lotP_of (range_sorted n) fun b => by simp [List.mem_range]).symm
theorem sc__law_lot : FnScope ["_law_box_here", "_law_many", "_law_thick", "_law_place"] ["_law_box_here", "_law_many"] (defScope s__law_lot) := ⟨rfl, rfl, rfl, by decide +kernel, rfl, by decide +kernel, by decide +kernel⟩
theorem ok_lot (T : Tx K mg) : Has P w K mg base (He.ga K "_law_lot") 2 ["_law_box_here", "_law_many"] spLot := by
  obtain ⟨⟨fd_law_pick, F_law_pick, b_law_pick⟩, kp_law_pick⟩ := ok_pick (P := P) (w := w) (base := base) T
  obtain ⟨fd, F⟩ := T.d__law_lot
  refine ⟨⟨fd, F.ok sc__law_lot (fun vs H Q E h => ?_) (fun cdv A outer s H vs Q E hr h => ?_), F.bindsN fun _ _ _ _ _ _ us hl => match us, hl with | [_, _], _ => rfl⟩, F.kp⟩
  · obtain ⟨b, c, n, rfl, _⟩ := h
    rfl
  · obtain ⟨b, c, n, rfl, B, n1, n8, h⟩ := h
    have hr_law_pick : Room 1 _ := hr.mono (by decide)
    refine ⟨_, PSs.nox (pss_cons (ps_if (pt_cmpR op_eq (pe_call F_law_pick hr_law_pick rfl T.glo_law_pick kp_law_pick b_law_pick .nil pass0 (pa_cons (pv 0) (pa_cons pe_int pa_nil))) pe_int (nomark _)) (pss_one (ps_ret (pe_tupRg rfl (by rfl) T.free_tuple (prg_1 (by rfl) T.free_range (pv 1))))) pss_nil)
      (pss_cons (ps_set (i := 2) sc__law_lot.nd rfl (Or.inr rfl) (pe_op op_add pe_int (pe_call F_law_pick hr_law_pick rfl T.glo_law_pick kp_law_pick b_law_pick .nil pass0 (pa_cons (pv 0) (pa_cons pe_int pa_nil)))))
      (pss_one (ps_ret (pe_callTy (tupK (K := K)) (by rfl) T.free_tuple (by decide +kernel) (pa_cons (pe_lc (own := [("_law_place", 3)]) (g := (gName 3)) rfl sc__law_lot.nd (pi_range1 (by rfl) T.free_range (pa_cons (pv 1) pa_nil)) (blkOk_by (by kernel_rfl)) (fun _ _ _ _ _ => (pg_name (i := 3) sc__law_lot.nd rfl (Or.inl rfl))) (fun _ _ _ _ _ => (pts_one (pt_cmpR op_lt (pe_call F_law_pick hr_law_pick rfl T.glo_law_pick kp_law_pick b_law_pick .nil pass0 (pa_cons (pv 0) (pa_cons pe_int pa_nil))) (pv 2) (nomark _)))) (fun _ _ _ _ _ => (pv 3))) pa_nil)))))), ?_⟩
    refine ⟨_, rfl, b, c, _, rfl, B, by decide, by decide, fun H1 i k1 B1 i0 i1 => ?_⟩
    refine ⟨rfl, _, rfl, ?_⟩
    refine ite2 (fun _ => ?_) (fun _ => ?_)
    · refine ⟨_, rfl, (n : Int), rfl, RgOk.of_le (by decide) (by omega) (by decide) (by omega), fun q hq => ?_⟩
      have s2 := same_upd (o := HO.tup (rgV 0 (n : Int))) hq
      refine h _ q (fun _ => True) ?_ (k1.trans (kc_same s2)) (B1.same s2)
      rw [upd_same, rg_range, lotP_true]
    · refine ⟨_, rfl, b, c, _, rfl, B1, by decide, by decide, fun H2 j k2 B2 j0 j1 => ?_⟩
      refine ⟨_, _, rfl, rfl, ?_⟩
      refine ⟨_, rfl, (n : Int), rfl, by omega, by omega, fun D hD => ?_⟩
      have s3 : Same H2 (upd H2 D (.lst [])) := same_upd hD
      have Dc := (B2.new hD).1
      have Db := (B2.new hD).2
      refine lc_range (lo := 0) (n := ((n : Nat) : Int).toNat) (fun j H3 => ∃ ps : List Nat, ps.Sublist (List.range j) ∧ H3 D = some (.lst (ps.map vI)) ∧ Kc c H2 H3 ∧ Box b c H3)
        ⟨[], by simp, upd_same, kc_same s3, B2.same s3⟩ ?_ ?_
      · rintro j H3 hj ⟨ps, sp, hp, k3, B3⟩
        refine ⟨rfl, _, rfl, b, c, _, rfl, B3, by decide, by decide, fun H4 x k4 B4 x0 x1 => ?_⟩
        refine ⟨_, rfl, _, _, rfl, rfl, _, rfl, ?_⟩
        have hp4 : H4 D = some (.lst (ps.map vI)) := k4 _ _ Dc (fun _ z => by cases z) hp
        have lp : ps.length ≤ 8 := Nat.le_trans sp.length_le (by rw [List.length_range]; omega)
        refine ite2 (fun _ => ?_) (fun _ => ?_)
        · refine ⟨_, rfl, _, hp4, ?_, ps ++ [j], ?_, ?_, (k3.trans k4).upd hD, B4.upd Dc Db⟩
          · rw [List.length_map]
            exact Nat.lt_of_le_of_lt lp (by decide)
          · rw [List.range_succ]
            exact sp.append (List.Sublist.refl _)
          · rw [upd_same, List.map_append, Int.zero_add]
            rfl
        · refine ⟨ps, ?_, hp4, k3.trans k4, B4⟩
          rw [List.range_succ]
          exact sp.trans (List.sublist_append_left _ _)
      · rintro H3 ⟨ps, sp, hp, k3, B3⟩
        rw [Int.toNat_natCast] at sp
        refine ⟨D, _, rfl, .inl ⟨SqL.of hp, fun t ht => ?_⟩⟩
        have s4 := same_upd (o := HO.tup (ps.map vI)) ht
        refine h _ t (fun b => b ∈ ps) ?_ (((k1.trans k2).trans k3).trans (kc_same s4)) (B3.same s4)
        rw [upd_same, ← lotP_of (n := n) (p := fun b => b ∈ ps) ((range_sorted n).sublist sp) fun b => ⟨fun hb => ⟨List.mem_range.mp (sp.subset hb), hb⟩, fun hb => hb.2⟩]
/-! ### two lots put together -/
def spJoined : Sp := fun vs H Q _ => ∃ (s t : Addr) (n : Nat) (p q : Nat → Prop), vs = [.ref s, .ref t] ∧ H s = some (.tup ((lotP n p).map vI)) ∧ H t = some (.tup ((lotP n q).map vI)) ∧ n ≤ 8 ∧ ∀ H' u, H' u = some (.tup ((lotP n fun b => p b ∨ q b).map vI)) → Same H H' → Q (.ref u) H'
def nI (k : Nat) : Int := (k : Nat)
theorem vI_map (xs : List Nat) : xs.map vI = (xs.map nI).map V.int := by
  rw [List.map_map]
  rfl
/-- a rising list of ints that has just the places of a lot is it -/
theorem rise_lot {n : Nat} {p : Nat → Prop} {ns : List Int} (h : ns.Pairwise (· < ·)) (hm : ∀ k : Int, k ∈ ns ↔ ∃ b : Nat, k = nI b ∧ b < n ∧ p b) : ns.map V.int = (lotP n p).map vI := by
  have e : ns = (ns.map Int.toNat).map nI := by
    rw [List.map_map]
    refine (List.map_id' ns).symm.trans (List.map_congr_left fun k hk => ?_)
    obtain ⟨b, rfl, _⟩ := (hm k).1 hk
    rfl
  have s2 : (ns.map Int.toNat).Pairwise (· < ·) := by
    rw [List.pairwise_map]
    refine h.imp_of_mem fun {x y} hx hy hxy => ?_
    obtain ⟨a, rfl, _⟩ := (hm x).1 hx
    obtain ⟨b, rfl, _⟩ := (hm y).1 hy
    have : (a : Int) < (b : Int) := hxy
    show a < b
    omega
  have : ns.map Int.toNat = lotP n p := by
    refine lotP_of s2 fun b => ⟨fun hb => ?_, fun hb => ?_⟩
    · obtain ⟨k, hk, rfl⟩ := List.mem_map.mp hb
      obtain ⟨b, rfl, hb2⟩ := (hm k).1 hk
      exact hb2
    · exact List.mem_map.mpr ⟨nI b, (hm _).2 ⟨b, rfl, hb⟩, rfl⟩
  rw [vI_map, ← this, ← e]
end
end RL
namespace RL
open PySem PySem.Spec PyProof.Rows L2 RLM
section
variable {P : Program} {w : World} {K : PySem.W.Frag} {mg : Str → Option Value} {base : Heap}
def pairL (q : Nat × Nat) : List Int := [nI q.1, nI q.2]
theorem pairL_inj {a b : Nat × Nat} (h : pairL a = pairL b) : a = b := by
  unfold pairL nI at h
  simp at h
  exact Prod.ext (by omega) (by omega)
/-- a list of ways that a set of tuples tells -/
def toT (q : Addr × Nat × Nat) : Addr × List Int := (q.1, pairL q.2)
def lexLt (a b : Nat × Nat) : Prop := a.1 < b.1 ∨ (a.1 = b.1 ∧ a.2 < b.2)
def spRising (K : PySem.W.Frag) : Sp := fun vs H Q _ => ∃ (n : Nat) (l : Addr) (L : List (Addr × Nat × Nat)), vs = [vI n, .ref l] ∧ H l = some (.lst (L.map fun q => V.ref q.1)) ∧ (∀ q ∈ L, H q.1 = some (.tup [vI q.2.1, vI q.2.2])) ∧ WaysOk n L ∧ n ≤ 8 ∧ L.length < 63 ∧
  ∀ (H' : Hp) (p : Addr) (M : List (Addr × Nat × Nat)), H' p = some (.lst (M.map fun q => V.ref q.1)) → (∀ q ∈ M, H' q.1 = some (.tup [vI q.2.1, vI q.2.2])) → (∀ e, e ∈ M.map (·.2) ↔ e ∈ L.map (·.2)) → (M.map (·.2)).Pairwise lexLt → Same H H' → H p = none → Q (.ref p) H'
theorem sc_rising_ways : FnScope ["many", "ways", "seen", "at", "one", "other"] ["many", "ways"] (defScope s_rising_ways) := ⟨rfl, rfl, rfl, by decide +kernel, rfl, by decide +kernel, by decide +kernel⟩
theorem ok_rising (T : Tx K mg) : Has P w K mg base (He.ga K "rising_ways") 3 ["many", "ways"] (spRising K) := by
  obtain ⟨⟨fd_is_between, F_is_between, b_is_between⟩, kp_is_between⟩ := ok_is_between (P := P) (w := w) (base := base) T
  obtain ⟨fd, F⟩ := T.d_rising_ways
  refine ⟨⟨fd, F.ok sc_rising_ways (fun vs H Q E h => ?_) (fun cdv A outer s H vs Q E hr h => ?_), F.bindsN fun _ _ _ _ _ _ us hl => match us, hl with | [_, _], _ => rfl⟩, F.kp⟩
  · obtain ⟨n, l, L, rfl, _⟩ := h
    rfl
  · obtain ⟨n, l, L, rfl, hl, tL, W, n8, len, h⟩ := h
    have hr_is_between : Room 2 _ := hr.mono (by decide)
    refine ⟨_, PSs.nox (pss_cons (ps_set (i := 2) sc_rising_ways.nd rfl (Or.inl rfl) (pe_callTy0 (set0T (P := P) (w := w)) (by rfl) T.free_set (by decide +kernel)))
      (pss_cons (ps_for PassesOwn.never rfl (piEnum (K := K) (by rfl) T.free_enumerate (pa_cons (pv 1) pa_nil)) (pgT (K := K) (n := 2) rfl (pgs_cons (pg_name (i := 3) sc_rising_ways.nd rfl (Or.inl rfl)) (pgs_cons (pgT (K := K) (n := 2) rfl (pgs_cons (pg_name (i := 4) sc_rising_ways.nd rfl (Or.inl rfl)) (pgs_cons (pg_name (i := 5) sc_rising_ways.nd rfl (Or.inl rfl)) pgs_nil))) pgs_nil))) (pss_cons (ps_if (PW.pt (pw_or (pt_not (pt_val (pe_call F_is_between hr_is_between rfl T.glo_is_between kp_is_between b_is_between .nil pass0 (pa_cons (pv 4) (pa_cons pe_int (pa_cons (pe_op op_sub (pv 0) pe_int) pa_nil)))))) (pw_or1 (pt_not (pt_val (pe_call F_is_between hr_is_between rfl T.glo_is_between kp_is_between b_is_between .nil pass0 (pa_cons (pv 5) (pa_cons pe_int (pa_cons (pe_op op_sub (pv 0) pe_int) pa_nil))))))))) (pss_one ps_never) pss_nil)
      (pss_cons (ps_if (PW.pt (pw_or (pt_cmpR op_eq (pv 4) (pv 5) (nomark _)) (pw_or1 (pt_cmpR (inT (K := K) (P := P) (w := w) hr.units) (pe_tup (pa_cons (pv 4) (pa_cons (pv 5) pa_nil))) (pv 2) (by rfl))))) (pss_one ps_never) pss_nil)
      (pss_one (ps_expr (pe_addT (K := K) (P := P) (w := w) hr.units (pv 2) (pa_cons (pe_tup (pa_cons (pv 4) (pa_cons (pv 5) pa_nil))) pa_nil)))))))
      (pss_one (ps_ret (pe_callB (sortSetT (K := K) (P := P) (w := w)) (by rfl) T.free_sorted (by decide +kernel) (pa_cons (pv 2) pa_nil)))))), ?_⟩
    refine ⟨rfl, fun a ha => ?_⟩
    have s0 : Same H (upd H a (SetTO P w a [])) := same_upd ha
    refine ⟨_, rfl, l, _, rfl, SqL.of (s0 _ _ hl), for_it (walk_enum (K := K) (a := l) (xs := L.map fun q => V.ref q.1)) (fun i σ H1 => ∃ (M : List (Addr × Nat × Nat)) (S : List (Addr × List Int)) (v3 v4 v5 : Option V), σ = [some (vI n), some (.ref l), some (.ref a), v3, v4, v5] ∧ S.Perm (M.map toT) ∧ H1 a = some (SetTO P w a S) ∧ (∀ q ∈ M, H1 q.1 = some (.tup [vI q.2.1, vI q.2.2])) ∧ (∀ e, e ∈ M.map (·.2) ↔ e ∈ (L.take i).map (·.2)) ∧ M.length = i ∧ Same H H1)
      ⟨[], [], none, none, none, rfl, by simp, upd_same, fun q hq => (by cases hq), by simp, rfl, s0⟩ (fun i σ H1 _ ⟨_, _, _, _, _, _, _, _, _, _, _, s1⟩ => SqL.of (s1 _ _ hl)) ?_ ?_⟩
    · rintro i x σ H1 H2 hi ⟨M, S, v3, v4, v5, rfl, pm, hS, tM, mM, lM, s1⟩ ⟨t, x1, x2, rfl, ht, rfl, e1, e2⟩
      rw [List.length_map] at hi
      have eq : L[i]? = some L[i] := List.getElem?_eq_getElem hi
      generalize L[i] = q at eq
      have mq : q ∈ L := List.mem_of_getElem? eq
      obtain ⟨w1, w2, w3⟩ := W.2.1 q mq
      cases (Option.some.inj e1)
      have ex2 : x2 = V.ref q.1 := by
        have e3 : (L.map fun q => V.ref q.1)[i]? = some x2 := e2
        rw [List.getElem?_map, eq] at e3
        exact (Option.some.inj e3).symm
      subst ex2
      have s2 : Same H1 (upd H1 t (.tup [.int (i : Nat), .ref q.1])) := same_upd ht
      have tq := s2 _ _ (s1 _ _ (tL q mq))
      refine ⟨t, _, rfl, SqT.of upd_same, rfl, _, _, rfl, _, _, rfl, q.1, _, rfl, SqT.of tq, rfl, _, _, rfl, _, _, rfl, rfl, rfl, ?_⟩
      have hS2 := s2 _ _ hS
      have tM2 : ∀ m ∈ M, (upd H1 t (.tup [.int (i : Nat), .ref q.1])) m.1 = some (.tup [vI m.2.1, vI m.2.2]) := fun m hm => s2 _ _ (tM m hm)
      have s3 : Same H (upd H1 t (.tup [.int (i : Nat), .ref q.1])) := s1.trans s2
      generalize upd H1 t (.tup [.int (i : Nat), .ref q.1]) = H3 at hS2 tM2 s3
      refine ⟨_, rfl, _, rfl, _, _, rfl, rfl, _, _, _, rfl, _, rfl, iteNS ⟨by omega, by omega⟩ ?_⟩
      refine ⟨_, rfl, _, rfl, _, _, rfl, rfl, _, _, _, rfl, _, rfl, iteNS ⟨by omega, by omega⟩ ?_⟩
      refine ⟨_, rfl, _, rfl, rfl, _, rfl, ?_⟩
      have ne : ¬ (vI q.2.1 = vI q.2.2) := fun z => w3 (by
        have z1 : V.int (q.2.1 : Nat) = V.int (q.2.2 : Nat) := z
        injection z1 with z2
        omega)
      refine ite2 (fun z => absurd (of_decide_eq_true z) ne) (fun _ => ?_)
      have et : L.take (i + 1) = L.take i ++ [q] := by
        rw [List.take_add_one, eq]
        rfl
      have nin : pairL q.2 ∉ S.map (·.2) := fun hm => by
        obtain ⟨p, hp, ep⟩ := List.mem_map.mp hm
        obtain ⟨m, hm, rfl⟩ := List.mem_map.mp (pm.mem_iff.mp hp)
        have em : m.2 = q.2 := pairL_inj ep
        have h1 : q.2 ∈ (L.take i).map (·.2) := (mM q.2).1 (em ▸ List.mem_map.mpr ⟨m, hm, rfl⟩)
        have nd : ((L.take (i + 1)).map (·.2)).Nodup := ((List.take_sublist _ _).map _).nodup W.1
        rw [et, List.map_append, List.nodup_append] at nd
        exact nd.2.2 _ h1 _ (by simp) rfl
      have TA : ∀ H4, (∀ m ∈ M, H4 m.1 = some (.tup [vI m.2.1, vI m.2.2])) → TupsAt K H4 S := fun H4 h4 p hp => by
        obtain ⟨m, hm, rfl⟩ := List.mem_map.mp (pm.mem_iff.mp hp)
        exact SqT.of (h4 m hm)
      refine ⟨_, rfl, _, rfl, (by show 2 ≤ sizeLine; decide), fun u hu => ?_⟩
      have s4 : Same H3 (upd H3 u (.tup [vI q.2.1, vI q.2.2])) := same_upd hu
      refine ⟨_, rfl, u, a, pairL q.2, S, rfl, rfl, SqT.of upd_same, s4 _ _ hS2, TA _ fun m hm => s4 _ _ (tM2 m hm), _, rfl, ?_⟩
      rw [decide_eq_false nin]
      refine iteF ?_
      have hS4 := s4 _ _ hS2
      have tM4 : ∀ m ∈ M, (upd H3 u (.tup [vI q.2.1, vI q.2.2])) m.1 = some (.tup [vI m.2.1, vI m.2.2]) := fun m hm => s4 _ _ (tM2 m hm)
      have s5 := s3.trans s4
      generalize upd H3 u (.tup [vI q.2.1, vI q.2.2]) = H4 at hS4 tM4 s5
      refine ⟨_, rfl, ⟨a, S, rfl, hS4⟩, _, rfl, _, rfl, (by show 2 ≤ sizeLine; decide), fun v hv => ?_⟩
      have s6 : Same H4 (upd H4 v (.tup [vI q.2.1, vI q.2.2])) := same_upd hv
      have lS : S.length < 63 := by
        rw [pm.length_eq, List.length_map, lM]
        omega
      refine ⟨a, v, pairL q.2, S, rfl, rfl, SqT.of upd_same, s6 _ _ hS4, TA _ fun m hm => s6 _ _ (tM4 m hm), lS, nin, fun S' pm' => ?_⟩
      have nva : v ≠ a := fun z => by
        rw [z, hS4] at hv
        cases hv
      refine ⟨M ++ [(v, q.2)], S', _, _, _, rfl, ?_, upd_same, fun m hm => ?_, fun e => ?_, by simp [lM], same_mut (s5.trans s6) ha⟩
      · rw [List.map_append]
        refine pm'.trans ((pm.cons _).trans ?_)
        exact List.perm_append_comm (l₁ := [toT (v, q.2)])
      · rcases List.mem_append.mp hm with hm | hm
        · have g := s6 _ _ (tM4 m hm)
          rw [upd_ne (ne_of g (s6 _ _ hS4) (by intro z; cases z))]
          exact g
        · rw [List.mem_singleton.mp hm, upd_ne nva, upd_same]
      · rw [et, List.map_append, List.map_append, List.mem_append, List.mem_append, mM e]
        rfl
    · rintro σ H1 ⟨M, S, v3, v4, v5, rfl, pm, hS, tM, mM, lM, s1⟩
      rw [List.length_map, List.take_length] at mM
      have inM : ∀ m ∈ M, m.2.1 < 8 ∧ m.2.2 < 8 := fun m hm => by
        obtain ⟨q, hq, e⟩ := List.mem_map.mp ((mM m.2).1 (List.mem_map.mpr ⟨m, hm, rfl⟩))
        have := W.2.1 q hq
        have e : q.2 = m.2 := e
        rw [← e]
        omega
      refine ⟨_, rfl, a, S, 2, 64, rfl, hS, fun p hp => ?_, by decide, fun p hp => ?_, fun S' p pm' nd few pw hp => ?_⟩
      · obtain ⟨m, hm, rfl⟩ := List.mem_map.mp (pm.mem_iff.mp hp)
        exact SqT.of (tM m hm)
      · obtain ⟨m, hm, rfl⟩ := List.mem_map.mp (pm.mem_iff.mp hp)
        have := inM m hm
        refine ⟨rfl, ?_⟩
        intro z hz
        have hz : z = nI m.2.1 ∨ z = nI m.2.2 := by simpa [toT, pairL] using hz
        unfold nI at hz
        omega
      · obtain ⟨M', rfl, pM⟩ := perm_map (pm'.trans pm)
        have e1 : (M'.map toT).map (fun q => V.ref q.1) = M'.map fun q => V.ref q.1 := by
          rw [List.map_map]
          rfl
        have s2 := same_upd (o := HO.lst ((M'.map toT).map fun q => V.ref q.1)) hp
        refine h _ p M' (by rw [upd_same, e1]) (fun q hq => s2 _ _ (tM q (pM.mem_iff.mp hq))) (fun e => ?_) ?_ (s1.trans s2) (s1.free hp)
        · rw [← mM e]
          exact (pM.map _).mem_iff
        · rw [List.pairwise_map] at pw ⊢
          have nd2 : M'.Pairwise (fun x y => pairL x.2 ≠ pairL y.2) := by
            have : ((M'.map toT).map (·.2)).Pairwise (· ≠ ·) := nd
            rw [List.map_map, List.pairwise_map] at this
            exact this
          refine (pw.and nd2).imp_of_mem fun {x y} hx hy ⟨c1, c2⟩ => ?_
          have bx := inM x (pM.mem_iff.mp hx)
          have by_ := inM y (pM.mem_iff.mp hy)
          have := pair_lt (x := nI x.2.1) (y := nI x.2.2) (x' := nI y.2.1) (y' := nI y.2.2) c1 c2 (by unfold nI; omega) (by unfold nI; omega) (by unfold nI; omega) (by unfold nI; omega)
          unfold nI at this
          unfold lexLt
          omega
end
end RL
namespace RL
open PySem PySem.Spec PyProof.Rows L2 RLM
theorem ixN_nat {n j : Nat} (h : j < n) : ixN n (j : Int) = some j := by
  unfold ixN
  have h1 : (0 : Int) ≤ (j : Int) := Int.natCast_nonneg j
  have h2 : (j : Int) < (n : Int) := by omega
  rw [if_pos h1, if_pos h2, Int.toNat_natCast]
theorem get_map {α β : Type} {f : α → β} {xs : List α} {i : Nat} {x : α} (h : xs[i]? = some x) : (xs.map f)[i]? = some (f x) := by
  rw [List.getElem?_map, h]
  rfl
/-- the leads' lists -/
structure LeadsAt (H : Hp) (ll : Addr) (n : Nat) (E : List (Nat × Nat)) (G : List (Addr × List Nat)) : Prop where
  at_ : H ll = some (.lst (G.map fun g => V.ref g.1))
  len : G.length = n
  each : ∀ (c : Nat) (g : Addr × List Nat), G[c]? = some g → H g.1 = some (.lst (g.2.map vI)) ∧ g.2.length ≤ 64 ∧ ∀ o, o ∈ g.2 ↔ (c, o) ∈ E
theorem LeadsAt.same {H H' : Hp} {ll : Addr} {n : Nat} {E : List (Nat × Nat)} {G : List (Addr × List Nat)} (s : Same H H') (h : LeadsAt H ll n E G) : LeadsAt H' ll n E G :=
  ⟨s _ _ h.at_, h.len, fun c g e => ⟨s _ _ (h.each c g e).1, (h.each c g e).2⟩⟩
section
variable {P : Program} {w : World} {K : PySem.W.Frag} {mg : Str → Option Value} {base : Heap}
def spFars : Sp := fun vs H Q _ => ∃ (ll : Addr) (a n : Nat) (E : List (Nat × Nat)) (G : List (Addr × List Nat)), vs = [.ref ll, vI a] ∧ LeadsAt H ll n E G ∧ On n E ∧ n ≤ 8 ∧ a < n ∧
  ∀ (H' : Hp) (p : Addr) (fs : List (Option Nat)), H' p = some (.lst (fs.map vO)) → H p = none → Fars n E a fs → Same H H' → Q (.ref p) H'
theorem sc_fars_from : FnScope ["leads", "place", "fars", "edge", "beyond", "one", "other"] ["leads", "place"] (defScope s_fars_from) := ⟨rfl, rfl, rfl, by decide +kernel, rfl, by decide +kernel, by decide +kernel⟩
theorem ok_fars (T : Tx K mg) : Has P w K mg base (He.ga K "fars_from") 1 ["leads", "place"] spFars := by
  obtain ⟨fd, F⟩ := T.d_fars_from
  refine ⟨⟨fd, F.ok sc_fars_from (fun vs H Q E h => ?_) (fun cdv A outer s H vs Q E hr h => ?_), F.bindsN fun _ _ _ _ _ _ us hl => match us, hl with | [_, _], _ => rfl⟩, F.kp⟩
  · obtain ⟨ll, a, n, E, G, rfl, _⟩ := h
    rfl
  · obtain ⟨ll, a, n, E, G, rfl, LA, hE, n8, an, h⟩ := h
    refine ⟨_, PSs.nox (pss_cons (ps_set (i := 2) sc_fars_from.nd rfl (Or.inl rfl) (pe_op op_rep (pe_lst (pa_cons pe_non pa_nil)) (pe_callB (lenK (K := K)) (by rfl) T.free_len (by decide +kernel) (pa_cons (pv 0) pa_nil))))
      (pss_cons (ps_asg pe_int (pg_sub (pv 2) (pv 1) set_list))
      (pss_cons (ps_set (i := 3) sc_fars_from.nd rfl (Or.inl rfl) (pe_lst (pa_cons (pv 1) pa_nil)))
      (pss_cons (ps_while PassesOwn.never (pt_truth (pv 3) (by intro _; rfl)) (pss_cons (ps_set (i := 4) sc_fars_from.nd rfl (Or.inl rfl) (pe_lst pa_nil))
      (pss_cons (ps_for PassesOwn.never rfl (piL (K := K) (pv 3)) (pg_name (i := 5) sc_fars_from.nd rfl (Or.inl rfl)) (pss_one (ps_for PassesOwn.never rfl (piL (K := K) (pe_ix (ixL (K := K)) (pv 0) (pv 5) (fun _ _ => rfl))) (pg_name (i := 6) sc_fars_from.nd rfl (Or.inl rfl)) (pss_one (ps_if (pt_cmpR op_isN (pe_ix (ixL (K := K)) (pv 2) (pv 6) (fun _ _ => rfl)) pe_non (nomark _)) (pss_cons (ps_asg (pe_op op_add (pe_ix (ixL (K := K)) (pv 2) (pv 5) (fun _ _ => rfl)) pe_int) (pg_sub (pv 2) (pv 6) set_list))
      (pss_one (ps_expr (bmK (K := K) PySem.F.plainAttrs_list PySem.F.slot_list_append PySem.F.type_list_append mt_append (pv 4) (pa_cons (pv 6) pa_nil))))) pss_nil)))))
      (pss_one (ps_set (i := 3) sc_fars_from.nd rfl (Or.inl rfl) (pv 4))))))
      (pss_one (ps_ret (pv 2))))))), ?_⟩
    refine ⟨(by show 1 ≤ sizeLine; decide), fun l0 hl0 => ?_⟩
    have s0 : Same H (upd H l0 (.lst [.non])) := same_upd hl0
    refine ⟨_, rfl, ll, _, rfl, .inl (SqL.of (s0 _ _ LA.at_)), l0, _, _, rfl, rfl, upd_same, ?_, ?_, ?_, fun pf hpf => ?_⟩
    · rw [List.length_map]
      omega
    · rw [List.length_map, LA.len]
      omega
    · rw [List.length_map, LA.len]
      show 1 * (n : Int).toNat ≤ sizeLine
      exact Nat.le_trans (show 1 * (n : Int).toNat ≤ 8 by omega) (by decide)
    have Hf : H pf = none := s0.free hpf
    have ef : (List.replicate (((G.map fun g => V.ref g.1).length : Nat) : Int).toNat [V.non]).flatten = (List.replicate n (none : Option Nat)).map vO := by
      rw [List.length_map, LA.len, Int.toNat_natCast, rep_flat, List.map_replicate]
      rfl
    rw [ef]
    refine ⟨_, rfl, _, rfl, pf, _, _, a, rfl, rfl, upd_same, ixN_nat (by simp [an]), ?_⟩
    have e2 : ((List.replicate n (none : Option Nat)).map vO).set a (V.int 0) = ((List.replicate n (none : Option Nat)).set a (some 0)).map vO := by
      rw [List.map_set]
      rfl
    rw [e2]
    refine ⟨_, rfl, (by show 1 ≤ sizeLine; decide), fun pe hpe => ?_⟩
    have s1 : Same H (upd (upd (upd (upd H l0 (.lst [.non])) pf (.lst ((List.replicate n (none : Option Nat)).map vO))) pf (.lst (((List.replicate n (none : Option Nat)).set a (some 0)).map vO))) pe (.lst [vI a])) :=
      (same_mut (same_mut s0 Hf) Hf).trans (same_upd hpe)
    have Hpe : H pe = none := (same_mut (same_mut s0 Hf) Hf).free hpe
    have nfe : pf ≠ pe := fun z => by
      rw [← z, upd_same] at hpe
      cases hpe
    refine ⟨fun m σ H1 => ∃ (l : Nat) (fs : List (Option Nat)) (edge : List Nat) (pe : Addr) (v4 v5 v6 : Option V), σ = [some (.ref ll), some (vI a), some (.ref pf), some (.ref pe), v4, v5, v6] ∧ H1 pf = some (.lst (fs.map vO)) ∧ H1 pe = some (.lst (edge.map vI)) ∧ pf ≠ pe ∧ H pe = none ∧ Lev n E a l fs edge ∧ edge.length ≤ 64 ∧ m = fs.count none + (if edge = [] then 0 else 1) ∧ Same H H1,
      ⟨_, 0, _, [a], pe, none, none, none, rfl, ?_, upd_same, nfe, Hpe, lev_start an, by simp, rfl, s1⟩, ?_⟩
    · rw [upd_ne nfe, upd_same]
    rintro m σ H1 ⟨l, fs, edge, pe, v4, v5, v6, rfl, hf, he, nfe, Hpe, LV, le, rfl, s1⟩
    refine ⟨_, rfl, _, .inl ⟨_, SqL.of he, rfl⟩, ?_⟩
    cases edge with
    | nil => exact iteF ⟨_, rfl, h H1 pf fs hf Hf (LV.fars hE an) s1⟩
    | cons c0 cs =>
    refine iteT ?_
    generalize hed : c0 :: cs = edge at LV le he
    have ne : edge ≠ [] := by rw [← hed]; exact List.cons_ne_nil _ _
    refine ⟨fun σ' H' => ∃ (fs' : List (Option Nat)) (bey : List Nat) (pb : Addr) (v5 v6 : Option V), σ' = [some (.ref ll), some (vI a), some (.ref pf), some (.ref pb), some (.ref pb), v5, v6] ∧ H' pf = some (.lst (fs'.map vO)) ∧ H' pb = some (.lst (bey.map vI)) ∧ pf ≠ pb ∧ H pb = none ∧ Lev n E a (l + 1) fs' bey ∧ fs'.count none + bey.length = fs.count none ∧ bey.length ≤ 64 ∧ Same H H', ?_, ?_⟩
    · rintro σ' H' ⟨fs', bey, pb, w5, w6, rfl, g1, g2, g3, g4, g5, g6, g7, g8⟩
      refine ⟨_, ?_, l + 1, fs', bey, pb, _, w5, w6, rfl, g1, g2, g3, g4, g5, g7, rfl, g8⟩
      rw [if_neg ne]
      cases bey with
      | nil => simp at g6 ⊢; omega
      | cons x y => simp at g6 ⊢; omega
    refine ⟨Nat.zero_le _, fun pb hpb => ?_⟩
    have s2 : Same H1 (upd H1 pb (.lst [])) := same_upd hpb
    have nfb : pf ≠ pb := ne_of_none hf hpb
    have neb : pe ≠ pb := ne_of_none he hpb
    have Hpb : H pb = none := s1.free hpb
    refine ⟨_, rfl, pe, rfl, ⟨_, SqL.of (s2 _ _ he)⟩, for_list (K := K) (a := pe) (xs := edge.map vI) (fun i σ H2 => ∃ (fs' : List (Option Nat)) (bey done : List Nat) (v5 v6 : Option V), σ = [some (.ref ll), some (vI a), some (.ref pf), some (.ref pe), some (.ref pb), v5, v6] ∧ H2 pf = some (.lst (fs'.map vO)) ∧ H2 pb = some (.lst (bey.map vI)) ∧ H2 pe = some (.lst (edge.map vI)) ∧ Mid n E l fs edge done fs' bey ∧ (∀ c o, c ∈ edge.take i → (c, o) ∈ E → o ∈ done) ∧ Same H H2)
      ⟨fs, [], [], v5, v6, rfl, s2 _ _ hf, upd_same, s2 _ _ he, mid_start LV.len, by simp, s1.trans s2⟩ (fun i σ H2 _ ⟨_, _, _, _, _, _, _, _, g, _⟩ => SqL.of g) ?_ ?_⟩
    · rintro i x σ H2 hx ⟨fs', bey, done, v5, v6, rfl, hf2, hb2, he2, MD, dn, s3⟩
      obtain ⟨c, hc, rfl⟩ : ∃ c, edge[i]? = some c ∧ vI c = x := by
        rw [List.getElem?_map] at hx
        cases e : edge[i]? with
        | none => rw [e] at hx; cases hx
        | some c => rw [e] at hx; exact ⟨c, rfl, Option.some.inj hx⟩
      have mc : c ∈ edge := List.mem_of_getElem? hc
      have fc : fs[c]? = some (some l) := (LV.edge_ c).1 mc
      have cn : c < n := by
        rw [← LV.len]
        exact (List.getElem?_eq_some_iff.mp fc).1
      obtain ⟨g, hg⟩ : ∃ g, G[c]? = some g := ⟨_, List.getElem?_eq_getElem (by rw [LA.len]; exact cn)⟩
      have LA2 := LA.same s3
      obtain ⟨hgl, gl, gE⟩ := LA2.each c g hg
      have et : edge.take (i + 1) = edge.take i ++ [c] := by
        rw [List.take_add_one, hc]
        rfl
      refine ⟨_, rfl, _, rfl, ll, _, _, _, rfl, rfl, SqL.of LA2.at_, atI_nat (get_map hg), g.1, rfl, ⟨_, SqL.of hgl⟩, for_list (K := K) (a := g.1) (xs := g.2.map vI) (fun j σ H3 => ∃ (fs' : List (Option Nat)) (bey done' : List Nat) (v6 : Option V), σ = [some (.ref ll), some (vI a), some (.ref pf), some (.ref pe), some (.ref pb), some (vI c), v6] ∧ H3 pf = some (.lst (fs'.map vO)) ∧ H3 pb = some (.lst (bey.map vI)) ∧ H3 pe = some (.lst (edge.map vI)) ∧ Mid n E l fs edge done' fs' bey ∧ (∀ o, o ∈ done → o ∈ done') ∧ (∀ o, o ∈ g.2.take j → o ∈ done') ∧ Same H H3)
        ⟨fs', bey, done, v6, rfl, hf2, hb2, he2, MD, fun _ z => z, by simp, s3⟩ (fun j σ H3 _ ⟨_, _, _, _, _, _, _, _, _, _, _, s4⟩ => SqL.of ((LA.same s4).each c g hg).1) ?_ ?_⟩
      · rintro j x σ H3 hx ⟨fs3, bey3, done3, v6, rfl, hf3, hb3, he3, MD3, d1, d2, s4⟩
        obtain ⟨o, ho, rfl⟩ : ∃ o, g.2[j]? = some o ∧ vI o = x := by
          rw [List.getElem?_map] at hx
          cases e : g.2[j]? with
          | none => rw [e] at hx; cases hx
          | some o => rw [e] at hx; exact ⟨o, rfl, Option.some.inj hx⟩
        have mo : (c, o) ∈ E := (gE o).1 (List.mem_of_getElem? ho)
        have on : o < fs3.length := by
          rw [MD3.len]
          exact (hE _ mo).2.1
        have eo : fs3[o]? = some fs3[o] := List.getElem?_eq_getElem on
        generalize fs3[o] = d at eo
        have et2 : g.2.take (j + 1) = g.2.take j ++ [o] := by
          rw [List.take_add_one, ho]
          rfl
        refine ⟨_, rfl, _, rfl, pf, _, _, _, rfl, rfl, SqL.of hf3, atI_nat (get_map eo), rfl, _, rfl, ?_⟩
        cases d with
        | some d =>
          refine iteF ⟨fs3, bey3, done3 ++ [o], _, rfl, hf3, hb3, he3, MD3.hit eo, fun o' ho' => List.mem_append_left _ (d1 o' ho'), fun o' ho' => ?_, s4⟩
          rw [et2] at ho'
          rcases List.mem_append.mp ho' with z | z
          · exact List.mem_append_left _ (d2 o' z)
          · exact List.mem_append_right _ z
        | none =>
          refine iteT ?_
          have fc3 : fs3[c]? = some (some l) := MD3.old c l fc
          refine ⟨_, rfl, _, rfl, pf, _, _, _, rfl, rfl, SqL.of hf3, atI_nat (get_map fc3), _, _, rfl, rfl, _, rfl, _, rfl, pf, _, _, o, rfl, rfl, hf3, ixN_nat (by simpa using on), ?_⟩
          have ez : (fs3.map vO).set o (V.int (((l : Nat) : Int) + 1)) = (fs3.set o (some (l + 1))).map vO := by
            rw [List.map_set]
            rfl
          rw [ez]
          have hb4 : (upd H3 pf (.lst ((fs3.set o (some (l + 1))).map vO))) pb = some (.lst (bey3.map vI)) := by
            rw [upd_ne nfb.symm]
            exact hb3
          have b64 : bey3.length ≤ 64 := by
            have c1 := MD3.cnt
            have c2 : fs.count none ≤ fs.length := List.count_le_length
            rw [LV.len] at c2
            omega
          refine ⟨_, rfl, .inl ⟨rfl, _, SqL.of hb4⟩, _, rfl, pb, _, _, rfl, rfl, hb4, ?_, ?_⟩
          · rw [List.length_map]
            exact Nat.lt_of_le_of_lt b64 (by decide)
          refine ⟨fs3.set o (some (l + 1)), bey3 ++ [o], done3 ++ [o], _, rfl, ?_, ?_, ?_, MD3.put LV.len eo mc mo, fun o' ho' => List.mem_append_left _ (d1 o' ho'), fun o' ho' => ?_, same_mut (same_mut s4 Hf) Hpb⟩
          · rw [upd_ne nfb, upd_same]
          · rw [upd_same, List.map_append]
            rfl
          · rw [upd_ne neb, upd_ne nfe.symm]
            exact he3
          · rw [et2] at ho'
            rcases List.mem_append.mp ho' with z | z
            · exact List.mem_append_left _ (d2 o' z)
            · exact List.mem_append_right _ z
      · rintro σ H3 ⟨fs3, bey3, done3, v6, rfl, hf3, hb3, he3, MD3, d1, d2, s4⟩
        rw [List.length_map, List.take_length] at d2
        refine ⟨fs3, bey3, done3, _, _, rfl, hf3, hb3, he3, MD3, fun c' o hc' ho => ?_, s4⟩
        rw [et] at hc'
        rcases List.mem_append.mp hc' with z | z
        · exact d1 o (dn c' o z ho)
        · rw [List.mem_singleton.mp z] at ho
          exact d2 o ((gE o).2 ho)
    · rintro σ H2 ⟨fs', bey, done, v5, v6, rfl, hf2, hb2, he2, MD, dn, s3⟩
      rw [List.length_map, List.take_length] at dn
      have c1 := MD.cnt
      have c2 : fs.count none ≤ fs.length := List.count_le_length
      rw [LV.len] at c2
      exact ⟨_, rfl, fs', bey, pb, _, _, rfl, hf2, hb2, nfb, Hpb, MD.next LV hE an dn, c1, by omega, s3⟩
end
end RL
namespace RL
open PySem PySem.Spec PyProof.Rows L2 RLM
section
variable {P : Program} {w : World} {K : PySem.W.Frag} {mg : Str → Option Value} {base : Heap}
def spInit (K : PySem.W.Frag) : Sp := fun vs H Q _ => ∃ (H0 : Hp) (x dx c l : Addr) (n : Nat) (L : List (Addr × Nat × Nat)), vs = [.ref x, vI n, .ref l] ∧ Same H0 H ∧ H0 x = none ∧ H x = some (.ins (cB K) dx []) ∧ (∃ ys, H0 c = some (.lst ys)) ∧
  H0 l = some (.lst (L.map fun q => V.ref q.1)) ∧ (∀ q ∈ L, H0 q.1 = some (.tup [vI q.2.1, vI q.2.2])) ∧ WaysOk n L ∧ 1 ≤ n ∧ n ≤ 8 ∧ L.length < 63 ∧
  ∀ (H' : Hp) (E : List (Nat × Nat)), BoardAt K c H' x n E → (∀ e, e ∈ E ↔ e ∈ L.map (·.2)) → E.Pairwise lexLt → Same H0 H' → Q .non H'
theorem sc_Board_init : FnScope ["self", "many", "ways", "place", "one", "other"] ["self", "many", "ways"] (defScope s_Board_init) := ⟨rfl, rfl, rfl, by decide +kernel, rfl, by decide +kernel, by decide +kernel⟩
theorem ok_init (T : Tx K mg) : Has P w K mg base (mB K "__init__") 4 ["self", "many", "ways"] (spInit K) := by
  obtain ⟨⟨fd_is_between, F_is_between, b_is_between⟩, kp_is_between⟩ := ok_is_between (P := P) (w := w) (base := base) T
  obtain ⟨⟨fd_rising_ways, F_rising_ways, b_rising_ways⟩, kp_rising_ways⟩ := ok_rising (P := P) (w := w) (base := base) T
  obtain ⟨⟨fd_fars_from, F_fars_from, b_fars_from⟩, kp_fars_from⟩ := ok_fars (P := P) (w := w) (base := base) T
  obtain ⟨fd, F⟩ := T.d_Board_init
  have hb : Binds K fd ["self", "many", "ways"] [] := by
    obtain ⟨ds, e, b⟩ := F.binds1 (ps := ["self", "many", "ways"]) 3 1 (List.cons_ne_nil _ _) rfl (fun T0 kV doc pm an cdv ct us its l1 l2 => match us, its, l1, l2 with
      | [_, _, _], [_], _, _ => ⟨_, rfl, rfl⟩)
    cases e
    exact b
  refine ⟨⟨fd, F.ok sc_Board_init (fun vs H Q E h => ?_) (fun cdv A outer s H vs Q E hr h => ?_), hb⟩, F.kp⟩
  · obtain ⟨H0, x, dx, c, l, n, L, rfl, _⟩ := h
    rfl
  · obtain ⟨H0, x, dx, c, l, n, L, rfl, s0, x0, hx, hc, hl, tL, W, n1, n8, len, h⟩ := h
    have hr_is_between : Room 2 _ := hr.mono (by decide)
    have hr_rising_ways : Room 3 _ := hr.mono (by decide)
    have hr_fars_from : Room 1 _ := hr.mono (by decide)
    refine ⟨_, PSs.nox (pss_cons (ps_if (pt_not (pt_val (pe_call F_is_between hr_is_between rfl T.glo_is_between kp_is_between b_is_between .nil pass0 (pa_cons (pv 1) (pa_cons pe_int (pa_cons (pe_glob (v := .int 8) rfl T.glob_MOST_PLACES.choose_spec ⟨_, rfl⟩) pa_nil)))))) (pss_one ps_never) pss_nil)
      (pss_cons (ps_fld (pv 0) (pv 1) rfl)
      (pss_cons (ps_fld (pv 0) (pe_call F_rising_ways hr_rising_ways rfl T.glo_rising_ways kp_rising_ways b_rising_ways .nil pass0 (pa_cons (pv 1) (pa_cons (pv 2) pa_nil))) rfl)
      (pss_cons (ps_fld (pv 0) (pe_lc (own := [("place", 3)]) (g := (gName 3)) (tt := tYes) rfl sc_Board_init.nd (pi_range1 (by rfl) T.free_range (pa_cons (pv 1) pa_nil)) (blkOk_by (by kernel_rfl)) (fun _ _ _ _ _ => (pg_name (i := 3) sc_Board_init.nd rfl (Or.inr rfl))) (fun _ _ _ _ _ => pts_nil) (fun _ _ _ _ _ => (pe_lc (own := [("one", 4), ("other", 5)]) rfl sc_Board_init.nd (piL (K := K) (fldK (K := K) (pv 0) rfl)) (blkOk_by (by kernel_rfl)) (fun _ _ _ _ _ => (pgT (K := K) (n := 2) rfl (pgs_cons (pg_name (i := 4) sc_Board_init.nd rfl (Or.inl rfl)) (pgs_cons (pg_name (i := 5) sc_Board_init.nd rfl (Or.inl rfl)) pgs_nil)))) (fun _ _ _ _ _ => (pts_one (pt_cmpR op_eq (pv 4) (pv 3) (nomark _)))) (fun _ _ _ _ _ => (pv 5))))) rfl)
      (pss_one (ps_fld (pv 0) (pe_lc (own := [("place", 3)]) (g := (gName 3)) (tt := tYes) rfl sc_Board_init.nd (pi_range1 (by rfl) T.free_range (pa_cons (pv 1) pa_nil)) (blkOk_by (by kernel_rfl)) (fun _ _ _ _ _ => (pg_name (i := 3) sc_Board_init.nd rfl (Or.inl rfl))) (fun _ _ _ _ _ => pts_nil) (fun _ _ _ _ _ => (pe_call F_fars_from hr_fars_from rfl T.glo_fars_from kp_fars_from b_fars_from .nil pass0 (pa_cons (fldK (K := K) (pv 0) rfl) (pa_cons (pv 3) pa_nil))))) rfl)))))), ?_⟩
    refine ⟨_, rfl, _, _, _, rfl, _, rfl, iteNS ⟨by omega, by omega⟩ ?_⟩
    refine ⟨_, rfl, _, rfl, x, _, dx, _, rfl, hx, T.cl, T.n_many, (by show 0 < 1000; decide), ?_⟩
    have s1 : Same H0 (upd H x (.ins (cB K) dx (putF "many" (vI n) []))) := same_mut s0 x0
    have hx1 : (upd H x (.ins (cB K) dx (putF "many" (vI n) []))) x = some (.ins (cB K) dx (putF "many" (vI n) [])) := upd_same
    generalize upd H x (.ins (cB K) dx (putF "many" (vI n) [])) = H1 at s1 hx1
    refine ⟨_, rfl, _, rfl, n, l, L, rfl, s1 _ _ hl, fun q hq => s1 _ _ (tL q hq), W, n8, len, fun H2 p M hp tM mM sM s2 hpn => ?_⟩
    have hx2 := s2 _ _ hx1
    have npx : p ≠ x := ne_of hp hx2 (by intro z; cases z)
    refine ⟨_, rfl, x, _, dx, _, rfl, hx2, T.cl, T.n_pairs, (by show 1 < 1000; decide), ?_⟩
    have hc1 : ∃ ys, H1 c = some (.lst ys) := hc.imp fun ys z => s1 _ _ z
    have npc : p ≠ c := fun z => by
      obtain ⟨ys, hc1⟩ := hc1
      rw [← z, hpn] at hc1
      cases hc1
    have hx3 : (upd H2 x (.ins (cB K) dx (putF "pairs" (.ref p) (putF "many" (vI n) [])))) x = some (.ins (cB K) dx (putF "pairs" (.ref p) (putF "many" (vI n) []))) := upd_same
    have hp3 : (upd H2 x (.ins (cB K) dx (putF "pairs" (.ref p) (putF "many" (vI n) [])))) p = some (.lst (M.map fun q => V.ref q.1)) := by
      rw [upd_ne npx]
      exact hp
    have tM3 : ∀ q ∈ M, (upd H2 x (.ins (cB K) dx (putF "pairs" (.ref p) (putF "many" (vI n) [])))) q.1 = some (.tup [vI q.2.1, vI q.2.2]) := fun q hq => by
      rw [upd_ne (ne_of (tM q hq) hx2 (by intro z; cases z))]
      exact tM q hq
    have s3 : Same H0 (upd H2 x (.ins (cB K) dx (putF "pairs" (.ref p) (putF "many" (vI n) [])))) := same_mut (s1.trans s2) x0
    generalize upd H2 x (.ins (cB K) dx (putF "pairs" (.ref p) (putF "many" (vI n) []))) = H3 at hx3 hp3 tM3 s3
    have nd : (M.map (·.2)).Nodup := sM.imp fun {a b} z e => by
      unfold lexLt at z
      rw [e] at z
      omega
    have lM : M.length ≤ 64 := by
      have q1 : (M.map (·.2)).length ≤ (L.map (·.2)).length := nd.length_le_of_subset fun e he => (mM e).1 he
      rw [List.length_map, List.length_map] at q1
      omega
    have on : On n (M.map (·.2)) := fun e he => by
      obtain ⟨q, hq, rfl⟩ := List.mem_map.mp ((mM e).1 he)
      exact W.2.1 q hq
    refine ⟨_, rfl, (n : Int), rfl, by omega, by omega, fun D hD => ?_⟩
    have Dc : D ≠ c := fun z => by
      obtain ⟨ys, hc⟩ := hc
      rw [z, s3 _ _ hc] at hD
      cases hD
    refine lc_range (lo := 0) (n := ((n : Nat) : Int).toNat) (fun i H4 => ∃ G : List (Addr × List Nat), G.length = i ∧ H4 D = some (.lst (G.map fun g => V.ref g.1)) ∧ (∀ (c : Nat) (g : Addr × List Nat), G[c]? = some g → g.1 ≠ D ∧ H4 g.1 = some (.lst (g.2.map vI)) ∧ g.2.length ≤ 64 ∧ ∀ o, o ∈ g.2 ↔ (c, o) ∈ M.map (·.2)) ∧ Same H3 H4)
      ⟨[], rfl, upd_same, fun c g e => (by simp at e), same_upd hD⟩ ?_ ?_
    · rintro i H4 hi ⟨G, lG, hG, eG, s4⟩
      refine ⟨rfl, ?_⟩
      unfold tYes
      refine iteT ?_
      refine ⟨_, rfl, x, _, dx, _, _, rfl, s4 _ _ hx3, T.cl, T.n_pairs, rfl, p, rfl, ⟨_, SqL.of (s4 _ _ hp3)⟩, fun D2 hD2 => ?_⟩
      refine lc_list (K := K) (a := p) (xs := M.map fun q => V.ref q.1) (fun j H5 => ∃ os : List Nat, H5 D2 = some (.lst (os.map vI)) ∧ (∀ o, o ∈ os ↔ (i, o) ∈ (M.take j).map (·.2)) ∧ os.length ≤ j ∧ Same H4 H5)
        ⟨[], upd_same, by simp, Nat.le_refl _, same_upd hD2⟩ (fun j H5 _ ⟨_, _, _, _, s5⟩ => SqL.of (s5 _ _ (s4 _ _ hp3))) ?_ ?_
      · rintro j y H5 hy ⟨os, ho, mo, lo, s5⟩
        obtain ⟨q, hq, rfl⟩ : ∃ q, M[j]? = some q ∧ V.ref q.1 = y := by
          rw [List.getElem?_map] at hy
          cases e : M[j]? with
          | none => rw [e] at hy; cases hy
          | some q => rw [e] at hy; exact ⟨q, rfl, Option.some.inj hy⟩
        have jM : j < M.length := (List.getElem?_eq_some_iff.mp hq).1
        have et : M.take (j + 1) = M.take j ++ [q] := by
          rw [List.take_add_one, hq]
          rfl
        have tq := s5 _ _ (s4 _ _ (tM3 q (List.mem_of_getElem? hq)))
        refine ⟨q.1, _, rfl, SqT.of tq, rfl, _, _, rfl, _, _, rfl, rfl, rfl, ?_⟩
        refine ⟨_, rfl, _, rfl, rfl, _, rfl, ?_⟩
        refine ite2 (fun z => ?_) (fun z => ?_)
        · have z1 : V.int (q.2.1 : Nat) = V.int (0 + (i : Int)) := of_decide_eq_true z
          have z2 : q.2.1 = i := by
            injection z1 with z1
            omega
          refine ⟨_, rfl, _, ho, ?_, os ++ [q.2.2], ?_, fun o => ?_, ?_, same_mut s5 hD2⟩
          · rw [List.length_map]
            exact Nat.lt_of_le_of_lt (show os.length ≤ 64 by omega) (by decide)
          · rw [upd_same, List.map_append]
            rfl
          · rw [et, List.map_append, List.mem_append, List.mem_append, mo o]
            have : o ∈ [q.2.2] ↔ (i, o) ∈ List.map (fun x => x.2) [q] := by
              simp only [List.mem_singleton, List.map_cons, List.map_nil]
              constructor
              · intro e
                rw [e, ← z2]
              · intro e
                rw [← e]
            rw [this]
          · rw [List.length_append]
            simp
            omega
        · have z2 : q.2.1 ≠ i := fun e => z (decide_eq_true (by
            show V.int (q.2.1 : Nat) = V.int (0 + (i : Int))
            rw [e, Int.zero_add]))
          refine ⟨os, ho, fun o => ?_, by omega, s5⟩
          rw [et, List.map_append, List.mem_append, mo o]
          constructor
          · exact .inl
          · rintro (e | e)
            · exact e
            · have : (i, o) = q.2 := by simpa using e
              exact absurd (congrArg Prod.fst this).symm z2
      · rintro H5 ⟨os, ho, mo, lo, s5⟩
        rw [List.length_map] at lo mo
        rw [List.take_length] at mo
        have D2D : D2 ≠ D := fun z => by
          rw [z, hG] at hD2
          cases hD2
        refine ⟨_, s5 _ _ hG, ?_, G ++ [(D2, os)], by simp [lG], ?_, fun c' g hg => ?_, same_mut (s4.trans s5) hD⟩
        · rw [List.length_map]
          exact Nat.lt_of_le_of_lt (show G.length ≤ 8 by omega) (by decide)
        · rw [upd_same, List.map_append]
          rfl
        · rw [List.getElem?_append] at hg
          split at hg
          · rename_i lt
            obtain ⟨gD, g1, g2, g3⟩ := eG c' g hg
            rw [upd_ne gD]
            exact ⟨gD, s5 _ _ g1, g2, g3⟩
          · rename_i ge
            have e0 : c' - G.length = 0 := by
              cases h0 : c' - G.length with
              | zero => rfl
              | succ k => rw [h0] at hg; simp at hg
            rw [e0] at hg
            have eg : (D2, os) = g := by simpa using hg
            subst eg
            have ec : c' = i := by omega
            subst ec
            rw [upd_ne D2D]
            exact ⟨D2D, ho, (show os.length ≤ 64 by omega), mo⟩
    · rintro H4 ⟨G, lG, hG, eG, s4⟩
      have hx4 := s4 _ _ hx3
      refine ⟨_, rfl, x, _, dx, _, rfl, hx4, T.cl, T.n_leads, (by show 2 < 1000; decide), ?_⟩
      have nDx : D ≠ x := ne_of hG hx4 (by intro z; cases z)
      have hx5 : (upd H4 x (.ins (cB K) dx (putF "leads" (.ref D) (putF "pairs" (.ref p) (putF "many" (vI n) []))))) x = some (.ins (cB K) dx (putF "leads" (.ref D) (putF "pairs" (.ref p) (putF "many" (vI n) [])))) := upd_same
      have LA : LeadsAt (upd H4 x (.ins (cB K) dx (putF "leads" (.ref D) (putF "pairs" (.ref p) (putF "many" (vI n) []))))) D n (M.map (·.2)) G := by
        refine ⟨by rw [upd_ne nDx]; exact hG, by omega, fun c' g hg => ?_⟩
        obtain ⟨_, g1, g2, g3⟩ := eG c' g hg
        rw [upd_ne (ne_of g1 hx4 (by intro z; cases z))]
        exact ⟨g1, g2, g3⟩
      have hp5 : (upd H4 x (.ins (cB K) dx (putF "leads" (.ref D) (putF "pairs" (.ref p) (putF "many" (vI n) []))))) p = some (.lst (M.map fun q => V.ref q.1)) := by
        rw [upd_ne npx]
        exact s4 _ _ hp3
      have tM5 : ∀ q ∈ M, (upd H4 x (.ins (cB K) dx (putF "leads" (.ref D) (putF "pairs" (.ref p) (putF "many" (vI n) []))))) q.1 = some (.tup [vI q.2.1, vI q.2.2]) := fun q hq => by
        have g := s4 _ _ (tM3 q hq)
        rw [upd_ne (ne_of g hx4 (by intro z; cases z))]
        exact g
      have s5 : Same H0 (upd H4 x (.ins (cB K) dx (putF "leads" (.ref D) (putF "pairs" (.ref p) (putF "many" (vI n) []))))) := same_mut (s3.trans s4) x0
      generalize upd H4 x (.ins (cB K) dx (putF "leads" (.ref D) (putF "pairs" (.ref p) (putF "many" (vI n) [])))) = H5 at hx5 LA hp5 tM5 s5
      refine ⟨_, rfl, (n : Int), rfl, by omega, by omega, fun D3 hD3 => ?_⟩
      have D3c : D3 ≠ c := fun z => by
        obtain ⟨ys, hc⟩ := hc
        rw [z, s5 _ _ hc] at hD3
        cases hD3
      refine lc_range (lo := 0) (n := ((n : Nat) : Int).toNat) (fun i H6 => ∃ U : List (Addr × List (Option Nat)), U.length = i ∧ H6 D3 = some (.lst (U.map fun g => V.ref g.1)) ∧ (∀ (a : Nat) (q : Addr × List (Option Nat)), U[a]? = some q → q.1 ≠ D3 ∧ H6 q.1 = some (.lst (q.2.map vO)) ∧ q.1 ≠ c ∧ Fars n (M.map (·.2)) a q.2) ∧ Same H5 H6)
        ⟨[], rfl, upd_same, fun c g e => (by simp at e), same_upd hD3⟩ ?_ ?_
      · rintro i H6 hi ⟨U, lU, hU, eU, s6⟩
        refine ⟨rfl, ?_⟩
        unfold tYes
        refine iteT ?_
        refine ⟨_, rfl, x, _, dx, _, _, rfl, s6 _ _ hx5, T.cl, T.n_leads, rfl, _, rfl, D, i, n, _, G, (by rw [Int.zero_add]; rfl), LA.same s6, on, n8, by omega, fun H7 pp fs hpp hpn7 FF s7 => ?_⟩
        have ppD : pp ≠ D3 := fun z => by
          rw [z, hU] at hpn7
          cases hpn7
        have ppc : pp ≠ c := fun z => by
          obtain ⟨ys, hc⟩ := hc
          rw [z, s6 _ _ (s5 _ _ hc)] at hpn7
          cases hpn7
        refine ⟨_, s7 _ _ hU, ?_, U ++ [(pp, fs)], by simp [lU], ?_, fun a q hq => ?_, same_mut (s6.trans s7) hD3⟩
        · rw [List.length_map]
          exact Nat.lt_of_le_of_lt (show U.length ≤ 8 by omega) (by decide)
        · rw [upd_same, List.map_append]
          rfl
        · rw [List.getElem?_append] at hq
          split at hq
          · obtain ⟨gD, g1, g2, g3⟩ := eU a q hq
            rw [upd_ne gD]
            exact ⟨gD, s7 _ _ g1, g2, g3⟩
          · rename_i ge
            have e0 : a - U.length = 0 := by
              cases h0 : a - U.length with
              | zero => rfl
              | succ k => rw [h0] at hq; simp at hq
            rw [e0] at hq
            have eg : (pp, fs) = q := by simpa using hq
            subst eg
            have ec : a = i := by omega
            subst ec
            rw [upd_ne ppD]
            exact ⟨ppD, hpp, ppc, FF⟩
      · rintro H6 ⟨U, lU, hU, eU, s6⟩
        have hx6 := s6 _ _ hx5
        refine ⟨_, rfl, x, _, dx, _, rfl, hx6, T.cl, T.n_fars, (by show 3 < 1000; decide), ?_⟩
        have off : ∀ a o, H6 a = some o → (∀ d fs, o ≠ .ins (cB K) d fs) → (upd H6 x (.ins (cB K) dx (putF "fars" (.ref D3) (putF "leads" (.ref D) (putF "pairs" (.ref p) (putF "many" (vI n) [])))))) a = some o := fun a o e k => by
          have ne : a ≠ x := fun z => by
            rw [z, hx6] at e
            exact k _ _ (Option.some.inj e).symm
          rw [upd_ne ne]
          exact e
        refine h _ (M.map (·.2)) ⟨⟨dx, p, D, D3, M, _, U, upd_same, ⟨off _ _ (s6 _ _ hp5) (by intro d f z; cases z), npc, fun q hq => off _ _ (s6 _ _ (tM5 q hq)) (by intro d f z; cases z)⟩, rfl,
          off _ _ (s6 _ _ LA.at_) (by intro d f z; cases z), Dc, by rw [List.length_map]; exact LA.len, off _ _ hU (by intro d f z; cases z), D3c, by omega, fun a q hq => ?_⟩, n1, n8, on, nd⟩ mM sM (same_mut (s5.trans s6) x0)
        obtain ⟨_, g1, g2, g3⟩ := eU a q hq
        exact ⟨off _ _ g1 (by intro d f z; cases z), g2, g3⟩
end
end RL
namespace RL
open PySem PySem.Spec PyProof.Rows L2 RLM
section
variable {P : Program} {w : World} {K : PySem.W.Frag} {mg : Str → Option Value} {base : Heap}
def spCheck (K : PySem.W.Frag) : Sp := fun vs H Q _ => ∃ (c x : Addr) (n a : Nat) (E : List (Nat × Nat)), vs = [.ref x, vI a] ∧ BoardAt K c H x n E ∧ a < n ∧ Q .non H
theorem sc_Board_check_place : FnScope ["self", "place"] ["self", "place"] (defScope s_Board_check_place) := ⟨rfl, rfl, rfl, by decide +kernel, rfl, by decide +kernel, by decide +kernel⟩
theorem ok_check (T : Tx K mg) : Has P w K mg base (mB K "check_place") 3 ["self", "place"] (spCheck K) := by
  obtain ⟨⟨fd_is_between, F_is_between, b_is_between⟩, kp_is_between⟩ := ok_is_between (P := P) (w := w) (base := base) T
  obtain ⟨fd, F⟩ := T.d_Board_check_place
  refine ⟨⟨fd, F.ok sc_Board_check_place (fun vs H Q E h => ?_) (fun cdv A outer s H vs Q E hr h => ?_), F.bindsN fun _ _ _ _ _ _ us hl => match us, hl with | [_, _], _ => rfl⟩, F.kp⟩
  · obtain ⟨c, x, n, a, E, rfl, _⟩ := h
    rfl
  · obtain ⟨c, x, n, a, E, rfl, B, an, h⟩ := h
    have hr_is_between : Room 2 _ := hr.mono (by decide)
    refine ⟨_, PSs.nox (pss_one (ps_if (pt_not (pt_val (pe_call F_is_between hr_is_between rfl T.glo_is_between kp_is_between b_is_between .nil pass0 (pa_cons (pv 1) (pa_cons pe_int (pa_cons (pe_op op_sub (fldK (K := K) (pv 0) rfl) pe_int) pa_nil)))))) (pss_one ps_never) pss_nil)), ?_⟩
    obtain ⟨dx, lp, ll, lf, hx⟩ := B.obj
    exact ⟨_, rfl, _, rfl, x, _, dx, _, _, rfl, hx, T.cl, T.n_many, bf_many _ _ _ _, _, _, rfl, rfl, _, _, _, rfl, _, rfl, iteNS ⟨by omega, by omega⟩ h⟩
def spLen (K : PySem.W.Frag) : Sp := fun vs H Q _ => ∃ (c x : Addr) (n : Nat) (E : List (Nat × Nat)), vs = [.ref x] ∧ BoardAt K c H x n E ∧ Q (vI n) H
theorem sc_Board_len : FnScope ["self"] ["self"] (defScope s_Board_len) := ⟨rfl, rfl, rfl, by decide +kernel, rfl, by decide +kernel, by decide +kernel⟩
theorem ok_len (T : Tx K mg) : Has P w K mg base (mB K "__len__") 1 ["self"] (spLen K) := by
  obtain ⟨fd, F⟩ := T.d_Board_len
  refine ⟨⟨fd, F.ok sc_Board_len (fun vs H Q E h => ?_) (fun cdv A outer s H vs Q E hr h => ?_), F.bindsN fun _ _ _ _ _ _ us hl => match us, hl with | [_], _ => rfl⟩, F.kp⟩
  · obtain ⟨c, x, n, E, rfl, _⟩ := h
    rfl
  · obtain ⟨c, x, n, E, rfl, B, h⟩ := h
    refine ⟨_, PSs.nox (pss_one (ps_ret (pe_callB (lenK (K := K)) (by rfl) T.free_len (by decide +kernel) (pa_cons (fldK (K := K) (pv 0) rfl) pa_nil)))), ?_⟩
    obtain ⟨dx, lp, ll, lf, L, ls, F, hx, h2, h3, h4, h5, h6, _⟩ := B.ex
    refine ⟨_, rfl, x, _, dx, _, _, rfl, hx, T.cl, T.n_leads, bf_leads _ _ _ _, ll, _, rfl, .inl (SqL.of h4), ?_⟩
    rw [h6]
    exact h
def spWithin (K : PySem.W.Frag) : Sp := fun vs H Q _ => ∃ (c x : Addr) (n a : Nat) (m : Int) (E : List (Nat × Nat)), vs = [.ref x, vI a, .int m] ∧ BoardAt K c H x n E ∧ a < n ∧ ∀ H' t, H' t = some (.tup ((lotP n (Near E m a)).map vI)) → Same H H' → Q (.ref t) H'
theorem sc_Board_within : FnScope ["self", "place", "most", "other", "far"] ["self", "place", "most"] (defScope s_Board_within) := ⟨rfl, rfl, rfl, by decide +kernel, rfl, by decide +kernel, by decide +kernel⟩
theorem ok_within (T : Tx K mg) : Has P w K mg base (mB K "within") 4 ["self", "place", "most"] (spWithin K) := by
  obtain ⟨⟨fd_check_place, F_check_place, b_check_place⟩, kp_check_place⟩ := ok_check (P := P) (w := w) (base := base) T
  obtain ⟨fd, F⟩ := T.d_Board_within
  refine ⟨⟨fd, F.ok sc_Board_within (fun vs H Q E h => ?_) (fun cdv A outer s H vs Q E hr h => ?_), F.bindsN fun _ _ _ _ _ _ us hl => match us, hl with | [_, _, _], _ => rfl⟩, F.kp⟩
  · obtain ⟨c, x, n, a, m, E, rfl, _⟩ := h
    rfl
  · obtain ⟨c, x, n, a, m, E, rfl, B, an, h⟩ := h
    have hr_check_place : Room 3 _ := hr.mono (by decide)
    refine ⟨_, PSs.nox (pss_cons (ps_expr (pe_meth (pv 0) T.cl T.m_check_place F_check_place hr_check_place b_check_place .nil pass0 (pa_cons (pv 1) pa_nil)))
      (pss_one (ps_ret (pe_callTy (tupK (K := K)) (by rfl) T.free_tuple (by decide +kernel) (pa_cons (pe_lc (own := [("other", 3), ("far", 4)]) rfl sc_Board_within.nd (piEnum (K := K) (by rfl) T.free_enumerate (pa_cons (pe_ix (ixL (K := K)) (fldK (K := K) (pv 0) rfl) (pv 1) (fun _ _ => rfl)) pa_nil)) (blkOk_by (by kernel_rfl)) (fun _ _ _ _ _ => (pgT (K := K) (n := 2) rfl (pgs_cons (pg_name (i := 3) sc_Board_within.nd rfl (Or.inl rfl)) (pgs_cons (pg_name (i := 4) sc_Board_within.nd rfl (Or.inl rfl)) pgs_nil)))) (fun _ _ _ _ _ => (pts_one (PW.pt (pw_and (pt_cmpR op_notN (pv 4) pe_non (nomark _)) (pw_and1 (pt_cmpR op_le (pv 4) (pv 2) (nomark _))))))) (fun _ _ _ _ _ => (pv 3))) pa_nil))))), ?_⟩
    obtain ⟨dx, lp, ll, lf, L, ls, U, hx, h2, h3, h4, h5, h6, hlf, lfc, lU, eU⟩ := B.ex
    refine ⟨_, rfl, x, dx, _, rfl, hx, bf_check _ _ _ _, _, rfl, c, x, n, a, E, rfl, B, an, ?_⟩
    obtain ⟨u, hu⟩ : ∃ u, U[a]? = some u := ⟨_, List.getElem?_eq_getElem (by rw [lU]; exact an)⟩
    obtain ⟨hul, uc, FF⟩ := eU a u hu
    refine ⟨_, rfl, x, _, dx, _, _, rfl, hx, T.cl, T.n_fars, bf_fars _ _ _ _, _, rfl, lf, _, _, _, rfl, rfl, SqL.of hlf, atI_nat (get_map hu), u.1, _, rfl, SqL.of hul, fun D hD => ?_⟩
    refine lc_it (walk_enum (K := K) (a := u.1) (xs := u.2.map vO)) (fun i H1 => ∃ ps : List Nat, H1 D = some (.lst (ps.map vI)) ∧ ps.Pairwise (· < ·) ∧ (∀ b, b ∈ ps ↔ b < i ∧ Near E m a b) ∧ ps.length ≤ i ∧ Same H H1)
      ⟨[], upd_same, List.Pairwise.nil, by simp, Nat.le_refl _, same_upd hD⟩ (fun i H1 _ ⟨_, _, _, _, _, s1⟩ => SqL.of (s1 _ _ hul)) ?_ ?_
    · rintro i y H1 H2 hi ⟨ps, hp, sp, mp, lp, s1⟩ ⟨t, y1, y2, rfl, ht, rfl, e1, e2⟩
      rw [List.length_map] at hi
      cases (Option.some.inj e1)
      have ed : u.2[i]? = some u.2[i] := List.getElem?_eq_getElem hi
      generalize u.2[i] = d at ed
      have ey : y2 = vO d := by
        have e3 : (u.2.map vO)[i]? = some y2 := e2
        rw [List.getElem?_map, ed] at e3
        exact (Option.some.inj e3).symm
      subst ey
      have s2 : Same H1 (upd H1 t (.tup [.int (i : Nat), vO d])) := same_upd ht
      have FN := FF.2 i d ed m
      have i8 : i < 8 := by
        have := B.hi
        rw [← FF.1] at this
        omega
      have hp2 := s2 _ _ hp
      have no : ¬ Near E m a i → ∃ ps : List Nat, (upd H1 t (.tup [.int (i : Nat), vO d])) D = some (.lst (ps.map vI)) ∧ ps.Pairwise (· < ·) ∧ (∀ b, b ∈ ps ↔ b < i + 1 ∧ Near E m a b) ∧ ps.length ≤ i + 1 ∧ Same H (upd H1 t (.tup [.int (i : Nat), vO d])) := fun nn => by
        refine ⟨ps, hp2, sp, fun b => ?_, by omega, s1.trans s2⟩
        rw [mp b]
        constructor
        · rintro ⟨z1, z2⟩
          exact ⟨by omega, z2⟩
        · rintro ⟨z1, z2⟩
          refine ⟨?_, z2⟩
          rcases Nat.lt_or_ge b i with k | k
          · exact k
          · exfalso
            have : b = i := by omega
            rw [this] at z2
            exact nn z2
      refine ⟨t, _, rfl, SqT.of upd_same, rfl, _, _, rfl, _, _, rfl, rfl, rfl, ?_⟩
      refine ⟨_, rfl, rfl, _, rfl, ?_⟩
      cases d with
      | none =>
        refine iteF (iteF ?_)
        refine no fun z => ?_
        obtain ⟨k, hk, _⟩ := FN.2 z
        cases hk
      | some k =>
        refine iteT ?_
        refine ⟨_, rfl, _, rfl, _, _, rfl, rfl, _, rfl, ?_⟩
        refine ite2 (fun z => ?_) (fun z => ?_)
        · have z1 : (k : Int) ≤ m := of_decide_eq_true z
          have nr : Near E m a i := FN.1 ⟨k, rfl, z1⟩
          refine ⟨_, rfl, _, hp2, ?_, ps ++ [i], ?_, ?_, fun b => ?_, ?_, same_mut (s1.trans s2) hD⟩
          · rw [List.length_map]
            exact Nat.lt_of_le_of_lt (show ps.length ≤ 8 by omega) (by decide)
          · rw [upd_same, List.map_append]
            rfl
          · rw [List.pairwise_append]
            refine ⟨sp, by simp, fun b hb b' hb' => ?_⟩
            rw [List.mem_singleton.mp hb']
            exact ((mp b).1 hb).1
          · rw [List.mem_append, mp b, List.mem_singleton]
            constructor
            · rintro (⟨z1, z2⟩ | z1)
              · exact ⟨by omega, z2⟩
              · rw [z1]
                exact ⟨by omega, nr⟩
            · rintro ⟨z1, z2⟩
              rcases Nat.lt_or_ge b i with k | k
              · exact .inl ⟨k, z2⟩
              · exact .inr (by omega)
          · rw [List.length_append]
            simp
            omega
        · refine no fun nr => z (decide_eq_true ?_)
          obtain ⟨k', hk, hk2⟩ := FN.2 nr
          cases hk
          exact hk2
    · rintro H1 ⟨ps, hp, sp, mp, lp, s1⟩
      rw [List.length_map, FF.1] at mp
      refine ⟨D, _, rfl, .inl ⟨SqL.of hp, fun t ht => ?_⟩⟩
      refine h _ t ?_ (s1.trans (same_upd ht))
      rw [upd_same, lotP_of sp mp]
end
end RL
namespace RL
open PySem PySem.Spec PyProof.Rows L2 RLM
/-! few ways -/
def allW : List (Nat × Nat) := (List.range 8).flatMap fun a => (List.range 8).filterMap fun b => if a = b then none else some (a, b)
theorem allW_len : allW.length = 56 := by decide +kernel
theorem mem_allW {e : Nat × Nat} (h1 : e.1 < 8) (h2 : e.2 < 8) (h3 : e.1 ≠ e.2) : e ∈ allW := by
  unfold allW
  rw [List.mem_flatMap]
  refine ⟨e.1, List.mem_range.mpr h1, List.mem_filterMap.mpr ⟨e.2, List.mem_range.mpr h2, ?_⟩⟩
  rw [if_neg h3]
theorem on_few {n : Nat} {E : List (Nat × Nat)} (hn : n ≤ 8) (on : On n E) (nd : E.Nodup) : E.length ≤ 56 := by
  rw [← allW_len]
  refine nd.length_le_of_subset fun e he => ?_
  obtain ⟨h1, h2, h3⟩ := on e he
  exact mem_allW (by omega) (by omega) h3
theorem WaysOk.few {n : Nat} {L : List (Addr × Nat × Nat)} (hn : n ≤ 8) (h : WaysOk n L) : L.length < 63 := by
  have := on_few (E := L.map (·.2)) hn (fun e he => by
    obtain ⟨q, hq, rfl⟩ := List.mem_map.mp he
    exact h.2.1 q hq) h.1
  rw [List.length_map] at this
  omega
section
variable {P : Program} {w : World} {K : PySem.W.Frag} {mg : Str → Option Value} {base : Heap}
/-- Board(n, l) is asked where l has been made -/
theorem init_at {H : Hp} {c l x dx : Addr} {n : Nat} {L : List (Addr × Nat × Nat)} {Q : VK} (hc : ∃ ys, H c = some (.lst ys)) (hl : H l = some (.lst (L.map fun q => V.ref q.1))) (tL : ∀ q ∈ L, H q.1 = some (.tup [vI q.2.1, vI q.2.2])) (W : WaysOk n L) (n1 : 1 ≤ n) (n8 : n ≤ 8)
    (hx : H x = none) (hdx : H dx = none) (ne : dx ≠ x) (h : ∀ (H' : Hp) (E : List (Nat × Nat)), BoardAt K c H' x n E → (∀ e, e ∈ E ↔ e ∈ L.map (·.2)) → E.Pairwise lexLt → Same H H' → Q .non H') :
    spInit K [.ref x, vI n, .ref l] (upd (upd H dx (.own x)) x (.ins (cB K) dx [])) Q E0 := by
  refine ⟨H, x, dx, c, l, n, L, rfl, fun b o e => ?_, hx, upd_same, hc, hl, tL, W, n1, n8, W.few n8, h⟩
  rw [upd_ne (ne_of_none e hx), upd_ne (ne_of_none e hdx)]
  exact e
def spMade (K : PySem.W.Frag) : Sp := fun vs H Q _ => ∃ (c t l : Addr) (n : Nat) (L : List (Addr × Nat × Nat)), vs = [.ref t] ∧ H t = some (.tup [vI n, .ref l]) ∧ PairsAt c H l L ∧ WaysOk n L ∧ 1 ≤ n ∧ n ≤ 8 ∧ (∃ ys, H c = some (.lst ys)) ∧
  ∀ (H' : Hp) (x : Addr) (E : List (Nat × Nat)), BoardAt K c H' x n E → (∀ e, e ∈ E ↔ e ∈ L.map (·.2)) → E.Pairwise lexLt → Same H H' → Q (.ref x) H'
theorem sc__law_made : FnScope ["_law_board_here"] ["_law_board_here"] (defScope s__law_made) := ⟨rfl, rfl, rfl, by decide +kernel, rfl, by decide +kernel, by decide +kernel⟩
theorem ok_made (T : Tx K mg) : Has P w K mg base (He.ga K "_law_made") 6 ["_law_board_here"] (spMade K) := by
  obtain ⟨⟨fd_Board, F_Board, b_Board⟩, kp_Board⟩ := ok_init (P := P) (w := w) (base := base) T
  obtain ⟨fd, F⟩ := T.d__law_made
  refine ⟨⟨fd, F.ok sc__law_made (fun vs H Q E h => ?_) (fun cdv A outer s H vs Q E hr h => ?_), F.bindsN fun _ _ _ _ _ _ us hl => match us, hl with | [_], _ => rfl⟩, F.kp⟩
  · obtain ⟨c, t, l, n, L, rfl, _⟩ := h
    rfl
  · obtain ⟨c, t, l, n, L, rfl, ht, PL, W, n1, n8, hc, h⟩ := h
    have hr_Board : Room 5 _ := hr.mono (by decide)
    refine ⟨_, PSs.nox (pss_one (ps_ret (pe_make T.mkB F_Board hr_Board rfl T.glo_Board b_Board .nil pass0 (pa_cons (pe_ix (ixT (K := K)) (pv 0) pe_int (fun _ _ => rfl)) (pa_cons (pe_callTy (listK (K := K)) (by rfl) T.free_list (by decide +kernel) (pa_cons (pe_ix (ixT (K := K)) (pv 0) pe_int (fun _ _ => rfl)) pa_nil)) pa_nil))))), ?_⟩
    refine ⟨_, rfl, t, _, 0, _, rfl, rfl, SqT.of ht, rfl, _, rfl, t, _, 1, _, rfl, rfl, SqT.of ht, rfl, l, _, rfl, .inl (SqL.of PL.at_), fun l2 hl2 => ?_⟩
    have s1 : Same H (upd H l2 (.lst (L.map fun q => V.ref q.1))) := same_upd hl2
    intro x dx hx hdx ne
    exact init_at (hc.imp fun _ z => s1 _ _ z) upd_same (fun q hq => s1 _ _ (PL.tup q hq)) W n1 n8 hx hdx ne fun H' E B mE sE s2 => ⟨rfl, h H' x E B mE sE (s1.trans s2)⟩
def spTurned (K : PySem.W.Frag) : Sp := fun vs H Q _ => ∃ (c x : Addr) (n : Nat) (E : List (Nat × Nat)), vs = [.ref x] ∧ BoardAt K c H x n E ∧ (∃ ys, H c = some (.lst ys)) ∧
  ∀ (H' : Hp) (y : Addr) (E' : List (Nat × Nat)), BoardAt K c H' y n E' → (∀ a b, (a, b) ∈ E' ↔ (b, a) ∈ E) → E'.Pairwise lexLt → Same H H' → Q (.ref y) H'
theorem nodup_inj {α β : Type} {f : α → β} : ∀ {l : List α}, l.Nodup → (∀ x ∈ l, ∀ y ∈ l, f x = f y → x = y) → (l.map f).Nodup
  | [], _, _ => List.nodup_nil
  | a :: l, h, hf => by
    rw [List.map_cons, List.nodup_cons]
    rw [List.nodup_cons] at h
    refine ⟨fun hm => ?_, nodup_inj h.2 fun x hx y hy => hf x (List.mem_cons_of_mem _ hx) y (List.mem_cons_of_mem _ hy)⟩
    obtain ⟨b, hb, e⟩ := List.mem_map.mp hm
    exact h.1 (hf b (List.mem_cons_of_mem _ hb) a List.mem_cons_self e ▸ hb)
theorem sqt_same {H H' : Hp} {a : Addr} {xs : List V} (s : Same H H') (h : SqT K H a xs) : SqT K H' a xs := by
  rcases h with (h | ⟨o, h⟩) | h
  · exact .inl (.inl (s _ _ h))
  · exact .inl (.inr ⟨o, s _ _ h⟩)
  · exact .inr h
def spRenamed (K : PySem.W.Frag) : Sp := fun vs H Q _ => ∃ (c x t : Addr) (n : Nat) (E : List (Nat × Nat)) (os : List Nat), vs = [.ref x, .ref t] ∧ BoardAt K c H x n E ∧ (∃ ys, H c = some (.lst ys)) ∧ SqT K H t (os.map vI) ∧ os.Perm (List.range n) ∧
  ∀ (H' : Hp) (y : Addr) (E' : List (Nat × Nat)), BoardAt K c H' y n E' → (∀ e, e ∈ E' ↔ ∃ p, p ∈ E ∧ e = (os.getD p.1 0, os.getD p.2 0)) → E'.Pairwise lexLt → Same H H' → Q (.ref y) H'
theorem int_maps : ∀ {xs ys : List Int}, xs.map V.int = ys.map V.int → xs = ys
  | [], [], _ => rfl
  | [], _ :: _, h => by cases h
  | _ :: _, [], h => by cases h
  | x :: xs, y :: ys, h => by
    rw [List.map_cons, List.map_cons] at h
    injection h with h1 h2
    injection h1 with h1
    rw [h1, int_maps h2]
/-- what is sorted of an order of the places -/
theorem sorted_order {n : Nat} {os : List Nat} {ms : List Int} (h : os.Perm (List.range n)) (p : ms.Perm (os.map nI)) (s : ms.Pairwise (· ≤ ·)) : ms = (List.range n).map nI := by
  have pm : ms.Perm ((List.range n).map nI) := p.trans (h.map nI)
  have nd : ms.Nodup := pm.nodup_iff.mpr (nodup_inj List.nodup_range fun x _ y _ e => by
    unfold nI at e
    omega)
  have lt : ms.Pairwise (· < ·) := (s.and nd).imp fun {a b} ⟨z1, z2⟩ => by
    have z2 : a ≠ b := z2
    omega
  have e := rise_lot (n := n) (p := fun _ => True) lt fun k => by
    rw [pm.mem_iff, List.mem_map]
    constructor
    · rintro ⟨b, hb, rfl⟩
      exact ⟨b, rfl, List.mem_range.mp hb, trivial⟩
    · rintro ⟨b, rfl, hb, _⟩
      exact ⟨b, List.mem_range.mpr hb, rfl⟩
  rw [lotP_true, vI_map] at e
  exact int_maps e
theorem os_get {n : Nat} {os : List Nat} (h : os.Perm (List.range n)) {a : Nat} (ha : a < n) : os[a]? = some (os.getD a 0) ∧ os.getD a 0 < n := by
  have hl : a < os.length := by rw [h.length_eq, List.length_range]; exact ha
  have e : os.getD a 0 = os[a] := by rw [List.getD_eq_getElem?_getD, List.getElem?_eq_getElem hl]; rfl
  refine ⟨by rw [e]; exact List.getElem?_eq_getElem hl, ?_⟩
  rw [e]
  exact List.mem_range.mp (h.mem_iff.mp (List.getElem_mem hl))
theorem os_inj {n : Nat} {os : List Nat} (h : os.Perm (List.range n)) {a b : Nat} (ha : a < n) (hb : b < n) (e : os.getD a 0 = os.getD b 0) : a = b := by
  have nd : os.Nodup := h.nodup_iff.mpr List.nodup_range
  have h1 := (os_get h ha).1
  have h2 := (os_get h hb).1
  rw [e, ← h2] at h1
  have hl : a < os.length := by rw [h.length_eq, List.length_range]; exact ha
  exact (List.getElem?_inj hl nd).mp h1
end
end RL
namespace RL
open PySem PySem.Spec PyProof.Rows L2 RLM
section
variable {P : Program} {w : World} {K : PySem.W.Frag} {mg : Str → Option Value} {base : Heap}
theorem all_true {bs : List Bool} (h : ∀ b ∈ bs, b = true) : bs.all id = true := List.all_eq_true.mpr h
def spIsLot (K : PySem.W.Frag) : Sp := fun vs H Q _ => ∃ (c x t : Addr) (n : Nat) (E : List (Nat × Nat)) (p : Nat → Prop), vs = [.ref x, .ref t] ∧ BoardAt K c H x n E ∧ H t = some (.tup ((lotP n p).map vI)) ∧ ∀ H', Same H H' → Q (.bl true) H'
theorem sc_is_lot : FnScope ["board", "lot", "place"] ["board", "lot"] (defScope s_is_lot) := ⟨rfl, rfl, rfl, by decide +kernel, rfl, by decide +kernel, by decide +kernel⟩
theorem ok_is_lot (T : Tx K mg) : Has P w K mg base (He.ga K "is_lot") 3 ["board", "lot"] (spIsLot K) := by
  obtain ⟨⟨fd_is_between, F_is_between, b_is_between⟩, kp_is_between⟩ := ok_is_between (P := P) (w := w) (base := base) T
  obtain ⟨⟨fd_len, F_len, b_len⟩, kp_len⟩ := ok_len (P := P) (w := w) (base := base) T
  obtain ⟨fd, F⟩ := T.d_is_lot
  refine ⟨⟨fd, F.ok sc_is_lot (fun vs H Q E h => ?_) (fun cdv A outer s H vs Q E hr h => ?_), F.bindsN fun _ _ _ _ _ _ us hl => match us, hl with | [_, _], _ => rfl⟩, F.kp⟩
  · obtain ⟨c, x, t, n, E, p, rfl, _⟩ := h
    rfl
  · obtain ⟨c, x, t, n, E, p, rfl, B, ht, h⟩ := h
    have hr_is_between : Room 2 _ := hr.mono (by decide)
    have hr_len : Room 2 _ := hr.mono (by decide)
    refine ⟨_, PSs.nox (pss_cons (ps_if (pt_not (pt_val (pe_callB (isiK (K := K)) (by rfl) T.free_isinstance (by decide +kernel) (pa_cons (pv 1) (pa_cons (pe_bltn (v := .ty "tuple") (u := .type "tuple") (by rfl) T.free_tuple (by decide +kernel) rfl) pa_nil))))) (pss_one (ps_ret pe_bl)) pss_nil)
      (pss_cons (ps_if (pt_not (pt_val (pe_callB (allK (K := K)) (by rfl) T.free_all (by decide +kernel) (pa_cons (pe_lc (own := [("place", 2)]) (g := (gName 2)) (tt := tYes) rfl sc_is_lot.nd (piT (K := K) (pv 1)) (blkOk_by (by kernel_rfl)) (fun _ _ _ _ _ => (pg_name (i := 2) sc_is_lot.nd rfl (Or.inl rfl))) (fun _ _ _ _ _ => pts_nil) (fun _ _ _ _ _ => (pe_call F_is_between hr_is_between rfl T.glo_is_between kp_is_between b_is_between .nil pass0 (pa_cons (pv 2) (pa_cons pe_int (pa_cons (pe_op op_sub (pe_callB (call_lenOwn T.m_len F_len b_len hr_len) (by rfl) T.free_len (by decide +kernel) (pa_cons (pv 0) pa_nil)) pe_int) pa_nil)))))) pa_nil)))) (pss_one (ps_ret pe_bl)) pss_nil)
      (pss_one (ps_ret (pe_cmpR (eqD (K := K) hr.units) (pe_callTy (listK (K := K)) (by rfl) T.free_list (by decide +kernel) (pa_cons (pv 1) pa_nil)) (pe_callB (sortS (w := w)) (by rfl) T.free_sorted (by decide +kernel) (pa_cons (pe_callTy (setTK (K := K) (w := w)) (by rfl) T.free_set (by decide +kernel) (pa_cons (pv 1) pa_nil)) pa_nil)) (nomark _)))))), ?_⟩
    have n8 := B.hi
    have lp := lotP_len n p
    refine ⟨_, rfl, _, _, _, _, true, rfl, .ty _, .base (.tup ht), kit_ty (by decide +kernel), true, rfl, iteF ?_⟩
    refine ⟨_, rfl, t, rfl, ⟨_, SqT.of ht⟩, fun D hD => ?_⟩
    refine lc_tup (K := K) (a := t) (xs := (lotP n p).map vI) (fun i H1 => ∃ bs : List Bool, H1 D = some (.lst (bs.map V.bl)) ∧ (∀ b ∈ bs, b = true) ∧ bs.length = i ∧ Same H H1)
      ⟨[], upd_same, by simp, rfl, same_upd hD⟩ (fun i H1 _ ⟨_, _, _, _, s1⟩ => SqT.of (s1 _ _ ht)) ?_ ?_
    · rintro i y H1 hy ⟨bs, hb, tb, lb, s1⟩
      obtain ⟨q, hq, rfl⟩ : ∃ q, (lotP n p)[i]? = some q ∧ vI q = y := by
        rw [List.getElem?_map] at hy
        cases e : (lotP n p)[i]? with
        | none => rw [e] at hy; cases hy
        | some q => rw [e] at hy; exact ⟨q, rfl, Option.some.inj hy⟩
      have qn := (mem_lotP.mp (List.mem_of_getElem? hq)).1
      have il : i < (lotP n p).length := (List.getElem?_eq_some_iff.mp hq).1
      have B1 := B.same s1
      obtain ⟨dx, q1, q2, q3, hx⟩ := B1.obj
      refine ⟨rfl, ?_⟩
      unfold tYes
      refine iteT ?_
      refine ⟨_, rfl, _, rfl, x, dx, _, rfl, hx, c, x, n, E, rfl, B1, (n : Int), rfl, by omega, by omega, _, _, rfl, rfl, _, _, _, rfl, ?_⟩
      rw [decide_eq_true (show (0 : Int) ≤ (q : Nat) ∧ ((q : Nat) : Int) ≤ (n : Int) - 1 from ⟨by omega, by omega⟩)]
      refine ⟨_, hb, ?_, bs ++ [true], ?_, ?_, by simp [lb], same_mut s1 hD⟩
      · rw [List.length_map]
        exact Nat.lt_of_le_of_lt (show bs.length ≤ 8 by omega) (by decide)
      · rw [upd_same, List.map_append]
        rfl
      · intro b hb2
        rcases List.mem_append.mp hb2 with z | z
        · exact tb b z
        · rw [List.mem_singleton.mp z]
    · rintro H1 ⟨bs, hb, tb, lb, s1⟩
      refine ⟨D, bs, rfl, SqL.of hb, _, rfl, ?_⟩
      rw [all_true tb]
      refine iteF ?_
      refine ⟨_, rfl, t, _, rfl, .inr (SqT.of (s1 _ _ ht)), fun l1 hl1 => ?_⟩
      have s2 := same_upd (o := HO.lst ((lotP n p).map vI)) hl1
      have ht2 := s2 _ _ (s1 _ _ ht)
      refine ⟨_, rfl, t, (lotP n p).map nI, rfl, SqT.of (by rw [← vI_map]; exact ht2), by rw [List.length_map]; omega, fun d cc hd hcc => ?_⟩
      refine ⟨d, _, cc, rfl, upd_same, ?_, fun ns l2 h1 h2 h3 hl2 => ?_⟩
      · rw [List.length_map] at hcc
        omega
      have s3 := same_upd (o := SetO w d (fun j => decide (j ∈ (lotP n p).map nI)) cc) hd
      have s4 := same_upd (o := HO.lst (ns.map V.int)) hl2
      have en : ns.map V.int = (lotP n p).map vI := rise_lot h1 fun k => (h2 k).trans (decide_eq_true_iff.trans (by
        rw [List.mem_map]
        constructor
        · rintro ⟨b, hb, rfl⟩
          exact ⟨b, rfl, mem_lotP.mp hb⟩
        · rintro ⟨b, rfl, hb⟩
          exact ⟨b, mem_lotP.mpr hb, rfl⟩))
      refine ⟨.list (ns.map .int), .list (ns.map .int), .lst (SqL.of (s4 _ _ (s3 _ _ (by rw [upd_same, ← en])))) (dp_ints ns), .lst (SqL.of upd_same) (dp_ints ns), shaped_ints ns, shaped_ints ns, ?_⟩
      rw [SeqAt.eqv_refl _ (SeqAt.canLay_of_shaped (shaped_ints ns))]
      exact h _ (((s1.trans s2).trans s3).trans s4)
def spChkLot (K : PySem.W.Frag) : Sp := fun vs H Q _ => ∃ (c x t : Addr) (n : Nat) (E : List (Nat × Nat)) (p : Nat → Prop), vs = [.ref x, .ref t] ∧ BoardAt K c H x n E ∧ H t = some (.tup ((lotP n p).map vI)) ∧ ∀ H', Same H H' → Q .non H'
theorem sc_check_lot : FnScope ["board", "lot"] ["board", "lot"] (defScope s_check_lot) := ⟨rfl, rfl, rfl, by decide +kernel, rfl, by decide +kernel, by decide +kernel⟩
theorem ok_chk_lot (T : Tx K mg) : Has P w K mg base (He.ga K "check_lot") 4 ["board", "lot"] (spChkLot K) := by
  obtain ⟨⟨fd_is_lot, F_is_lot, b_is_lot⟩, kp_is_lot⟩ := ok_is_lot (P := P) (w := w) (base := base) T
  obtain ⟨fd, F⟩ := T.d_check_lot
  refine ⟨⟨fd, F.ok sc_check_lot (fun vs H Q E h => ?_) (fun cdv A outer s H vs Q E hr h => ?_), F.bindsN fun _ _ _ _ _ _ us hl => match us, hl with | [_, _], _ => rfl⟩, F.kp⟩
  · obtain ⟨c, x, t, n, E, p, rfl, _⟩ := h
    rfl
  · obtain ⟨c, x, t, n, E, p, rfl, B, ht, h⟩ := h
    have hr_is_lot : Room 3 _ := hr.mono (by decide)
    refine ⟨_, PSs.nox (pss_one (ps_if (pt_not (pt_val (pe_call F_is_lot hr_is_lot rfl T.glo_is_lot kp_is_lot b_is_lot .nil pass0 (pa_cons (pv 0) (pa_cons (pv 1) pa_nil))))) (pss_one ps_never) pss_nil)), ?_⟩
    exact ⟨_, rfl, _, rfl, c, x, t, n, E, p, rfl, B, ht, fun H1 s1 => ⟨_, rfl, iteF (h H1 s1)⟩⟩
/-- a pace -/
def PaceOk (n : Nat) (ps : List Nat) : Prop := ps.length = n ∧ ∀ q ∈ ps, q ≤ 7
def spIsPace (K : PySem.W.Frag) : Sp := fun vs H Q _ => ∃ (c x t : Addr) (n : Nat) (E : List (Nat × Nat)) (ps : List Nat), vs = [.ref x, .ref t] ∧ BoardAt K c H x n E ∧ H t = some (.tup (ps.map vI)) ∧ PaceOk n ps ∧ ∀ H', Same H H' → Q (.bl true) H'
theorem sc_is_pace : FnScope ["board", "pace", "number"] ["board", "pace"] (defScope s_is_pace) := ⟨rfl, rfl, rfl, by decide +kernel, rfl, by decide +kernel, by decide +kernel⟩
theorem ok_is_pace (T : Tx K mg) : Has P w K mg base (He.ga K "is_pace") 3 ["board", "pace"] (spIsPace K) := by
  obtain ⟨⟨fd_is_between, F_is_between, b_is_between⟩, kp_is_between⟩ := ok_is_between (P := P) (w := w) (base := base) T
  obtain ⟨⟨fd_len, F_len, b_len⟩, kp_len⟩ := ok_len (P := P) (w := w) (base := base) T
  obtain ⟨fd, F⟩ := T.d_is_pace
  refine ⟨⟨fd, F.ok sc_is_pace (fun vs H Q E h => ?_) (fun cdv A outer s H vs Q E hr h => ?_), F.bindsN fun _ _ _ _ _ _ us hl => match us, hl with | [_, _], _ => rfl⟩, F.kp⟩
  · obtain ⟨c, x, t, n, E, ps, rfl, _⟩ := h
    rfl
  · obtain ⟨c, x, t, n, E, ps, rfl, B, ht, PO, h⟩ := h
    have hr_is_between : Room 2 _ := hr.mono (by decide)
    have hr_len : Room 2 _ := hr.mono (by decide)
    refine ⟨_, PSs.nox (pss_cons (ps_if (PW.pt (pw_or (pt_not (pt_val (pe_callB (isiK (K := K)) (by rfl) T.free_isinstance (by decide +kernel) (pa_cons (pv 1) (pa_cons (pe_bltn (v := .ty "tuple") (u := .type "tuple") (by rfl) T.free_tuple (by decide +kernel) rfl) pa_nil))))) (pw_or1 (pt_cmpR op_ne (pe_callB (lenK (K := K)) (by rfl) T.free_len (by decide +kernel) (pa_cons (pv 1) pa_nil)) (pe_callB (call_lenOwn T.m_len F_len b_len hr_len) (by rfl) T.free_len (by decide +kernel) (pa_cons (pv 0) pa_nil)) (nomark _))))) (pss_one (ps_ret pe_bl)) pss_nil)
      (pss_one (ps_ret (pe_callB (allK (K := K)) (by rfl) T.free_all (by decide +kernel) (pa_cons (pe_lc (own := [("number", 2)]) (g := (gName 2)) (tt := tYes) rfl sc_is_pace.nd (piT (K := K) (pv 1)) (blkOk_by (by kernel_rfl)) (fun _ _ _ _ _ => (pg_name (i := 2) sc_is_pace.nd rfl (Or.inl rfl))) (fun _ _ _ _ _ => pts_nil) (fun _ _ _ _ _ => (pe_call F_is_between hr_is_between rfl T.glo_is_between kp_is_between b_is_between .nil pass0 (pa_cons (pv 2) (pa_cons pe_int (pa_cons (pe_glob (v := .int 7) rfl T.glob_MOST_PACE.choose_spec ⟨_, rfl⟩) pa_nil)))))) pa_nil))))), ?_⟩
    have n8 := B.hi
    obtain ⟨dx, q1, q2, q3, hx⟩ := B.obj
    refine ⟨_, rfl, _, _, _, _, true, rfl, .ty _, .base (.tup ht), kit_ty (by decide +kernel), true, rfl, iteF ?_⟩
    refine ⟨_, rfl, t, _, rfl, .inr (SqT.of ht), _, rfl, x, dx, _, rfl, hx, c, x, n, E, rfl, B, (n : Int), rfl, by omega, by omega, rfl, _, rfl, ?_⟩
    have e1 : (!decide (V.int (((ps.map vI).length : Nat) : Int) = V.int (n : Int))) = false := by
      rw [List.length_map, PO.1]
      simp
    rw [e1]
    refine iteF ?_
    refine ⟨_, rfl, t, rfl, ⟨_, SqT.of ht⟩, fun D hD => ?_⟩
    refine lc_tup (K := K) (a := t) (xs := ps.map vI) (fun i H1 => ∃ bs : List Bool, H1 D = some (.lst (bs.map V.bl)) ∧ (∀ b ∈ bs, b = true) ∧ bs.length = i ∧ Same H H1)
      ⟨[], upd_same, by simp, rfl, same_upd hD⟩ (fun i H1 _ ⟨_, _, _, _, s1⟩ => SqT.of (s1 _ _ ht)) ?_ ?_
    · rintro i y H1 hy ⟨bs, hb, tb, lb, s1⟩
      obtain ⟨q, hq, rfl⟩ : ∃ q, ps[i]? = some q ∧ vI q = y := by
        rw [List.getElem?_map] at hy
        cases e : ps[i]? with
        | none => rw [e] at hy; cases hy
        | some q => rw [e] at hy; exact ⟨q, rfl, Option.some.inj hy⟩
      have q7 := PO.2 q (List.mem_of_getElem? hq)
      have il : i < ps.length := (List.getElem?_eq_some_iff.mp hq).1
      have l8 := PO.1
      refine ⟨rfl, ?_⟩
      unfold tYes
      refine iteT ?_
      refine ⟨_, rfl, _, _, _, rfl, ?_⟩
      rw [decide_eq_true (show (0 : Int) ≤ (q : Nat) ∧ ((q : Nat) : Int) ≤ 7 from ⟨by omega, by omega⟩)]
      refine ⟨_, hb, ?_, bs ++ [true], ?_, ?_, by simp [lb], same_mut s1 hD⟩
      · rw [List.length_map]
        exact Nat.lt_of_le_of_lt (show bs.length ≤ 8 by omega) (by decide)
      · rw [upd_same, List.map_append]
        rfl
      · intro b hb2
        rcases List.mem_append.mp hb2 with z | z
        · exact tb b z
        · rw [List.mem_singleton.mp z]
    · rintro H1 ⟨bs, hb, tb, lb, s1⟩
      refine ⟨D, bs, rfl, SqL.of hb, ?_⟩
      rw [all_true tb]
      exact h H1 s1
def spChkPace (K : PySem.W.Frag) : Sp := fun vs H Q _ => ∃ (c x t : Addr) (n : Nat) (E : List (Nat × Nat)) (ps : List Nat), vs = [.ref x, .ref t] ∧ BoardAt K c H x n E ∧ H t = some (.tup (ps.map vI)) ∧ PaceOk n ps ∧ ∀ H', Same H H' → Q .non H'
theorem sc_check_pace : FnScope ["board", "pace"] ["board", "pace"] (defScope s_check_pace) := ⟨rfl, rfl, rfl, by decide +kernel, rfl, by decide +kernel, by decide +kernel⟩
theorem ok_chk_pace (T : Tx K mg) : Has P w K mg base (He.ga K "check_pace") 4 ["board", "pace"] (spChkPace K) := by
  obtain ⟨⟨fd_is_pace, F_is_pace, b_is_pace⟩, kp_is_pace⟩ := ok_is_pace (P := P) (w := w) (base := base) T
  obtain ⟨fd, F⟩ := T.d_check_pace
  refine ⟨⟨fd, F.ok sc_check_pace (fun vs H Q E h => ?_) (fun cdv A outer s H vs Q E hr h => ?_), F.bindsN fun _ _ _ _ _ _ us hl => match us, hl with | [_, _], _ => rfl⟩, F.kp⟩
  · obtain ⟨c, x, t, n, E, p, rfl, _⟩ := h
    rfl
  · obtain ⟨c, x, t, n, E, ps, rfl, B, ht, PO, h⟩ := h
    have hr_is_pace : Room 3 _ := hr.mono (by decide)
    refine ⟨_, PSs.nox (pss_one (ps_if (pt_not (pt_val (pe_call F_is_pace hr_is_pace rfl T.glo_is_pace kp_is_pace b_is_pace .nil pass0 (pa_cons (pv 0) (pa_cons (pv 1) pa_nil))))) (pss_one ps_never) pss_nil)), ?_⟩
    exact ⟨_, rfl, _, rfl, c, x, t, n, E, ps, rfl, B, ht, PO, fun H1 s1 => ⟨_, rfl, iteF (h H1 s1)⟩⟩
end
end RL
namespace RL
open PySem PySem.Spec PyProof.Rows L2 RLM
theorem in_lot (b : Nat) (xs : List Nat) : inV (vI b) (xs.map vI) = decide (b ∈ xs) := by
  unfold inV
  rw [List.any_map]
  have e : ((fun y => eqV y (vI b)) ∘ vI) = fun q : Nat => decide (q = b) := by
    funext q
    show ((q : Int) == (b : Int)) = decide (q = b)
    by_cases h : q = b
    · subst h
      simp
    · have h2 : ¬ ((q : Int) = (b : Int)) := by omega
      rw [decide_eq_false h]
      exact beq_eq_false_iff_ne.mpr h2
  rw [e]
  by_cases h : b ∈ xs
  · rw [decide_eq_true h]
    exact List.any_eq_true.mpr ⟨b, h, by simp⟩
  · rw [decide_eq_false h]
    refine Bool.eq_false_iff.mpr fun z => ?_
    obtain ⟨q, hq, e⟩ := List.any_eq_true.mp z
    exact h (of_decide_eq_true e ▸ hq)
theorem flat_vI (xs : List Nat) : (xs.map vI).all flatV = true := by
  rw [List.all_map]
  exact List.all_eq_true.mpr fun _ _ => rfl
theorem count_more {p q : Nat → Bool} : ∀ (xs : List Nat) {b : Nat}, b ∈ xs → (∀ x, p x = true → q x = true) → p b = false → q b = true → xs.countP p + 1 ≤ xs.countP q
  | x :: xs, b, hb, hpq, h0, h1 => by
    have mono : ∀ ys : List Nat, ys.countP p ≤ ys.countP q := fun ys => List.countP_mono_left fun x _ hx => hpq x hx
    rw [List.countP_cons, List.countP_cons]
    rcases List.mem_cons.mp hb with e | e
    · subst e
      rw [h0, h1]
      have := mono xs
      simp
      omega
    · have ih := count_more xs e hpq h0 h1
      have : (if p x = true then 1 else 0) ≤ (if q x = true then 1 else 0) := by
        by_cases hx : p x = true
        · rw [if_pos hx, if_pos (hpq x hx)]
          exact Nat.le_refl _
        · rw [if_neg hx]
          exact Nat.zero_le _
      omega
section
variable {P : Program} {w : World} {K : PySem.W.Frag} {mg : Str → Option Value} {base : Heap}
/-- where a step leads from a lot -/
def stepP (n : Nat) (E : List (Nat × Nat)) (ps : List Nat) (p : Nat → Prop) (b : Nat) : Prop := ∃ a, a < n ∧ p a ∧ Near E ((ps.getD a 0 : Nat) : Int) a b
def spStep (K : PySem.W.Frag) : Sp := fun vs H Q _ => ∃ (c x tp tl : Addr) (n : Nat) (E : List (Nat × Nat)) (ps : List Nat) (p : Nat → Prop), vs = [.ref x, .ref tp, .ref tl] ∧ BoardAt K c H x n E ∧ H tp = some (.tup (ps.map vI)) ∧ PaceOk n ps ∧ H tl = some (.tup ((lotP n p).map vI)) ∧
  ∀ H' t, H' t = some (.tup ((lotP n (stepP n E ps p)).map vI)) → Same H H' → Q (.ref t) H'
/-- the set so far -/
def SetIs (w : World) (n : Nat) (D : Addr) (H : Hp) (r : Nat → Prop) : Prop := ∃ (S : Int → Bool) (cnt : Nat), H D = some (SetO w D S cnt) ∧ cnt ≤ (List.range 8).countP (fun b => S (nI b)) ∧ ∀ k : Int, S k = true ↔ ∃ b : Nat, k = nI b ∧ b < n ∧ r b
theorem pace_get {n : Nat} {ps : List Nat} (h : PaceOk n ps) {a : Nat} (ha : a < n) : ps[a]? = some (ps.getD a 0) := by
  have hl : a < ps.length := by rw [h.1]; exact ha
  rw [List.getD_eq_getElem?_getD, List.getElem?_eq_getElem hl]
  rfl
def beforeP (n : Nat) (E : List (Nat × Nat)) (ps : List Nat) (p : Nat → Prop) (a : Nat) : Prop := ∃ b, b < n ∧ p b ∧ Near E ((ps.getD a 0 : Nat) : Int) a b
def spBefore (K : PySem.W.Frag) : Sp := fun vs H Q _ => ∃ (c x tp tl : Addr) (n : Nat) (E : List (Nat × Nat)) (ps : List Nat) (p : Nat → Prop), vs = [.ref x, .ref tp, .ref tl] ∧ BoardAt K c H x n E ∧ H tp = some (.tup (ps.map vI)) ∧ PaceOk n ps ∧ H tl = some (.tup ((lotP n p).map vI)) ∧
  ∀ H' t, H' t = some (.tup ((lotP n (beforeP n E ps p)).map vI)) → Same H H' → Q (.ref t) H'
end
end RL
namespace RL
open PySem PySem.Spec PyProof.Rows L2 RLM
section
variable {P : Program} {w : World} {K : PySem.W.Frag} {mg : Str → Option Value} {base : Heap}
theorem sc_step : FnScope ["board", "pace", "lot", "place", "end"] ["board", "pace", "lot"] (defScope s_step) := ⟨rfl, rfl, rfl, by decide +kernel, rfl, by decide +kernel, by decide +kernel⟩
theorem ok_step (T : Tx K mg) : Has P w K mg base (He.ga K "step") 5 ["board", "pace", "lot"] (spStep K) := by
  obtain ⟨⟨fd_check_pace, F_check_pace, b_check_pace⟩, kp_check_pace⟩ := ok_chk_pace (P := P) (w := w) (base := base) T
  obtain ⟨⟨fd_check_lot, F_check_lot, b_check_lot⟩, kp_check_lot⟩ := ok_chk_lot (P := P) (w := w) (base := base) T
  obtain ⟨⟨fd_within, F_within, b_within⟩, kp_within⟩ := ok_within (P := P) (w := w) (base := base) T
  obtain ⟨fd, F⟩ := T.d_step
  refine ⟨⟨fd, F.ok sc_step (fun vs H Q E h => ?_) (fun cdv A outer s H vs Q E hr h => ?_), F.bindsN fun _ _ _ _ _ _ us hl => match us, hl with | [_, _, _], _ => rfl⟩, F.kp⟩
  · obtain ⟨c, x, tp, tl, n, E, ps, p, rfl, _⟩ := h
    rfl
  · obtain ⟨c, x, tp, tl, n, E, ps, p, rfl, B0, htp0, PO, htl0, h⟩ := h
    have hr_check_pace : Room 4 _ := hr.mono (by decide)
    have hr_check_lot : Room 4 _ := hr.mono (by decide)
    have hr_within : Room 4 _ := hr.mono (by decide)
    refine ⟨_, PSs.nox (pss_cons (ps_expr (pe_call F_check_pace hr_check_pace rfl T.glo_check_pace kp_check_pace b_check_pace .nil pass0 (pa_cons (pv 0) (pa_cons (pv 1) pa_nil))))
      (pss_cons (ps_expr (pe_call F_check_lot hr_check_lot rfl T.glo_check_lot kp_check_lot b_check_lot .nil pass0 (pa_cons (pv 0) (pa_cons (pv 2) pa_nil))))
      (pss_one (ps_ret (pe_callTy (tupK (K := K)) (by rfl) T.free_tuple (by decide +kernel) (pa_cons (pe_callB (sortS (w := w)) (by rfl) T.free_sorted (by decide +kernel) (pa_cons (pe_sc2 (own := [("place", 3), ("end", 4)]) (vs1 := [4]) rfl sc_step.nd (piT (K := K) (pv 2)) (blkOk_by (by kernel_rfl)) (by decide) (fun _ _ _ _ _ => (pg_name (i := 3) sc_step.nd rfl (Or.inl rfl))) (fun _ _ _ _ _ => pts_nil) (fun _ _ _ _ _ => (piT (K := K) (pe_meth (pv 0) T.cl T.m_within F_within hr_within b_within .nil pass0 (pa_cons (pv 3) (pa_cons (pe_ix (ixT (K := K)) (pv 1) (pv 3) (fun _ _ => rfl)) pa_nil))))) (fun _ _ _ _ _ => (pg_name (i := 4) sc_step.nd rfl (Or.inl rfl))) (fun _ _ _ _ _ => pts_nil) (fun _ _ _ _ _ => (pv 4))) pa_nil)) pa_nil)))))), ?_⟩
    refine ⟨_, rfl, _, rfl, c, x, tp, n, E, ps, rfl, B0, htp0, PO, fun H1 s1 => ?_⟩
    refine ⟨_, rfl, _, rfl, c, x, tl, n, E, p, rfl, B0.same s1, s1 _ _ htl0, fun H2 s2 => ?_⟩
    have s12 := s1.trans s2
    have B := B0.same s12
    have htp := s12 _ _ htp0
    have htl := s12 _ _ htl0
    have n8 := B.hi
    refine ⟨_, rfl, tl, rfl, ⟨_, SqT.of htl⟩, fun D hD => ?_⟩
    let oldP : Nat → Nat → Prop := fun i b => ∃ a, a ∈ (lotP n p).take i ∧ Near E ((ps.getD a 0 : Nat) : Int) a b
    refine ⟨fun i m H3 => m = (lotP n p).length - i ∧ i ≤ (lotP n p).length ∧ SetIs w n D H3 (oldP i) ∧ Same H2 H3, ⟨_, rfl, Nat.zero_le _, ⟨fun _ => false, 0, upd_same, Nat.zero_le _, fun k => ?_⟩, same_upd hD⟩, ?_⟩
    · refine ⟨fun z => (by cases z), ?_⟩
      rintro ⟨b, _, _, a, ha, _⟩
      simp at ha
    rintro i m H3 ⟨rfl, il, SI, s3⟩
    by_cases lt : i < (lotP n p).length
    · have ea : (lotP n p)[i]? = some (lotP n p)[i] := List.getElem?_eq_getElem lt
      generalize (lotP n p)[i] = a at ea
      have ma := mem_lotP.mp (List.mem_of_getElem? ea)
      have et : (lotP n p).take (i + 1) = (lotP n p).take i ++ [a] := by
        rw [List.take_add_one, ea]
        rfl
      refine .inr ⟨⟨_, vI a, SqT.of (s3 _ _ htl), get_map ea⟩, fun H4 => SetIs w n D H4 (oldP (i + 1)) ∧ Same H2 H4, fun H4 ⟨q1, q2⟩ => ⟨_, by omega, rfl, lt, q1, q2⟩, fun y H4 hy => ?_⟩
      obtain ⟨e4, hy⟩ := hy
      subst e4
      have ey : y = vI a := by
        have := hy _ (SqT.of (s3 _ _ htl))
        rw [get_map ea] at this
        exact (Option.some.inj this).symm
      subst ey
      refine ⟨rfl, ?_⟩
      unfold tYes
      refine iteT ?_
      have B3 := B.same s3
      obtain ⟨dx, q1, q2, q3, hx⟩ := B3.obj
      refine ⟨_, rfl, x, dx, _, rfl, hx, bf_within _ _ _ _, _, rfl, _, rfl, _, rfl, tp, _, _, _, rfl, rfl, SqT.of (s3 _ _ htp), atI_nat (get_map (pace_get PO ma.1)), c, x, n, a, _, E, rfl, B3, ma.1, fun H5 t ht s5 => ?_⟩
      obtain ⟨W, eW⟩ : ∃ W, W = lotP n (Near E ((ps.getD a 0 : Nat) : Int) a) := ⟨_, rfl⟩
      rw [← eW] at ht
      refine ⟨t, rfl, ⟨_, SqT.of ht⟩, fun j m H6 => m = W.length - j ∧ j ≤ W.length ∧ SetIs w n D H6 (fun b => oldP i b ∨ b ∈ W.take j) ∧ H6 t = some (.tup (W.map vI)) ∧ Same H2 H6, ⟨_, rfl, Nat.zero_le _, ?_, ht, s3.trans s5⟩, ?_⟩
      · obtain ⟨S, cnt, hS, hc, mS⟩ := SI
        refine ⟨S, cnt, s5 _ _ hS, hc, fun k => (mS k).trans (exists_congr fun b => and_congr_right fun _ => and_congr_right fun _ => ?_)⟩
        simp
      rintro j m H6 ⟨rfl, jl, ⟨S, cnt, hS, hc, mS⟩, ht6, s6⟩
      by_cases lt2 : j < W.length
      · have eb : W[j]? = some W[j] := List.getElem?_eq_getElem lt2
        generalize W[j] = b at eb
        have mb : b < n := by
          have := List.mem_of_getElem? eb
          rw [eW] at this
          exact (mem_lotP.mp this).1
        have et2 : W.take (j + 1) = W.take j ++ [b] := by
          rw [List.take_add_one, eb]
          rfl
        refine .inr ⟨⟨_, vI b, SqT.of ht6, get_map eb⟩, fun H7 => SetIs w n D H7 (fun b => oldP i b ∨ b ∈ W.take (j + 1)) ∧ H7 t = some (.tup (W.map vI)) ∧ Same H2 H7, fun H7 ⟨q1, q2, q3⟩ => ⟨_, by omega, rfl, lt2, q1, q2, q3⟩, fun y H7 hy => ?_⟩
        obtain ⟨e7, hy⟩ := hy
        subst e7
        have ey : y = vI b := by
          have := hy _ (SqT.of ht6)
          rw [get_map eb] at this
          exact (Option.some.inj this).symm
        subst ey
        refine ⟨rfl, ?_⟩
        refine iteT ?_
        have c8 : cnt ≤ 8 := Nat.le_trans hc (Nat.le_trans List.countP_le_length (by rw [List.length_range]; exact Nat.le_refl _))
        have tD : t ≠ D := ne_of ht6 hS (by intro z; cases z)
        refine ⟨_, rfl, nI b, S, cnt, rfl, hS, Nat.lt_of_le_of_lt (show cnt + 1 ≤ 9 by omega) (by decide), ⟨_, _, upd_same, ?_, fun k => ?_⟩, by rw [upd_ne tD]; exact ht6, same_mut s6 hD⟩
        · by_cases sb : S (nI b) = true
          · rw [if_pos sb]
            exact Nat.le_trans hc (List.countP_mono_left fun z _ hz => by rw [hz]; rfl)
          · rw [if_neg sb]
            have sb' : S (nI b) = false := by simpa using sb
            refine Nat.le_trans (Nat.succ_le_succ hc) (count_more (List.range 8) (b := b) (List.mem_range.mpr (by omega)) (fun z hz => by rw [hz]; rfl) sb' (by simp))
        · rw [Bool.or_eq_true, mS k, decide_eq_true_iff, et2]
          constructor
          · rintro (⟨b', e, h1, h2⟩ | e)
            · refine ⟨b', e, h1, h2.imp id fun z => List.mem_append_left _ z⟩
            · exact ⟨b, e, mb, .inr (by simp)⟩
          · rintro ⟨b', e, h1, h2 | h2⟩
            · exact .inl ⟨b', e, h1, .inl h2⟩
            · rcases List.mem_append.mp h2 with z | z
              · exact .inl ⟨b', e, h1, .inr z⟩
              · rw [List.mem_singleton.mp z] at e
                exact .inr e
      · have e : j = W.length := by omega
        subst e
        refine .inl ⟨⟨_, SqT.of ht6, by rw [List.length_map]; exact Nat.le_refl _⟩, ⟨S, cnt, hS, hc, fun k => (mS k).trans (exists_congr fun b => and_congr_right fun _ => and_congr_right fun hb => ?_)⟩, s6⟩
        show (oldP i b ∨ b ∈ W.take W.length) ↔ ∃ a', a' ∈ (lotP n p).take (i + 1) ∧ _
        rw [List.take_length, eW, mem_lotP, et]
        constructor
        · rintro (⟨a', z1, z2⟩ | ⟨_, z⟩)
          · exact ⟨a', List.mem_append_left _ z1, z2⟩
          · exact ⟨a, by simp, z⟩
        · rintro ⟨a', z1, z2⟩
          rcases List.mem_append.mp z1 with z | z
          · exact .inl ⟨a', z, z2⟩
          · rw [List.mem_singleton.mp z] at z2
            exact .inr ⟨hb, z2⟩
    · have e : i = (lotP n p).length := by omega
      subst e
      refine .inl ⟨⟨_, SqT.of (s3 _ _ htl), by rw [List.length_map]; exact Nat.le_refl _⟩, ?_⟩
      obtain ⟨S, cnt, hS, hc, mS⟩ := SI
      have c8 : cnt ≤ 8 := Nat.le_trans hc (Nat.le_trans List.countP_le_length (by rw [List.length_range]; exact Nat.le_refl _))
      refine ⟨D, S, cnt, rfl, hS, by omega, fun ns l h1 h2 h3 hl => ?_⟩
      refine ⟨l, _, rfl, .inl ⟨SqL.of upd_same, fun t ht => ?_⟩⟩
      refine h _ t ?_ (((s12.trans s3).trans (same_upd hl)).trans (same_upd ht))
      rw [upd_same, rise_lot (n := n) (p := stepP n E ps p) h1 fun k => (h2 k).trans ((mS k).trans (exists_congr fun b => and_congr_right fun _ => and_congr_right fun _ => ?_))]
      show (∃ a, a ∈ (lotP n p).take (lotP n p).length ∧ _) ↔ _
      rw [List.take_length]
      exact exists_congr fun a => by rw [mem_lotP, and_assoc]
end
end RL
namespace RL
open PySem PySem.Spec PyProof.Rows L2 RLM
section
variable {P : Program} {w : World} {K : PySem.W.Frag} {mg : Str → Option Value} {base : Heap}
theorem sc_before : FnScope ["board", "pace", "lot", "place", "number", "end"] ["board", "pace", "lot"] (defScope s_before) := ⟨rfl, rfl, rfl, by decide +kernel, rfl, by decide +kernel, by decide +kernel⟩
theorem ok_before (T : Tx K mg) : Has P w K mg base (He.ga K "before") 5 ["board", "pace", "lot"] (spBefore K) := by
  obtain ⟨⟨fd_check_pace, F_check_pace, b_check_pace⟩, kp_check_pace⟩ := ok_chk_pace (P := P) (w := w) (base := base) T
  obtain ⟨⟨fd_check_lot, F_check_lot, b_check_lot⟩, kp_check_lot⟩ := ok_chk_lot (P := P) (w := w) (base := base) T
  obtain ⟨⟨fd_within, F_within, b_within⟩, kp_within⟩ := ok_within (P := P) (w := w) (base := base) T
  obtain ⟨fd, F⟩ := T.d_before
  refine ⟨⟨fd, F.ok sc_before (fun vs H Q E h => ?_) (fun cdv A outer s H vs Q E hr h => ?_), F.bindsN fun _ _ _ _ _ _ us hl => match us, hl with | [_, _, _], _ => rfl⟩, F.kp⟩
  · obtain ⟨c, x, tp, tl, n, E, ps, p, rfl, _⟩ := h
    rfl
  · obtain ⟨c, x, tp, tl, n, E, ps, p, rfl, B0, htp0, PO, htl0, h⟩ := h
    have hr_check_pace : Room 4 _ := hr.mono (by decide)
    have hr_check_lot : Room 4 _ := hr.mono (by decide)
    have hr_within : Room 4 _ := hr.mono (by decide)
    refine ⟨_, PSs.nox (pss_cons (ps_expr (pe_call F_check_pace hr_check_pace rfl T.glo_check_pace kp_check_pace b_check_pace .nil pass0 (pa_cons (pv 0) (pa_cons (pv 1) pa_nil))))
      (pss_cons (ps_expr (pe_call F_check_lot hr_check_lot rfl T.glo_check_lot kp_check_lot b_check_lot .nil pass0 (pa_cons (pv 0) (pa_cons (pv 2) pa_nil))))
      (pss_one (ps_ret (pe_callTy (tupK (K := K)) (by rfl) T.free_tuple (by decide +kernel) (pa_cons (pe_lc (own := [("place", 3), ("number", 4)]) rfl sc_before.nd (piEnumT (K := K) (by rfl) T.free_enumerate (pa_cons (pv 1) pa_nil)) (blkOk_by (by kernel_rfl)) (fun _ _ _ _ _ => (pgT (K := K) (n := 2) rfl (pgs_cons (pg_name (i := 3) sc_before.nd rfl (Or.inl rfl)) (pgs_cons (pg_name (i := 4) sc_before.nd rfl (Or.inl rfl)) pgs_nil)))) (fun _ _ _ _ _ => (pts_one (pt_val (pe_callB (anyK (K := K)) (by rfl) T.free_any (by decide +kernel) (pa_cons (pe_lc (own := [("end", 5)]) (g := (gName 5)) (tt := tYes) rfl sc_before.nd (piT (K := K) (pe_meth (pv 0) T.cl T.m_within F_within hr_within b_within .nil pass0 (pa_cons (pv 3) (pa_cons (pv 4) pa_nil)))) (blkOk_by (by kernel_rfl)) (fun _ _ _ _ _ => (pg_name (i := 5) sc_before.nd rfl (Or.inl rfl))) (fun _ _ _ _ _ => pts_nil) (fun _ _ _ _ _ => (pe_cmpR (inSq (K := K)) (pv 5) (pv 2) (by rfl)))) pa_nil))))) (fun _ _ _ _ _ => (pv 3))) pa_nil)))))), ?_⟩
    refine ⟨_, rfl, _, rfl, c, x, tp, n, E, ps, rfl, B0, htp0, PO, fun H1 s1 => ?_⟩
    refine ⟨_, rfl, _, rfl, c, x, tl, n, E, p, rfl, B0.same s1, s1 _ _ htl0, fun H2 s2 => ?_⟩
    have s12 := s1.trans s2
    have B := B0.same s12
    have htp := s12 _ _ htp0
    have htl := s12 _ _ htl0
    have n8 := B.hi
    refine ⟨_, rfl, tp, _, rfl, SqT.of htp, fun D hD => ?_⟩
    refine lc_it (walk_enumT (K := K) (a := tp) (xs := ps.map vI)) (fun i H3 => ∃ qs : List Nat, H3 D = some (.lst (qs.map vI)) ∧ qs.Pairwise (· < ·) ∧ (∀ b, b ∈ qs ↔ b < i ∧ beforeP n E ps p b) ∧ qs.length ≤ i ∧ Same H2 H3)
      ⟨[], upd_same, List.Pairwise.nil, by simp, Nat.le_refl _, same_upd hD⟩ (fun i H3 _ ⟨_, _, _, _, _, s3⟩ => SqT.of (s3 _ _ htp)) ?_ ?_
    · rintro i y H3 H4 hi ⟨qs, hq, sq, mq, lq, s3⟩ ⟨t, y1, y2, rfl, ht, rfl, e1, e2⟩
      rw [List.length_map] at hi
      have il : i < n := by rw [← PO.1]; exact hi
      cases (Option.some.inj e1)
      have ey : y2 = vI (ps.getD i 0) := by
        have e3 : (ps.map vI)[i]? = some y2 := e2
        rw [get_map (pace_get PO il)] at e3
        exact (Option.some.inj e3).symm
      subst ey
      have s4 : Same H3 (upd H3 t (.tup [.int (i : Nat), vI (ps.getD i 0)])) := same_upd ht
      have s34 := s3.trans s4
      have hq4 := s4 _ _ hq
      refine ⟨t, _, rfl, SqT.of upd_same, rfl, _, _, rfl, _, _, rfl, rfl, rfl, ?_⟩
      generalize upd H3 t (.tup [.int (i : Nat), vI (ps.getD i 0)]) = H4 at s34 hq4
      have B4 := B.same s34
      obtain ⟨dx, q1, q2, q3, hx⟩ := B4.obj
      refine ⟨_, rfl, x, dx, _, rfl, hx, bf_within _ _ _ _, _, rfl, _, rfl, c, x, n, i, _, E, rfl, B4, il, fun H5 u hu s5 => ?_⟩
      obtain ⟨W, eW⟩ : ∃ W, W = lotP n (Near E ((ps.getD i 0 : Nat) : Int) i) := ⟨_, rfl⟩
      rw [← eW] at hu
      have lW : W.length ≤ n := by rw [eW]; exact lotP_len _ _
      refine ⟨u, rfl, ⟨_, SqT.of hu⟩, fun D2 hD2 => ?_⟩
      have s25 := s34.trans s5
      refine lc_tup (K := K) (a := u) (xs := W.map vI) (fun j H6 => H6 D2 = some (.lst (((W.take j).map fun b => decide (b ∈ lotP n p)).map V.bl)) ∧ Same H5 H6)
        ⟨upd_same, same_upd hD2⟩ (fun j H6 _ ⟨_, s6⟩ => SqT.of (s6 _ _ hu)) ?_ ?_
      · rintro j z H6 hz ⟨hb, s6⟩
        obtain ⟨b, hb2, rfl⟩ : ∃ b, W[j]? = some b ∧ vI b = z := by
          rw [List.getElem?_map] at hz
          cases e : W[j]? with
          | none => rw [e] at hz; cases hz
          | some b => rw [e] at hz; exact ⟨b, rfl, Option.some.inj hz⟩
        have jl : j < W.length := (List.getElem?_eq_some_iff.mp hb2).1
        refine ⟨rfl, ?_⟩
        unfold tYes
        refine iteT ?_
        refine ⟨_, rfl, _, rfl, tl, _, rfl, .inr (SqT.of (s6 _ _ (s25 _ _ htl))), rfl, flat_vI _, ?_⟩
        refine ⟨_, hb, ?_, ?_, same_mut s6 hD2⟩
        · rw [List.length_map, List.length_map, List.length_take]
          exact Nat.lt_of_le_of_lt (show min j W.length ≤ 8 by omega) (by decide)
        · rw [upd_same, List.take_add_one, hb2, List.map_append, List.map_append]
          show some (HO.lst (_ ++ [V.bl (inV (vI b) ((lotP n p).map vI))])) = _
          rw [in_lot]
          rfl
      · rintro H6 ⟨hb, s6⟩
        rw [List.length_map, List.take_length] at hb
        refine ⟨D2, _, rfl, SqL.of hb, _, rfl, ?_⟩
        have s26 := s25.trans s6
        have hq6 := s6 _ _ (s5 _ _ hq4)
        have key : ((W.map fun b => decide (b ∈ lotP n p)).any id = true) ↔ beforeP n E ps p i := by
          rw [List.any_eq_true]
          constructor
          · rintro ⟨v, hv, ev⟩
            obtain ⟨b, hb, rfl⟩ := List.mem_map.mp hv
            have m1 := mem_lotP.mp (of_decide_eq_true ev)
            rw [eW] at hb
            exact ⟨b, m1.1, m1.2, (mem_lotP.mp hb).2⟩
          · rintro ⟨b, h1, h2, h3⟩
            refine ⟨true, List.mem_map.mpr ⟨b, by rw [eW]; exact mem_lotP.mpr ⟨h1, h3⟩, decide_eq_true (mem_lotP.mpr ⟨h1, h2⟩)⟩, rfl⟩
        refine ite2 (fun z => ?_) (fun z => ?_)
        · have bp := key.1 z
          refine ⟨_, rfl, _, hq6, ?_, qs ++ [i], ?_, ?_, fun b => ?_, ?_, same_mut s26 hD⟩
          · rw [List.length_map]
            exact Nat.lt_of_le_of_lt (show qs.length ≤ 8 by omega) (by decide)
          · rw [upd_same, List.map_append]
            rfl
          · rw [List.pairwise_append]
            refine ⟨sq, by simp, fun b hb b' hb' => ?_⟩
            rw [List.mem_singleton.mp hb']
            exact ((mq b).1 hb).1
          · rw [List.mem_append, mq b, List.mem_singleton]
            constructor
            · rintro (⟨z1, z2⟩ | z1)
              · exact ⟨by omega, z2⟩
              · rw [z1]
                exact ⟨by omega, bp⟩
            · rintro ⟨z1, z2⟩
              rcases Nat.lt_or_ge b i with k | k
              · exact .inl ⟨k, z2⟩
              · exact .inr (by omega)
          · rw [List.length_append]
            simp
            omega
        · refine ⟨qs, hq6, sq, fun b => ?_, by omega, s26⟩
          rw [mq b]
          constructor
          · rintro ⟨z1, z2⟩
            exact ⟨by omega, z2⟩
          · rintro ⟨z1, z2⟩
            refine ⟨?_, z2⟩
            rcases Nat.lt_or_ge b i with k | k
            · exact k
            · exfalso
              have e : b = i := by omega
              rw [e] at z2
              exact z (key.2 z2)
    · rintro H3 ⟨qs, hq, sq, mq, lq, s3⟩
      rw [List.length_map, PO.1] at mq
      refine ⟨D, _, rfl, .inl ⟨SqL.of hq, fun t ht => ?_⟩⟩
      refine h _ t ?_ ((s12.trans s3).trans (same_upd ht))
      rw [upd_same, lotP_of sq mq]
end
end RL
namespace RL
open PySem PySem.Spec PyProof.Rows L2 RLM
section
variable {P : Program} {w : World} {K : PySem.W.Frag} {mg : Str → Option Value} {base : Heap}
theorem sc__law_joined : FnScope ["_law_one", "_law_other"] ["_law_one", "_law_other"] (defScope s__law_joined) := ⟨rfl, rfl, rfl, by decide +kernel, rfl, by decide +kernel, by decide +kernel⟩
theorem ok_joined (T : Tx K mg) : Has P w K mg base (He.ga K "_law_joined") 1 ["_law_one", "_law_other"] spJoined := by
  obtain ⟨fd, F⟩ := T.d__law_joined
  refine ⟨⟨fd, F.ok sc__law_joined (fun vs H Q E h => ?_) (fun cdv A outer s H vs Q E hr h => ?_), F.bindsN fun _ _ _ _ _ _ us hl => match us, hl with | [_, _], _ => rfl⟩, F.kp⟩
  · obtain ⟨b, c, n, p, q, rfl, _⟩ := h
    rfl
  · obtain ⟨x, y, n, p, q, rfl, hx, hy, n8, h⟩ := h
    refine ⟨_, PSs.nox (pss_one (ps_ret (pe_callTy (tupK (K := K)) (by rfl) T.free_tuple (by decide +kernel) (pa_cons (pe_callB (sortS (w := w)) (by rfl) T.free_sorted (by decide +kernel) (pa_cons (pe_callTy (setTK (K := K) (w := w)) (by rfl) T.free_set (by decide +kernel) (pa_cons (pe_op op_catA (pv 0) (pv 1)) pa_nil)) pa_nil)) pa_nil)))), ?_⟩
    have lp := lotP_len n p
    have lq := lotP_len n q
    have rest : ∀ H1 z (ms : List Int), Same H H1 → H1 z = some (.tup (ms.map V.int)) → (∀ k : Int, k ∈ ms ↔ ∃ b : Nat, k = nI b ∧ b < n ∧ (p b ∨ q b)) → ms.length ≤ 16 →
        rSetT w K [.ref z] H1 (fun v H2 => rSortedSet w [v] H2 fun v H3 => rTupK K [v] H3 Q) := fun H1 z ms s1 hz hm ll => by
      refine ⟨z, ms, rfl, SqT.of hz, by omega, fun d cc hd hc => ?_⟩
      refine ⟨d, _, cc, rfl, upd_same, by omega, fun ns l h1 h2 h3 hl => ?_⟩
      refine ⟨l, _, rfl, .inl ⟨SqL.of upd_same, fun t ht => ?_⟩⟩
      refine h _ t ?_ ((s1.trans (same_upd hd)).trans ((same_upd hl).trans (same_upd ht)))
      rw [upd_same, rise_lot h1 fun k => (h2 k).trans ((decide_eq_true_iff).trans (hm k))]
    have mem : ∀ (r : Nat → Prop) (k : Int), k ∈ (lotP n r).map nI ↔ ∃ b : Nat, k = nI b ∧ b < n ∧ r b := fun r k => by
      rw [List.mem_map]
      constructor
      · rintro ⟨b, hb, rfl⟩
        exact ⟨b, rfl, mem_lotP.mp hb⟩
      · rintro ⟨b, rfl, hb⟩
        exact ⟨b, mem_lotP.mpr hb, rfl⟩
    refine ⟨_, rfl, _, rfl, x, y, _, _, rfl, rfl, SqT.of hx, SqT.of hy, ?_, fun e => ?_, fun e1 e2 => ?_, fun e1 e2 z hz => ?_⟩
    · rw [List.length_map, List.length_map]
      exact Nat.le_trans (show (lotP n p).length + (lotP n q).length ≤ 16 by omega) (by decide)
    · refine rest H y ((lotP n q).map nI) (Same.refl H) (by rw [← vI_map]; exact hy) (fun k => (mem q k).trans ?_) (by rw [List.length_map]; omega)
      have e' : lotP n p = [] := List.map_eq_nil_iff.mp e
      refine exists_congr fun b => and_congr_right fun _ => and_congr_right fun hb => ⟨.inr, fun z => z.elim (fun z => ?_) id⟩
      have := mem_lotP.mpr ⟨hb, z⟩
      rw [e'] at this
      cases this
    · refine rest H x ((lotP n p).map nI) (Same.refl H) (by rw [← vI_map]; exact hx) (fun k => (mem p k).trans ?_) (by rw [List.length_map]; omega)
      have e' : lotP n q = [] := List.map_eq_nil_iff.mp e2
      refine exists_congr fun b => and_congr_right fun _ => and_congr_right fun hb => ⟨.inl, fun z => z.elim id (fun z => ?_)⟩
      have := mem_lotP.mpr ⟨hb, z⟩
      rw [e'] at this
      cases this
    · refine rest _ z ((lotP n p).map nI ++ (lotP n q).map nI) (same_upd hz) (by rw [upd_same, List.map_append, ← vI_map, ← vI_map]) (fun k => ?_) (by rw [List.length_append, List.length_map, List.length_map]; omega)
      rw [List.mem_append, mem p k, mem q k]
      constructor
      · rintro (⟨b, e, h1, h2⟩ | ⟨b, e, h1, h2⟩)
        · exact ⟨b, e, h1, .inl h2⟩
        · exact ⟨b, e, h1, .inr h2⟩
      · rintro ⟨b, e, h1, h2 | h2⟩
        · exact .inl ⟨b, e, h1, h2⟩
        · exact .inr ⟨b, e, h1, h2⟩
end
end RL
namespace RL
open PySem PySem.Spec PyProof.Rows L2 RLM
section
variable {P : Program} {w : World} {K : PySem.W.Frag} {mg : Str → Option Value} {base : Heap}
def spEven (K : PySem.W.Frag) : Sp := fun vs H Q _ => ∃ (c x : Addr) (n k : Nat) (E : List (Nat × Nat)), vs = [.ref x, vI k] ∧ BoardAt K c H x n E ∧ k ≤ 7 ∧ ∀ H' t, H' t = some (.tup ((List.replicate n k).map vI)) → Same H H' → Q (.ref t) H'
theorem sc_even : FnScope ["board", "number"] ["board", "number"] (defScope s_even) := ⟨rfl, rfl, rfl, by decide +kernel, rfl, by decide +kernel, by decide +kernel⟩
theorem ok_even (T : Tx K mg) : Has P w K mg base (He.ga K "even") 3 ["board", "number"] (spEven K) := by
  obtain ⟨⟨fd_is_between, F_is_between, b_is_between⟩, kp_is_between⟩ := ok_is_between (P := P) (w := w) (base := base) T
  obtain ⟨⟨fd_len, F_len, b_len⟩, kp_len⟩ := ok_len (P := P) (w := w) (base := base) T
  obtain ⟨fd, F⟩ := T.d_even
  refine ⟨⟨fd, F.ok sc_even (fun vs H Q E h => ?_) (fun cdv A outer s H vs Q E hr h => ?_), F.bindsN fun _ _ _ _ _ _ us hl => match us, hl with | [_, _], _ => rfl⟩, F.kp⟩
  · obtain ⟨c, x, n, k, E, rfl, _⟩ := h
    rfl
  · obtain ⟨c, x, n, k, E, rfl, B, k7, h⟩ := h
    have hr_is_between : Room 2 _ := hr.mono (by decide)
    have hr_len : Room 2 _ := hr.mono (by decide)
    refine ⟨_, PSs.nox (pss_cons (ps_if (pt_not (pt_val (pe_call F_is_between hr_is_between rfl T.glo_is_between kp_is_between b_is_between .nil pass0 (pa_cons (pv 1) (pa_cons pe_int (pa_cons (pe_glob (v := .int 7) rfl T.glob_MOST_PACE.choose_spec ⟨_, rfl⟩) pa_nil)))))) (pss_one ps_never) pss_nil)
      (pss_one (ps_ret (pe_op (repTK (K := K)) (pe_tup (pa_cons (pv 1) pa_nil)) (pe_callB (call_lenOwn T.m_len F_len b_len hr_len) (by rfl) T.free_len (by decide +kernel) (pa_cons (pv 0) pa_nil)))))), ?_⟩
    have n8 := B.hi
    have n1 := B.lo
    refine ⟨_, rfl, _, _, _, rfl, _, rfl, iteNS ⟨by omega, by omega⟩ ?_⟩
    refine ⟨_, rfl, (by show 1 ≤ sizeLine; decide), fun t ht => ?_⟩
    have s1 : Same H (upd H t (.tup [vI k])) := same_upd ht
    have B1 := B.same s1
    obtain ⟨dx, q1, q2, q3, hx⟩ := B1.obj
    refine ⟨_, rfl, x, dx, _, rfl, hx, c, x, n, E, rfl, B1, (n : Int), rfl, by omega, by omega, t, (n : Int), _, rfl, rfl, SqT.of upd_same, by simp, by omega, by omega, (by show 1 ≤ 1000; decide), fun e => ?_, fun q hq => ?_⟩
    · have e1 : n = 1 := by omega
      subst e1
      exact h _ t upd_same s1
    · have s2 := same_upd (o := HO.tup (List.replicate (n : Int).toNat [vI k]).flatten) hq
      refine h _ q ?_ (s1.trans s2)
      rw [upd_same, rep_flat, List.map_replicate, Int.toNat_natCast]
end
end RL
namespace RL
open PySem PySem.Spec PyProof.Rows L2 RLM
section
variable {P : Program} {w : World} {K : PySem.W.Frag} {mg : Str → Option Value} {base : Heap}
theorem sc_Board_turned : FnScope ["self", "one", "other"] ["self"] (defScope s_Board_turned) := ⟨rfl, rfl, rfl, by decide +kernel, rfl, by decide +kernel, by decide +kernel⟩
theorem ok_turned (T : Tx K mg) : Has P w K mg base (mB K "turned") 6 ["self"] (spTurned K) := by
  obtain ⟨⟨fd_Board, F_Board, b_Board⟩, kp_Board⟩ := ok_init (P := P) (w := w) (base := base) T
  obtain ⟨fd, F⟩ := T.d_Board_turned
  refine ⟨⟨fd, F.ok sc_Board_turned (fun vs H Q E h => ?_) (fun cdv A outer s H vs Q E hr h => ?_), F.bindsN fun _ _ _ _ _ _ us hl => match us, hl with | [_], _ => rfl⟩, F.kp⟩
  · obtain ⟨c, x, n, E, rfl, _⟩ := h
    rfl
  · obtain ⟨c, x, n, E, rfl, B, hc, h⟩ := h
    have hr_Board : Room 5 _ := hr.mono (by decide)
    refine ⟨_, PSs.nox (pss_one (ps_ret (pe_make T.mkB F_Board hr_Board rfl T.glo_Board b_Board .nil pass0 (pa_cons (fldK (K := K) (pv 0) rfl) (pa_cons (pe_lc (own := [("one", 1), ("other", 2)]) (tt := tYes) rfl sc_Board_turned.nd (piL (K := K) (fldK (K := K) (pv 0) rfl)) (blkOk_by (by kernel_rfl)) (fun _ _ _ _ _ => (pgT (K := K) (n := 2) rfl (pgs_cons (pg_name (i := 1) sc_Board_turned.nd rfl (Or.inl rfl)) (pgs_cons (pg_name (i := 2) sc_Board_turned.nd rfl (Or.inl rfl)) pgs_nil)))) (fun _ _ _ _ _ => pts_nil) (fun _ _ _ _ _ => (pe_tup (pa_cons (pv 2) (pa_cons (pv 1) pa_nil))))) pa_nil))))), ?_⟩
    obtain ⟨dx, lp, ll, lf, L, ls, U, hx, PL, eE, _⟩ := B.ex
    refine ⟨_, rfl, x, _, dx, _, _, rfl, hx, T.cl, T.n_many, bf_many _ _ _ _, _, rfl, x, _, dx, _, _, rfl, hx, T.cl, T.n_pairs, bf_pairs _ _ _ _, lp, rfl, ⟨_, SqL.of PL.at_⟩, fun D hD => ?_⟩
    have lE : L.length ≤ 56 := by
      have := on_few B.hi B.on B.nd
      rw [← eE, List.length_map] at this
      exact this
    refine lc_list (K := K) (a := lp) (xs := L.map fun q => V.ref q.1) (fun i H1 => ∃ M : List (Addr × Nat × Nat), H1 D = some (.lst (M.map fun q => V.ref q.1)) ∧ (∀ q ∈ M, H1 q.1 = some (.tup [vI q.2.1, vI q.2.2])) ∧ M.map (·.2) = (L.take i).map (fun q => (q.2.2, q.2.1)) ∧ Same H H1)
      ⟨[], upd_same, fun q hq => (by cases hq), by simp, same_upd hD⟩ (fun i H1 _ ⟨_, _, _, _, s1⟩ => SqL.of (s1 _ _ PL.at_)) ?_ ?_
    · rintro i y H1 hy ⟨M, hM, tM, eM, s1⟩
      obtain ⟨q, hq, rfl⟩ : ∃ q, L[i]? = some q ∧ V.ref q.1 = y := by
        rw [List.getElem?_map] at hy
        cases e : L[i]? with
        | none => rw [e] at hy; cases hy
        | some q => rw [e] at hy; exact ⟨q, rfl, Option.some.inj hy⟩
      have et : L.take (i + 1) = L.take i ++ [q] := by
        rw [List.take_add_one, hq]
        rfl
      have il : i < L.length := (List.getElem?_eq_some_iff.mp hq).1
      refine ⟨q.1, _, rfl, SqT.of (s1 _ _ (PL.tup q (List.mem_of_getElem? hq))), rfl, _, _, rfl, _, _, rfl, rfl, rfl, ?_⟩
      unfold tYes
      refine iteT ?_
      refine ⟨_, rfl, _, rfl, (by show 2 ≤ sizeLine; decide), fun t ht => ?_⟩
      have s2 : Same H1 (upd H1 t (.tup [vI q.2.2, vI q.2.1])) := same_upd ht
      have tD : t ≠ D := fun z => by
        rw [z, hM] at ht
        cases ht
      have lM : M.length = i := by
        have := congrArg List.length eM
        rw [List.length_map, List.length_map, List.length_take] at this
        omega
      refine ⟨_, s2 _ _ hM, ?_, M ++ [(t, q.2.2, q.2.1)], ?_, fun m hm => ?_, ?_, same_mut (s1.trans s2) hD⟩
      · rw [List.length_map]
        exact Nat.lt_of_le_of_lt (show M.length ≤ 56 by omega) (by decide)
      · rw [upd_same, List.map_append]
        rfl
      · rcases List.mem_append.mp hm with hm | hm
        · have g := s2 _ _ (tM m hm)
          rw [upd_ne (ne_of g (s2 _ _ hM) (by intro z; cases z))]
          exact g
        · rw [List.mem_singleton.mp hm, upd_ne tD, upd_same]
      · rw [et, List.map_append, List.map_append, eM]
        rfl
    · rintro H1 ⟨M, hM, tM, eM, s1⟩
      rw [List.length_map, List.take_length] at eM
      have mem : ∀ a b, (a, b) ∈ M.map (·.2) ↔ (b, a) ∈ E := fun a b => by
        rw [eM, ← eE, List.mem_map, List.mem_map]
        constructor
        · rintro ⟨q, hq, e⟩
          exact ⟨q, hq, by injection e with e1 e2; exact Prod.ext e2 e1⟩
        · rintro ⟨q, hq, e⟩
          exact ⟨q, hq, by rw [e]⟩
      have W : WaysOk n M := by
        refine ⟨?_, fun q hq => ?_, ?_⟩
        · have e2 : M.map (·.2) = E.map (fun e => (e.2, e.1)) := by
            rw [eM, ← eE, List.map_map]
            rfl
          rw [e2]
          refine nodup_inj B.nd fun a _ b _ e => ?_
          injection e with e1 e2
          exact Prod.ext e2 e1
        · have := B.on _ ((mem q.2.1 q.2.2).1 (List.mem_map.mpr ⟨q, hq, rfl⟩))
          exact ⟨this.2.1, this.1, fun z => this.2.2 z.symm⟩
        · have := congrArg List.length eM
          rw [List.length_map, List.length_map] at this
          omega
      intro y dy hy hdy ne
      exact init_at (hc.imp fun _ z => s1 _ _ z) hM tM W B.lo B.hi hy hdy ne fun H' E' B' mE sE s2 => ⟨rfl, h H' y E' B' (fun a b => (mE (a, b)).trans (mem a b)) sE (s1.trans s2)⟩
end
end RL
namespace RL
open PySem PySem.Spec PyProof.Rows L2 RLM
section
variable {P : Program} {w : World} {K : PySem.W.Frag} {mg : Str → Option Value} {base : Heap}
theorem sc_Board_renamed : FnScope ["self", "order", "one", "other"] ["self", "order"] (defScope s_Board_renamed) := ⟨rfl, rfl, rfl, by decide +kernel, rfl, by decide +kernel, by decide +kernel⟩
theorem ok_renamed (T : Tx K mg) : Has P w K mg base (mB K "renamed") 6 ["self", "order"] (spRenamed K) := by
  obtain ⟨⟨fd_Board, F_Board, b_Board⟩, kp_Board⟩ := ok_init (P := P) (w := w) (base := base) T
  obtain ⟨fd, F⟩ := T.d_Board_renamed
  refine ⟨⟨fd, F.ok sc_Board_renamed (fun vs H Q E h => ?_) (fun cdv A outer s H vs Q E hr h => ?_), F.bindsN fun _ _ _ _ _ _ us hl => match us, hl with | [_, _], _ => rfl⟩, F.kp⟩
  · obtain ⟨c, x, t, n, E, os, rfl, _⟩ := h
    rfl
  · obtain ⟨c, x, t, n, E, os, rfl, B, hc, ht, pm, h⟩ := h
    have hr_Board : Room 5 _ := hr.mono (by decide)
    refine ⟨_, PSs.nox (pss_cons (ps_if (pt_cmpR (neD (K := K) hr.units) (pe_callB (sortTK (K := K)) (by rfl) T.free_sorted (by decide +kernel) (pa_cons (pv 1) pa_nil)) (pe_listRg rfl (by rfl) T.free_list (prg_1 (by rfl) T.free_range (fldK (K := K) (pv 0) rfl))) (nomark _)) (pss_one ps_never) pss_nil)
      (pss_one (ps_ret (pe_make T.mkB F_Board hr_Board rfl T.glo_Board b_Board .nil pass0 (pa_cons (fldK (K := K) (pv 0) rfl) (pa_cons (pe_lc (own := [("one", 2), ("other", 3)]) (tt := tYes) rfl sc_Board_renamed.nd (piL (K := K) (fldK (K := K) (pv 0) rfl)) (blkOk_by (by kernel_rfl)) (fun _ _ _ _ _ => (pgT (K := K) (n := 2) rfl (pgs_cons (pg_name (i := 2) sc_Board_renamed.nd rfl (Or.inl rfl)) (pgs_cons (pg_name (i := 3) sc_Board_renamed.nd rfl (Or.inl rfl)) pgs_nil)))) (fun _ _ _ _ _ => pts_nil) (fun _ _ _ _ _ => (pe_tup (pa_cons (pe_ix (ixT (K := K)) (pv 1) (pv 2) (fun _ _ => rfl)) (pa_cons (pe_ix (ixT (K := K)) (pv 1) (pv 3) (fun _ _ => rfl)) pa_nil))))) pa_nil)))))), ?_⟩
    obtain ⟨dx, lp, ll, lf, L, ls, U, hx, PL, eE, _⟩ := B.ex
    have n8 := B.hi
    have lo : os.length = n := by rw [pm.length_eq, List.length_range]
    refine ⟨_, rfl, t, os.map nI, rfl, by rw [← vI_map]; exact ht, by rw [List.length_map]; omega, fun ms p1 pm1 so hp1 => ?_⟩
    have s1 : Same H (upd H p1 (.lst (ms.map V.int))) := same_upd hp1
    refine ⟨_, rfl, x, _, dx, _, _, rfl, s1 _ _ hx, T.cl, T.n_many, bf_many _ _ _ _, (n : Int), rfl, RgOk.of_le (by decide) (by omega) (by decide) (by omega), fun p2 hp2 => ?_⟩
    have s2 := same_upd (o := HO.lst (rgV 0 (n : Int))) hp2
    have em := sorted_order pm pm1 so
    have er : rgV 0 (n : Int) = ms.map V.int := by rw [rg_range, vI_map, ← em]
    refine ⟨.list (ms.map .int), .list (ms.map .int), .lst (SqL.of (s2 _ _ upd_same)) (dp_ints ms), .lst (SqL.of (by rw [upd_same, er])) (dp_ints ms), shaped_ints ms, shaped_ints ms, _, rfl, ?_⟩
    rw [SeqAt.eqv_refl _ (SeqAt.canLay_of_shaped (shaped_ints ms))]
    refine iteF ?_
    have s12 := s1.trans s2
    generalize upd (upd H p1 (.lst (ms.map V.int))) p2 (.lst (rgV 0 (n : Int))) = Ha at s12
    refine ⟨_, rfl, x, _, dx, _, _, rfl, s12 _ _ hx, T.cl, T.n_many, bf_many _ _ _ _, _, rfl, x, _, dx, _, _, rfl, s12 _ _ hx, T.cl, T.n_pairs, bf_pairs _ _ _ _, lp, rfl, ⟨_, SqL.of (s12 _ _ PL.at_)⟩, fun D hD => ?_⟩
    have lE : L.length ≤ 56 := by
      have := on_few B.hi B.on B.nd
      rw [← eE, List.length_map] at this
      exact this
    refine lc_list (K := K) (a := lp) (xs := L.map fun q => V.ref q.1) (fun i H1 => ∃ M : List (Addr × Nat × Nat), H1 D = some (.lst (M.map fun q => V.ref q.1)) ∧ (∀ q ∈ M, H1 q.1 = some (.tup [vI q.2.1, vI q.2.2])) ∧ M.map (·.2) = (L.take i).map (fun q => (os.getD q.2.1 0, os.getD q.2.2 0)) ∧ Same Ha H1)
      ⟨[], upd_same, fun q hq => (by cases hq), by simp, same_upd hD⟩ (fun i H1 _ ⟨_, _, _, _, s1⟩ => SqL.of (s1 _ _ (s12 _ _ PL.at_))) ?_ ?_
    · rintro i y H1 hy ⟨M, hM, tM, eM, s1⟩
      obtain ⟨q, hq, rfl⟩ : ∃ q, L[i]? = some q ∧ V.ref q.1 = y := by
        rw [List.getElem?_map] at hy
        cases e : L[i]? with
        | none => rw [e] at hy; cases hy
        | some q => rw [e] at hy; exact ⟨q, rfl, Option.some.inj hy⟩
      have mq : q ∈ L := List.mem_of_getElem? hq
      have et : L.take (i + 1) = L.take i ++ [q] := by
        rw [List.take_add_one, hq]
        rfl
      have il : i < L.length := (List.getElem?_eq_some_iff.mp hq).1
      have oq := B.on q.2 (by rw [← eE]; exact List.mem_map.mpr ⟨q, mq, rfl⟩)
      have st := sqt_same s1 (sqt_same s12 ht)
      refine ⟨q.1, _, rfl, SqT.of (s1 _ _ (s12 _ _ (PL.tup q mq))), rfl, _, _, rfl, _, _, rfl, rfl, rfl, ?_⟩
      unfold tYes
      refine iteT ?_
      refine ⟨_, rfl, _, rfl, t, _, _, _, rfl, rfl, st, atI_nat (get_map (os_get pm oq.1).1), _, rfl, _, rfl, t, _, _, _, rfl, rfl, st, atI_nat (get_map (os_get pm oq.2.1).1), (by show 2 ≤ sizeLine; decide), fun u hu => ?_⟩
      have s2 : Same H1 (upd H1 u (.tup [vI (os.getD q.2.1 0), vI (os.getD q.2.2 0)])) := same_upd hu
      have tD : u ≠ D := fun z => by
        rw [z, hM] at hu
        cases hu
      have lM : M.length = i := by
        have := congrArg List.length eM
        rw [List.length_map, List.length_map, List.length_take] at this
        omega
      refine ⟨_, s2 _ _ hM, ?_, M ++ [(u, os.getD q.2.1 0, os.getD q.2.2 0)], ?_, fun m hm => ?_, ?_, same_mut (s1.trans s2) hD⟩
      · rw [List.length_map]
        exact Nat.lt_of_le_of_lt (show M.length ≤ 56 by omega) (by decide)
      · rw [upd_same, List.map_append]
        rfl
      · rcases List.mem_append.mp hm with hm | hm
        · have g := s2 _ _ (tM m hm)
          rw [upd_ne (ne_of g (s2 _ _ hM) (by intro z; cases z))]
          exact g
        · rw [List.mem_singleton.mp hm, upd_ne tD, upd_same]
      · rw [et, List.map_append, List.map_append, eM]
        rfl
    · rintro H1 ⟨M, hM, tM, eM, s1⟩
      rw [List.length_map, List.take_length] at eM
      have e2 : M.map (·.2) = E.map (fun e => (os.getD e.1 0, os.getD e.2 0)) := by
        rw [eM, ← eE, List.map_map]
        rfl
      have mem : ∀ e, e ∈ M.map (·.2) ↔ ∃ p, p ∈ E ∧ e = (os.getD p.1 0, os.getD p.2 0) := fun e => by
        rw [e2, List.mem_map]
        exact exists_congr fun p => and_congr_right fun _ => eq_comm
      have W : WaysOk n M := by
        refine ⟨?_, fun q hq => ?_, ?_⟩
        · rw [e2]
          refine nodup_inj B.nd fun a ha b hb e => ?_
          injection e with e1 e3
          have oa := B.on a ha
          have ob := B.on b hb
          exact Prod.ext (os_inj pm oa.1 ob.1 e1) (os_inj pm oa.2.1 ob.2.1 e3)
        · obtain ⟨p, hp, e⟩ := (mem q.2).1 (List.mem_map.mpr ⟨q, hq, rfl⟩)
          have op := B.on p hp
          rw [e]
          exact ⟨(os_get pm op.1).2, (os_get pm op.2.1).2, fun z => op.2.2 (os_inj pm op.1 op.2.1 z)⟩
        · have := congrArg List.length eM
          rw [List.length_map, List.length_map] at this
          omega
      intro y dy hy hdy ne
      exact init_at (hc.imp fun _ z => s1 _ _ (s12 _ _ z)) hM tM W B.lo B.hi hy hdy ne fun H' E' B' mE sE s2 => ⟨rfl, h H' y E' B' (fun e => (mE e).trans (mem e)) sE ((s12.trans s1).trans s2)⟩
end
end RL
/-! What the law asks, as mathematics. -/
namespace RL
open PySem PySem.Spec PyProof.Rows L2 RLM
/-- [e(b) for b in a tuple], e a truth value -/
theorem bcomp {K : PySem.W.Frag} {a D : Addr} {k : Nat} {H : Hp} {σ : L2.St} {vs : List Nat} {te : TE} {L : List Nat} {f : Nat → Bool} {Qd : Hp → Prop} (ha : H a = some (.tup (L.map vI))) (hD : H D = none) (len : L.length ≤ 8)
    (hw : ∀ x : V, wipe ((wipe σ vs).set k (some x)) vs = wipe σ vs)
    (hte : ∀ b ∈ L, ∀ H1, Same H H1 → ∀ R : VK, (∀ H2, Same H1 H2 → R (.bl (f b)) H2) → te ((wipe σ vs).set k (some (vI b))) H1 R)
    (hd : ∀ H1, H1 D = some (.lst ((L.map f).map V.bl)) → Same H H1 → Qd H1) :
    ∃ W : Nat → Nat → Hp → Prop, (∃ m, W 0 m (upd H D (.lst []))) ∧ ∀ i m H, W i m H →
      ((Itt K a).stop i H ∧ Qd H) ∨ ((Itt K a).go i H ∧ ∃ Nx : Hp → Prop, (∀ H', Nx H' → ∃ m', m' < m ∧ W (i + 1) m' H') ∧ ∀ x H', (Itt K a).yld i H x H' → gName k x (wipe σ vs) H' fun σ2 H2 => wipe σ2 vs = wipe σ vs ∧ tYes σ2 H2 fun b H3 =>
        if b = true then te σ2 H3 fun y H4 => ∃ acc, H4 D = some (.lst acc) ∧ acc.length < sizeLine ∧ Nx (upd H4 D (.lst (acc ++ [y]))) else Nx H3) := by
  refine lc_tup (K := K) (a := a) (xs := L.map vI) (fun i H1 => H1 D = some (.lst (((L.take i).map f).map V.bl)) ∧ Same H H1) ⟨upd_same, same_upd hD⟩ (fun i H1 _ ⟨_, s1⟩ => SqT.of (s1 _ _ ha)) ?_ ?_
  · rintro i x H1 hx ⟨h1, s1⟩
    obtain ⟨b, hb, rfl⟩ : ∃ b, L[i]? = some b ∧ vI b = x := by
      rw [List.getElem?_map] at hx
      cases e : L[i]? with
      | none => rw [e] at hx; cases hx
      | some b => rw [e] at hx; exact ⟨b, rfl, Option.some.inj hx⟩
    refine ⟨hw _, ?_⟩
    unfold tYes
    refine iteT ?_
    refine hte b (List.mem_of_getElem? hb) H1 s1 _ fun H2 s2 => ?_
    refine ⟨_, s2 _ _ h1, ?_, ?_, same_mut (s1.trans s2) hD⟩
    · rw [List.length_map, List.length_map, List.length_take]
      exact Nat.lt_of_le_of_lt (show min i L.length ≤ 8 by omega) (by decide)
    · rw [upd_same, List.take_add_one, hb, List.map_append, List.map_append]
      rfl
  · rintro H1 ⟨h1, s1⟩
    rw [List.length_map, List.take_length] at h1
    exact hd H1 h1 s1
theorem any_map {L : List Nat} {f : Nat → Bool} : (L.map f).any id = true ↔ ∃ b, b ∈ L ∧ f b = true := by
  rw [List.any_map, List.any_eq_true]
  rfl
theorem all_map {L : List Nat} {f : Nat → Bool} (h : ∀ b, b ∈ L → f b = true) : (L.map f).all id = true := by
  rw [List.all_map]
  exact List.all_eq_true.mpr h
theorem bool_eq {a b : Bool} (h : a = true ↔ b = true) : a = b := by
  cases a <;> cases b <;> simp_all
section
variable {n : Nat} {E : List (Nat × Nat)} {ps : List Nat} {p q : Nat → Prop}
/-- a lot meets what is behind another one just where what is ahead of it meets the other -/
theorem meets : ((lotP n (stepP n E ps p)).map fun b => decide (b ∈ lotP n q)).any id = ((lotP n p).map fun b => decide (b ∈ lotP n (beforeP n E ps q))).any id := by
  refine bool_eq ?_
  rw [any_map, any_map]
  constructor
  · rintro ⟨b, h1, h2⟩
    obtain ⟨h1, a, a1, a2, a3⟩ := mem_lotP.mp h1
    have h2 := mem_lotP.mp (of_decide_eq_true h2)
    exact ⟨a, mem_lotP.mpr ⟨a1, a2⟩, decide_eq_true (mem_lotP.mpr ⟨a1, b, h1, h2.2, a3⟩)⟩
  · rintro ⟨a, h1, h2⟩
    have h1 := mem_lotP.mp h1
    obtain ⟨_, b, b1, b2, b3⟩ := mem_lotP.mp (of_decide_eq_true h2)
    exact ⟨b, mem_lotP.mpr ⟨b1, a, h1.1, h1.2, b3⟩, decide_eq_true (mem_lotP.mpr ⟨b1, b2⟩)⟩
theorem stay_step : ((lotP n p).map fun b => decide (b ∈ lotP n (stepP n E ps p))).all id = true := all_map fun b hb => by
  have h := mem_lotP.mp hb
  exact decide_eq_true (mem_lotP.mpr ⟨h.1, b, h.1, h.2, near_refl (Int.natCast_nonneg _)⟩)
theorem stay_before : ((lotP n p).map fun b => decide (b ∈ lotP n (beforeP n E ps p))).all id = true := all_map fun b hb => by
  have h := mem_lotP.mp hb
  exact decide_eq_true (mem_lotP.mpr ⟨h.1, b, h.1, h.2, near_refl (Int.natCast_nonneg _)⟩)
theorem step_or : lotP n (stepP n E ps fun b => p b ∨ q b) = lotP n fun b => stepP n E ps p b ∨ stepP n E ps q b := lotP_congr fun b _ => by
  unfold stepP
  constructor
  · rintro ⟨a, h1, h2 | h2, h3⟩
    · exact .inl ⟨a, h1, h2, h3⟩
    · exact .inr ⟨a, h1, h2, h3⟩
  · rintro (⟨a, h1, h2, h3⟩ | ⟨a, h1, h2, h3⟩)
    · exact ⟨a, h1, .inl h2, h3⟩
    · exact ⟨a, h1, .inr h2, h3⟩
theorem before_or : lotP n (beforeP n E ps fun b => p b ∨ q b) = lotP n fun b => beforeP n E ps p b ∨ beforeP n E ps q b := lotP_congr fun b _ => by
  unfold beforeP
  constructor
  · rintro ⟨a, h1, h2 | h2, h3⟩
    · exact .inl ⟨a, h1, h2, h3⟩
    · exact .inr ⟨a, h1, h2, h3⟩
  · rintro (⟨a, h1, h2, h3⟩ | ⟨a, h1, h2, h3⟩)
    · exact ⟨a, h1, .inl h2, h3⟩
    · exact ⟨a, h1, .inr h2, h3⟩
theorem longer_step {qs : List Nat} (h : ∀ a, a < n → ps.getD a 0 ≤ qs.getD a 0) : ((lotP n (stepP n E ps p)).map fun b => decide (b ∈ lotP n (stepP n E qs p))).all id = true := all_map fun b hb => by
  obtain ⟨h1, a, a1, a2, a3⟩ := mem_lotP.mp hb
  exact decide_eq_true (mem_lotP.mpr ⟨h1, a, a1, a2, near_mono (by have := h a a1; omega) a3⟩)
/-- a lot, its places called otherwise -/
def namedP (n : Nat) (os : List Nat) (p : Nat → Prop) (b : Nat) : Prop := ∃ a, a < n ∧ p a ∧ b = os.getD a 0
theorem renamed_step {os qs : List Nat} {E' : List (Nat × Nat)} (pm : os.Perm (List.range n)) (hE : On n E) (mE : ∀ e, e ∈ E' ↔ ∃ p, p ∈ E ∧ e = (os.getD p.1 0, os.getD p.2 0)) (hq : ∀ a, a < n → qs.getD (os.getD a 0) 0 = ps.getD a 0) :
    lotP n (stepP n E' qs (namedP n os p)) = lotP n (namedP n os (stepP n E ps p)) := lotP_congr fun b hb => by
  have back : ∀ k a b', Wk E' k a b' → ∀ a0, a0 < n → a = os.getD a0 0 → ∃ b0, b0 < n ∧ b' = os.getD b0 0 ∧ Wk E k a0 b0 := by
    intro k a b' w
    induction w with
    | z a => exact fun a0 h0 e => ⟨a0, h0, e, .z _⟩
    | s w e ih =>
      intro a0 h0 ea
      obtain ⟨b0, h1, h2, h3⟩ := ih a0 h0 ea
      obtain ⟨r, hr, er⟩ := (mE _).1 e
      injection er with e1 e2
      have on := hE r hr
      have : b0 = r.1 := os_inj pm h1 on.1 (h2.symm.trans e1)
      exact ⟨r.2, on.2.1, e2, .s h3 (by rw [this]; exact hr)⟩
  have forth : ∀ k a b', Wk E k a b' → Wk E' k (os.getD a 0) (os.getD b' 0) := fun k a b' w => w.map (fun z => os.getD z 0) fun x y h => (mE _).2 ⟨(x, y), h, rfl⟩
  constructor
  · rintro ⟨a', _, ⟨a, a1, a2, rfl⟩, k, hk, w⟩
    obtain ⟨b0, h1, h2, h3⟩ := back k _ _ w a a1 rfl
    refine ⟨b0, h1, ⟨a, a1, a2, k, ?_, h3⟩, h2⟩
    rw [hq a a1] at hk
    exact hk
  · rintro ⟨b0, h1, ⟨a, a1, a2, k, hk, w⟩, rfl⟩
    refine ⟨os.getD a 0, (os_get pm a1).2, ⟨a, a1, a2, rfl⟩, k, ?_, forth k a b0 w⟩
    rw [hq a a1]
    exact hk
theorem turned_step {k : Nat} {E' : List (Nat × Nat)} (mE : ∀ a b, (a, b) ∈ E' ↔ (b, a) ∈ E) : lotP n (stepP n E' (List.replicate n k) p) = lotP n (beforeP n E (List.replicate n k) p) := lotP_congr fun b hb => by
  have g : ∀ a, a < n → (List.replicate n k).getD a 0 = k := fun a ha => by
    rw [List.getD_eq_getElem?_getD, List.getElem?_replicate, if_pos ha]
    rfl
  unfold stepP beforeP
  constructor
  · rintro ⟨a, h1, h2, h3⟩
    refine ⟨a, h1, h2, ?_⟩
    rw [g a h1] at h3
    rw [g b hb]
    exact (near_turn mE).1 h3
  · rintro ⟨a, h1, h2, h3⟩
    refine ⟨a, h1, h2, ?_⟩
    rw [g b hb] at h3
    rw [g a h1]
    exact (near_turn mE).2 h3
end
/-- the places of a lot called otherwise, sorted -/
theorem named_sorted {n : Nat} {os : List Nat} {p : Nat → Prop} {ms : List Int} (pm : os.Perm (List.range n)) (h : ms.Perm ((lotP n p).map fun a => nI (os.getD a 0))) (s : ms.Pairwise (· ≤ ·)) : ms.map V.int = (lotP n (namedP n os p)).map vI := by
  have nd : ms.Nodup := h.nodup_iff.mpr (nodup_inj (List.Pairwise.imp (fun z => Nat.ne_of_lt z) (lotP_sorted n p)) fun x hx y hy e => by
    unfold nI at e
    exact os_inj pm (mem_lotP.mp hx).1 (mem_lotP.mp hy).1 (by omega))
  have lt : ms.Pairwise (· < ·) := (s.and nd).imp fun {a b} ⟨z1, z2⟩ => by
    have z2 : a ≠ b := z2
    omega
  refine rise_lot lt fun k => ?_
  rw [h.mem_iff, List.mem_map]
  constructor
  · rintro ⟨a, ha, rfl⟩
    have := mem_lotP.mp ha
    exact ⟨_, rfl, (os_get pm this.1).2, a, this.1, this.2, rfl⟩
  · rintro ⟨b, rfl, hb, a, a1, a2, rfl⟩
    exact ⟨a, mem_lotP.mpr ⟨a1, a2⟩, rfl⟩
theorem eqv_lots (xs : List Nat) : PyData.eqv (.tuple ((xs.map nI).map PyData.int)) (.tuple ((xs.map nI).map PyData.int)) = true := eqv_tup _
theorem dp_tup {K : PySem.W.Frag} {H : Hp} {t : Addr} {xs : List Nat} (h : H t = some (.tup (xs.map vI))) : Dp K H (.ref t) (.tuple ((xs.map nI).map PyData.int)) := .tup (SqT.of (by rw [← vI_map]; exact h)) (dp_ints _)
end RL
/-! A tuple whose object is known to have no dict of its own: made by tuple(list), asked for index. -/
namespace RL
open PySem PySem.Spec PyProof.Rows L2
section
variable {X : Cx} {K : PySem.W.Frag}
def rTupFz (K : PySem.W.Frag) : List V → Hp → VK → Prop := fun xs H Q => ∃ p ys, xs = [.ref p] ∧ SqL K H p ys ∧ ∀ (l : Addr) (o : Obj), H l = none → o.dict = none → Q (.ref l) (upd H l (.frz o (.tup ys)))
theorem tupFz (h : X.K = K := by rfl) : CallR X (.type "tuple") (rTupFz K) := by
  subst h
  intro pins s σ H xs us Q I r h
  obtain ⟨p, ys, rfl, hq, q⟩ := h
  rw [Vals.ref1 r]
  obtain ⟨its, rv, pl, hz⟩ := I.list hq
  have hlen := rv.length
  refine call_tuple_list pl.isList (fun h1 kp => ?_) (by rw [List.size_toArray]; omega)
  have I1 : L2.Inv X pins σ H { s with heap := h1 } := I.kept (t' := s.toks) kp
  have fr : H h1.objs.size = none := I1.hok.fresh (Nat.le_refl _)
  refine ⟨.ref h1.objs.size, upd H h1.objs.size (.frz { cls := .type "tuple", data := .seq its.toArray } (.tup ys)), I1.laid (t' := s.toks) (fun b o e => Heap.get?_push_of_some _ e) (Nat.le_refl _) ?_, rfl, q _ _ fr rfl⟩
  exact ⟨Heap.get?_push_size _ rfl, hz, its, rv, IsTup.new _ _⟩
def tTupIx (K : PySem.W.Frag) (to : TE) (t : TA) : TE := fun σ H Q => to σ H fun x H1 => (∃ a o xs, x = V.ref a ∧ H1 a = some (.frz o (.tup xs)) ∧ o.dict = none) ∧ t σ H1 fun xs H2 => rTupIx K x xs H2 Q
theorem pe_tupIx {o e : Expr} {es : List Expr} {to : TE} {t : TA} {apos cpos : Pos} (ho : PE X o to) (ha : PA X (e :: es) t)
    (hbase : attributeBase o "index" X.env (eval o X.env) = eval o X.env := by rfl)
    (hfew : ((backTo cpos (starEach (e :: es) X.env)).all (fun x => !x.1) && (backToKw cpos (keywordEach [] X.env)).all (fun x => x.1.isSome) && decide ((e :: es).length + ([] : List Keyword).length + (if ([] : List Keyword).isEmpty then 0 else 1) < 30)) = true := by rfl)
    (hline : (apos.endLine == cpos.line) = true := by rfl) (hs : starEach (e :: es) X.env = (false, eval e X.env) :: starEach es X.env := by rfl) (hplain : (backTo cpos (starEach es X.env)).any (·.1) = false := by rfl) (hK : X.K = K := by rfl) :
    PE X (.Call (.Attribute o "index" apos) (e :: es) [] cpos) (tTupIx K to t) := by
  subst hK
  refine ⟨fun pins s σ H Q I h => ?_⟩
  refine wpAny_Call_method_late hbase hfew hline rfl (thn (ho.run pins s σ H _ I h) fun v s1 ⟨x, H1, I1, r1, ty, q1⟩ => ?_)
  obtain ⟨a, ob, ys, rfl, hka, nd⟩ := ty
  cases r1
  obtain ⟨hob, _, its, rv, ⟨o2, ho2, hc2, _⟩⟩ := (show ObjOk X.prog X.w H1 s1.heap a (.frz ob (.tup ys)) from I1.hok a _ hka)
  refine ⟨"tuple", "tuple.index", F.plainAttrs_tuple, F.slot_tuple_index, F.type_tuple_index, ⟨o2, ho2, hc2⟩, fun b z => by injection z with z; subst z; exact ⟨ob, hob, nd⟩, ?_⟩
  have hA := ha.run cpos pins s1 σ H1 _ I1 q1
  rw [hs] at hA ⊢
  refine Calls.callWith_builtin (by show (false || (backTo cpos (starEach es X.env)).any (·.1)) = false; rw [hplain]; rfl) (Calls.evalArgs_plain ?_)
  exact thn hA fun us s2 ⟨vs, H2, I2, r2, q2⟩ => mt_tupIx pins s2 σ H2 (.ref a) vs (.ref a) us Q I2 rfl r2 q2
end
end RL
namespace RL
open PySem PySem.Spec PyProof.Rows L2 RLM
section
variable {P : Program} {w : World} {K : PySem.W.Frag} {mg : Str → Option Value} {base : Heap}
def spLaw (K : PySem.W.Frag) : Sp := fun vs H Q _ => ∃ (a : Addr) (ns : List Int), vs = [.ref a] ∧ SqL K H a (ns.map V.int) ∧ ns.length ≤ 63 ∧ ∀ H', Q (.bl true) H'
/-- b in a tuple's lot -/
theorem yesT {σ : L2.St} {H : Hp} {A B : Hp → Prop} (h : A H) : tYes σ H (fun b H3 => if b = true then A H3 else B H3) := by
  unfold tYes
  exact iteT h
theorem te_in {j u : Nat} {ut : Addr} {H0 : Hp} {M : List Nat} (hu : H0 ut = some (.tup (M.map vI))) {σ : L2.St} {b : Nat} (h1 : σ[j]? = some (some (vI b))) (h2 : σ[u]? = some (some (.ref ut))) {H1 : Hp} (s : Same H0 H1) {R : VK} (hR : ∀ H2, Same H1 H2 → R (.bl (decide (b ∈ M))) H2) :
    tOp (rIn K false) (tVar j) (tVar u) σ H1 R := by
  refine ⟨_, h1, _, h2, ut, _, rfl, .inr (SqT.of (s _ _ hu)), rfl, flat_vI _, ?_⟩
  show R (.bl (inV (vI b) (M.map vI))) H1
  rw [in_lot]
  exact hR H1 (Same.refl H1)
theorem neT {H : Hp} {t u : Addr} {xs : List Nat} {Q : VK} (h1 : H t = some (.tup (xs.map vI))) (h2 : H u = some (.tup (xs.map vI))) (hQ : Q (.bl false) H) : rNeD K (.ref t) (.ref u) H Q := by
  refine ⟨_, _, dp_tup h1, dp_tup h2, shaped_tup _, shaped_tup _, ?_⟩
  rw [eqv_lots]
  exact hQ
theorem sqF {H : Hp} {t : Addr} {o : Obj} {xs : List V} (h : H t = some (.frz o (.tup xs))) : SqT K H t xs := .inl (.inr ⟨o, h⟩)
/-- what stands behind the draws of a turn -/
structure GA (K : PySem.W.Frag) (b c : Addr) (H : Hp) (n : Nat) (x : Addr) (E : List (Nat × Nat)) (tp t1 t3 : Addr) (ps : List Nat) (p1 : Nat → Prop) : Prop where
  n1 : 1 ≤ n
  n8 : n ≤ 8
  bx : Box b c H
  bd : BoardAt K c H x n E
  po : PaceOk n ps
  hp : H tp = some (.tup (ps.map vI))
  h1 : H t1 = some (.tup ((lotP n p1).map vI))
  h3 : H t3 = some (.tup ((lotP n (stepP n E ps p1)).map vI))
theorem GA.same {b c : Addr} {H H' : Hp} {n : Nat} {x : Addr} {E : List (Nat × Nat)} {tp t1 t3 : Addr} {ps : List Nat} {p1 : Nat → Prop} (s : Same H H') (g : GA K b c H n x E tp t1 t3 ps p1) : GA K b c H' n x E tp t1 t3 ps p1 :=
  ⟨g.n1, g.n8, g.bx.same s, g.bd.same s, g.po, s _ _ g.hp, s _ _ g.h1, s _ _ g.h3⟩
theorem GA.keep {b c : Addr} {H H' : Hp} {n : Nat} {x : Addr} {E : List (Nat × Nat)} {tp t1 t3 : Addr} {ps : List Nat} {p1 : Nat → Prop} (k : Kc c H H') (B : Box b c H') (g : GA K b c H n x E tp t1 t3 ps p1) : GA K b c H' n x E tp t1 t3 ps p1 :=
  ⟨g.n1, g.n8, B, g.bd.keep k g.bx.lst, g.po, k.tup g.bx.lst g.hp, k.tup g.bx.lst g.h1, k.tup g.bx.lst g.h3⟩
theorem sc_law : FnScope ["_law_script", "_law_box_here", "_law_turn", "_law_board_here", "_law_many", "_law_here", "_law_pace_here", "_law_one", "_law_other", "_law_later", "_law_early", "_law_both", "_law_longer", "_law_order", "_law_called", "_law_new_pace", "_law_named", "_law_flat", "_law_place", "_law_most", "_law_lot_here"] ["_law_script"] (defScope s_law) := ⟨rfl, rfl, rfl, by decide +kernel, rfl, by decide +kernel, by decide +kernel⟩
theorem ok_law (T : Tx K mg) {fd : FuncData} (F : FnP K "law" "law" s_law [] (He.ga K "law") fd) : FnOk P w K mg base CX0 7 (He.ga K "law") fd ["_law_script"] (spLaw K) := by
  obtain ⟨⟨fd_law_box, F_law_box, b_law_box⟩, kp_law_box⟩ := ok_box (P := P) (w := w) (base := base) T
  obtain ⟨⟨fd_law_pick, F_law_pick, b_law_pick⟩, kp_law_pick⟩ := ok_pick (P := P) (w := w) (base := base) T
  obtain ⟨⟨fd_law_board, F_law_board, b_law_board⟩, kp_law_board⟩ := ok_board (P := P) (w := w) (base := base) T
  obtain ⟨⟨fd_law_made, F_law_made, b_law_made⟩, kp_law_made⟩ := ok_made (P := P) (w := w) (base := base) T
  obtain ⟨⟨fd_law_pace, F_law_pace, b_law_pace⟩, kp_law_pace⟩ := ok_pace (P := P) (w := w) (base := base) T
  obtain ⟨⟨fd_law_lot, F_law_lot, b_law_lot⟩, kp_law_lot⟩ := ok_lot (P := P) (w := w) (base := base) T
  obtain ⟨⟨fd_law_joined, F_law_joined, b_law_joined⟩, kp_law_joined⟩ := ok_joined (P := P) (w := w) (base := base) T
  obtain ⟨⟨fd_law_mixed, F_law_mixed, b_law_mixed⟩, kp_law_mixed⟩ := ok_mixed (P := P) (w := w) (base := base) T
  obtain ⟨⟨fd_step, F_step, b_step⟩, kp_step⟩ := ok_step (P := P) (w := w) (base := base) T
  obtain ⟨⟨fd_before, F_before, b_before⟩, kp_before⟩ := ok_before (P := P) (w := w) (base := base) T
  obtain ⟨⟨fd_even, F_even, b_even⟩, kp_even⟩ := ok_even (P := P) (w := w) (base := base) T
  obtain ⟨⟨fd_renamed, F_renamed, b_renamed⟩, kp_renamed⟩ := ok_renamed (P := P) (w := w) (base := base) T
  obtain ⟨⟨fd_turned, F_turned, b_turned⟩, kp_turned⟩ := ok_turned (P := P) (w := w) (base := base) T
  refine F.ok sc_law (fun vs H Q E h => ?_) (fun cdv A outer s H vs Q E hr h => ?_)
  · obtain ⟨a, ns, rfl, _⟩ := h
    rfl
  · obtain ⟨a, ns, rfl, hS, hl, h⟩ := h
    have hr_law_box : Room 1 _ := hr.mono (by decide)
    have hr_law_pick : Room 1 _ := hr.mono (by decide)
    have hr_law_board : Room 4 _ := hr.mono (by decide)
    have hr_law_made : Room 6 _ := hr.mono (by decide)
    have hr_law_pace : Room 3 _ := hr.mono (by decide)
    have hr_law_lot : Room 2 _ := hr.mono (by decide)
    have hr_law_joined : Room 1 _ := hr.mono (by decide)
    have hr_law_mixed : Room 2 _ := hr.mono (by decide)
    have hr_step : Room 5 _ := hr.mono (by decide)
    have hr_before : Room 5 _ := hr.mono (by decide)
    have hr_even : Room 3 _ := hr.mono (by decide)
    have hr_renamed : Room 6 _ := hr.mono (by decide)
    have hr_turned : Room 6 _ := hr.mono (by decide)
    refine ⟨_, PSs.nox (pss_cons (ps_set (i := 1) sc_law.nd rfl (Or.inr rfl) (pe_call F_law_box hr_law_box rfl T.glo_law_box kp_law_box b_law_box .nil pass0 (pa_cons (pv 0) pa_nil)))
      (pss_cons (ps_for PassesOwn.never rfl (pi_range1 (by rfl) T.free_range (pa_cons pe_int pa_nil)) (pg_name (i := 2) sc_law.nd rfl (Or.inl rfl)) (pss_cons (ps_set (i := 3) sc_law.nd rfl (Or.inl rfl) (pe_call F_law_board hr_law_board rfl T.glo_law_board kp_law_board b_law_board .nil pass0 (pa_cons (pv 1) (pa_cons pe_int pa_nil))))
      (pss_cons (ps_asg (pe_tup (pa_cons (pe_ix (ixT (K := K)) (pv 3) pe_int (fun _ _ => rfl)) (pa_cons (pe_call F_law_made hr_law_made rfl T.glo_law_made kp_law_made b_law_made .nil pass0 (pa_cons (pv 3) pa_nil)) pa_nil))) (pgT (K := K) (n := 2) rfl (pgs_cons (pg_name (i := 4) sc_law.nd rfl (Or.inl rfl)) (pgs_cons (pg_name (i := 5) sc_law.nd rfl (Or.inr rfl)) pgs_nil))))
      (pss_cons (ps_asg (pe_tup (pa_cons (pe_call F_law_pace hr_law_pace rfl T.glo_law_pace kp_law_pace b_law_pace .nil pass0 (pa_cons (pv 1) (pa_cons (pv 4) pa_nil))) (pa_cons (pe_call F_law_lot hr_law_lot rfl T.glo_law_lot kp_law_lot b_law_lot .nil pass0 (pa_cons (pv 1) (pa_cons (pv 4) pa_nil))) (pa_cons (pe_call F_law_lot hr_law_lot rfl T.glo_law_lot kp_law_lot b_law_lot .nil pass0 (pa_cons (pv 1) (pa_cons (pv 4) pa_nil))) pa_nil)))) (pgT (K := K) (n := 3) rfl (pgs_cons (pg_name (i := 6) sc_law.nd rfl (Or.inr rfl)) (pgs_cons (pg_name (i := 7) sc_law.nd rfl (Or.inr rfl)) (pgs_cons (pg_name (i := 8) sc_law.nd rfl (Or.inr rfl)) pgs_nil)))))
      (C8.pss_cut (ps_asg (pe_tup (pa_cons (pe_call F_step hr_step rfl T.glo_step kp_step b_step .nil pass0 (pa_cons (pv 5) (pa_cons (pv 6) (pa_cons (pv 7) pa_nil)))) (pa_cons (pe_call F_before hr_before rfl T.glo_before kp_before b_before .nil pass0 (pa_cons (pv 5) (pa_cons (pv 6) (pa_cons (pv 8) pa_nil)))) pa_nil))) (pgT (K := K) (n := 2) rfl (pgs_cons (pg_name (i := 9) sc_law.nd rfl (Or.inr rfl)) (pgs_cons (pg_name (i := 10) sc_law.nd rfl (Or.inr rfl)) pgs_nil))))
      (pss_cons (ps_if (pt_cmpR op_ne (pe_callB (anyK (K := K)) (by rfl) T.free_any (by decide +kernel) (pa_cons (pe_lc (own := [("_law_place", 18)]) (g := (gName 18)) (tt := tYes) rfl sc_law.nd (piT (K := K) (pv 9)) (blkOk_by (by kernel_rfl)) (fun _ _ _ _ _ => (pg_name (i := 18) sc_law.nd rfl (Or.inl rfl))) (fun _ _ _ _ _ => pts_nil) (fun _ _ _ _ _ => (pe_cmpR (inSq (K := K)) (pv 18) (pv 8) (by rfl)))) pa_nil)) (pe_callB (anyK (K := K)) (by rfl) T.free_any (by decide +kernel) (pa_cons (pe_lc (own := [("_law_place", 18)]) (g := (gName 18)) (tt := tYes) rfl sc_law.nd (piT (K := K) (pv 7)) (blkOk_by (by kernel_rfl)) (fun _ _ _ _ _ => (pg_name (i := 18) sc_law.nd rfl (Or.inl rfl))) (fun _ _ _ _ _ => pts_nil) (fun _ _ _ _ _ => (pe_cmpR (inSq (K := K)) (pv 18) (pv 10) (by rfl)))) pa_nil)) (nomark _)) (pss_one (ps_ret pe_bl)) pss_nil)
      (pss_cons (ps_if (PW.pt (pw_or (pt_not (pt_val (pe_callB (allK (K := K)) (by rfl) T.free_all (by decide +kernel) (pa_cons (pe_lc (own := [("_law_place", 18)]) (g := (gName 18)) (tt := tYes) rfl sc_law.nd (piT (K := K) (pv 7)) (blkOk_by (by kernel_rfl)) (fun _ _ _ _ _ => (pg_name (i := 18) sc_law.nd rfl (Or.inl rfl))) (fun _ _ _ _ _ => pts_nil) (fun _ _ _ _ _ => (pe_cmpR (inSq (K := K)) (pv 18) (pv 9) (by rfl)))) pa_nil)))) (pw_or1 (pt_not (pt_val (pe_callB (allK (K := K)) (by rfl) T.free_all (by decide +kernel) (pa_cons (pe_lc (own := [("_law_place", 18)]) (g := (gName 18)) (tt := tYes) rfl sc_law.nd (piT (K := K) (pv 8)) (blkOk_by (by kernel_rfl)) (fun _ _ _ _ _ => (pg_name (i := 18) sc_law.nd rfl (Or.inl rfl))) (fun _ _ _ _ _ => pts_nil) (fun _ _ _ _ _ => (pe_cmpR (inSq (K := K)) (pv 18) (pv 10) (by rfl)))) pa_nil))))))) (pss_one (ps_ret pe_bl)) pss_nil)
      (pss_cons (ps_set (i := 11) sc_law.nd rfl (Or.inl rfl) (pe_call F_law_joined hr_law_joined rfl T.glo_law_joined kp_law_joined b_law_joined .nil pass0 (pa_cons (pv 7) (pa_cons (pv 8) pa_nil))))
      (pss_cons (ps_if (pt_cmpR (neD (K := K) hr.units) (pe_call F_step hr_step rfl T.glo_step kp_step b_step .nil pass0 (pa_cons (pv 5) (pa_cons (pv 6) (pa_cons (pv 11) pa_nil)))) (pe_call F_law_joined hr_law_joined rfl T.glo_law_joined kp_law_joined b_law_joined .nil pass0 (pa_cons (pv 9) (pa_cons (pe_call F_step hr_step rfl T.glo_step kp_step b_step .nil pass0 (pa_cons (pv 5) (pa_cons (pv 6) (pa_cons (pv 8) pa_nil)))) pa_nil))) (nomark _)) (pss_one (ps_ret pe_bl)) pss_nil)
      (C8.pss_cut (ps_if (pt_cmpR (neD (K := K) hr.units) (pe_call F_before hr_before rfl T.glo_before kp_before b_before .nil pass0 (pa_cons (pv 5) (pa_cons (pv 6) (pa_cons (pv 11) pa_nil)))) (pe_call F_law_joined hr_law_joined rfl T.glo_law_joined kp_law_joined b_law_joined .nil pass0 (pa_cons (pe_call F_before hr_before rfl T.glo_before kp_before b_before .nil pass0 (pa_cons (pv 5) (pa_cons (pv 6) (pa_cons (pv 7) pa_nil)))) (pa_cons (pv 10) pa_nil))) (nomark _)) (pss_one (ps_ret pe_bl)) pss_nil)
      (pss_cons (ps_set (i := 12) sc_law.nd rfl (Or.inr rfl) (pe_callTy (tupK (K := K)) (by rfl) T.free_tuple (by decide +kernel) (pa_cons (pe_lc (own := [("_law_most", 19)]) (g := (gName 19)) (tt := tYes) rfl sc_law.nd (piT (K := K) (pv 6)) (blkOk_by (by kernel_rfl)) (fun _ _ _ _ _ => (pg_name (i := 19) sc_law.nd rfl (Or.inl rfl))) (fun _ _ _ _ _ => pts_nil) (fun _ _ _ _ _ => (pe_callB (call_min2 rfl) (by rfl) T.free_min (by decide +kernel) (pa_cons pe_int (pa_cons (pe_op op_add (pv 19) (pe_call F_law_pick hr_law_pick rfl T.glo_law_pick kp_law_pick b_law_pick .nil pass0 (pa_cons (pv 1) (pa_cons pe_int pa_nil)))) pa_nil))))) pa_nil)))
      (C8.pss_cut (ps_if (pt_not (pt_val (pe_callB (allK (K := K)) (by rfl) T.free_all (by decide +kernel) (pa_cons (pe_lc (own := [("_law_place", 18)]) (g := (gName 18)) (tt := tYes) rfl sc_law.nd (piT (K := K) (pv 9)) (blkOk_by (by kernel_rfl)) (fun _ _ _ _ _ => (pg_name (i := 18) sc_law.nd rfl (Or.inl rfl))) (fun _ _ _ _ _ => pts_nil) (fun _ _ _ _ _ => (pe_cmpR (inSq (K := K)) (pv 18) (pe_call F_step hr_step rfl T.glo_step kp_step b_step .nil pass0 (pa_cons (pv 5) (pa_cons (pv 12) (pa_cons (pv 7) pa_nil)))) (by rfl)))) pa_nil)))) (pss_one (ps_ret pe_bl)) pss_nil)
      (pss_cons (ps_set (i := 13) sc_law.nd rfl (Or.inr rfl) (pe_callTy (tupFz (K := K)) (by rfl) T.free_tuple (by decide +kernel) (pa_cons (pe_call F_law_mixed hr_law_mixed rfl T.glo_law_mixed kp_law_mixed b_law_mixed .nil pass0 (pa_cons (pv 1) (pa_cons (pe_listRg rfl (by rfl) T.free_list (prg_1 (by rfl) T.free_range (pv 4))) pa_nil))) pa_nil)))
      (pss_cons (ps_set (i := 14) sc_law.nd rfl (Or.inl rfl) (pe_meth (pv 5) T.cl T.m_renamed F_renamed hr_renamed b_renamed .nil pass0 (pa_cons (pv 13) pa_nil)))
      (C8.pss_cut (ps_set (i := 15) sc_law.nd rfl (Or.inl rfl) (pe_callTy (tupK (K := K)) (by rfl) T.free_tuple (by decide +kernel) (pa_cons (pe_lc (own := [("_law_place", 18)]) (g := (gName 18)) (tt := tYes) rfl sc_law.nd (pi_range1 (by rfl) T.free_range (pa_cons (pv 4) pa_nil)) (blkOk_by (by kernel_rfl)) (fun _ _ _ _ _ => (pg_name (i := 18) sc_law.nd rfl (Or.inl rfl))) (fun _ _ _ _ _ => pts_nil) (fun _ _ _ _ _ => (pe_ix (ixT (K := K)) (pv 6) (pe_tupIx (K := K) (pv 13) (pa_cons (pv 18) pa_nil)) (fun _ _ => rfl)))) pa_nil)))
      (pss_cons (ps_setLc (i := 16) (own := [("_law_lot_here", 20)]) (g := (gName 20)) (tt := tYes) rfl sc_law.nd rfl rfl (sw_true rfl rfl rfl (by decide +kernel)) (piT (K := K) (pe_tup (pa_cons (pv 7) (pa_cons (pv 9) pa_nil)))) (blkOk_by (by kernel_rfl)) (fun _ _ _ _ _ => (pg_name (i := 20) sc_law.nd rfl (Or.inl rfl))) (fun _ _ _ _ _ => pts_nil) (fun _ _ _ _ _ => (pe_callTy (tupK (K := K)) (by rfl) T.free_tuple (by decide +kernel) (pa_cons (pe_callB (sortLK (K := K)) (by rfl) T.free_sorted (by decide +kernel) (pa_cons (pe_lc (own := [("_law_place", 18)]) (g := (gName 18)) (tt := tYes) rfl sc_law.nd (piT (K := K) (pv 20)) (blkOk_by (by kernel_rfl)) (fun _ _ _ _ _ => (pg_name (i := 18) sc_law.nd rfl (Or.inl rfl))) (fun _ _ _ _ _ => pts_nil) (fun _ _ _ _ _ => (pe_ix (ixT (K := K)) (pv 13) (pv 18) (fun _ _ => rfl)))) pa_nil)) pa_nil))))
      (C8.pss_cut (ps_if (pt_cmpR (neD (K := K) hr.units) (pe_call F_step hr_step rfl T.glo_step kp_step b_step .nil pass0 (pa_cons (pv 14) (pa_cons (pv 15) (pa_cons (pe_ix (ixL (K := K)) (pv 16) pe_int (fun _ _ => rfl)) pa_nil)))) (pe_ix (ixL (K := K)) (pv 16) pe_int (fun _ _ => rfl)) (nomark _)) (pss_one (ps_ret pe_bl)) pss_nil)
      (pss_cons (ps_set (i := 17) sc_law.nd rfl (Or.inl rfl) (pe_call F_even hr_even rfl T.glo_even kp_even b_even .nil pass0 (pa_cons (pv 5) (pa_cons (pe_call F_law_pick hr_law_pick rfl T.glo_law_pick kp_law_pick b_law_pick .nil pass0 (pa_cons (pv 1) (pa_cons pe_int pa_nil))) pa_nil))))
      (pss_one (ps_if (pt_cmpR (neD (K := K) hr.units) (pe_call F_step hr_step rfl T.glo_step kp_step b_step .nil pass0 (pa_cons (pe_meth0 (pv 5) T.cl T.m_turned F_turned hr_turned b_turned .nil pass0) (pa_cons (pv 17) (pa_cons (pv 7) pa_nil)))) (pe_call F_before hr_before rfl T.glo_before kp_before b_before .nil pass0 (pa_cons (pv 5) (pa_cons (pv 17) (pa_cons (pv 7) pa_nil)))) (nomark _)) (pss_one (ps_ret pe_bl)) pss_nil))))))))))))))))))))
      (pss_one (ps_ret pe_bl)))), ?_⟩
    refine ⟨_, rfl, a, ns, rfl, hS, hl, fun H1 b c s1 B1 => ?_⟩
    refine ⟨4, rfl, by decide, by decide, for_range (lo := 0) (n := 4) (fun i σ H2 => (∃ (v2 v3 v4 v5 v6 v7 v8 v9 v10 v11 v12 v13 v14 v15 v16 v17 : Option V), σ = [some (.ref a), some (.ref b), v2, v3, v4, v5, v6, v7, v8, v9, v10, v11, v12, v13, v14, v15, v16, v17, none, none, none]) ∧ Box b c H2)
      ⟨⟨none, none, none, none, none, none, none, none, none, none, none, none, none, none, none, none, rfl⟩, B1⟩ ?_ (fun σ H2 _ => h H2)⟩
    rintro i σ H2 hi ⟨⟨v2, v3, v4, v5, v6, v7, v8, v9, v10, v11, v12, v13, v14, v15, v16, v17, rfl⟩, B2⟩
    refine ⟨_, rfl, b, c, rfl, B2, fun H3 tb n l L n1 n8 htb PL W k3 B3 => ?_⟩
    refine ⟨_, rfl, tb, _, 0, _, rfl, rfl, SqT.of htb, rfl, _, rfl, c, tb, l, n, L, rfl, htb, PL, W, n1, n8, B3.lst, fun H4 x E Bd mE sE s4 => ?_⟩
    refine ⟨(by show 2 ≤ sizeLine; decide), fun u hu => ?_⟩
    have s5 : Same H4 (upd H4 u (.tup [vI n, .ref x])) := same_upd hu
    refine ⟨u, _, rfl, SqT.of upd_same, rfl, _, _, rfl, _, _, rfl, rfl, ?_⟩
    have B5 := (B3.same s4).same s5
    have Bd5 := Bd.same s5
    generalize upd H4 u (.tup [vI n, .ref x]) = H5 at B5 Bd5
    refine ⟨_, rfl, _, rfl, b, c, n, rfl, B5, n1, n8, fun H6 tp ps lps ps7 htp6 k6 B6 => ?_⟩
    refine ⟨_, rfl, _, rfl, b, c, n, rfl, B6, n1, n8, fun H7 t1 p1 ht17 k7 B7 => ?_⟩
    refine ⟨_, rfl, _, rfl, b, c, n, rfl, B7, n1, n8, fun H8 t2 p2 ht28 k8 B8 => ?_⟩
    refine ⟨(by show 3 ≤ sizeLine; decide), fun u2 hu2 => ?_⟩
    have s9 : Same H8 (upd H8 u2 (.tup [.ref tp, .ref t1, .ref t2])) := same_upd hu2
    refine ⟨u2, _, rfl, SqT.of upd_same, rfl, _, _, rfl, _, _, rfl, _, _, rfl, rfl, ?_⟩
    have B9 := B8.same s9
    have Bd9 := ((((Bd5.keep k6 B5.lst).keep k7 B6.lst).keep k8 B7.lst)).same s9
    have htp := s9 _ _ (k8.tup B7.lst (k7.tup B6.lst htp6))
    have ht1 := s9 _ _ (k8.tup B7.lst ht17)
    have ht2 := s9 _ _ ht28
    have PO : PaceOk n ps := ⟨lps, ps7⟩
    generalize upd H8 u2 (.tup [.ref tp, .ref t1, .ref t2]) = H9 at B9 Bd9 htp ht1 ht2
    refine ⟨fun σ H' => ∃ (t3 t4 : Addr), σ = [some (.ref a), some (.ref b), some (.int (0 + (i : Int))), some (.ref tb), some (vI n), some (.ref x), some (.ref tp), some (.ref t1), some (.ref t2), some (.ref t3), some (.ref t4), v11, v12, v13, v14, v15, v16, v17, none, none, none] ∧ GA K b c H' n x E tp t1 t3 ps p1 ∧ H' t2 = some (.tup ((lotP n p2).map vI)) ∧ H' t4 = some (.tup ((lotP n (beforeP n E ps p2)).map vI)), ?_, ?_⟩
    · refine ⟨_, rfl, _, rfl, _, rfl, c, x, tp, t1, n, E, ps, p1, rfl, Bd9, htp, PO, ht1, fun H10 t3 ht310 s10 => ?_⟩
      refine ⟨_, rfl, _, rfl, _, rfl, c, x, tp, t2, n, E, ps, p2, rfl, Bd9.same s10, s10 _ _ htp, PO, s10 _ _ ht2, fun H11 t4 ht411 s11 => ?_⟩
      refine ⟨(by show 2 ≤ sizeLine; decide), fun u3 hu3 => ?_⟩
      have s12 : Same H11 (upd H11 u3 (.tup [.ref t3, .ref t4])) := same_upd hu3
      refine ⟨u3, _, rfl, SqT.of upd_same, rfl, _, _, rfl, _, _, rfl, rfl, ?_⟩
      have s912 := (s10.trans s11).trans s12
      have BX := B9.same s912
      have BD := Bd9.same s912
      have h_p := s912 _ _ htp
      have h_1 := s912 _ _ ht1
      have h_2 := s912 _ _ ht2
      have h_3 := s12 _ _ (s11 _ _ ht310)
      have h_4 := s12 _ _ ht411
      generalize upd H11 u3 (.tup [.ref t3, .ref t4]) = H12 at BX BD h_p h_1 h_2 h_3 h_4
      exact ⟨t3, t4, rfl, ⟨n1, n8, BX, BD, PO, h_p, h_1, h_3⟩, h_2, h_4⟩
    rintro σ H12 ⟨t3, t4, rfl, ⟨_, _, BX, BD, _, h_p, h_1, h_3⟩, h_2, h_4⟩
    refine ⟨_, rfl, t3, rfl, ⟨_, SqT.of h_3⟩, fun D1 hD1 => bcomp h_3 hD1 (Nat.le_trans (lotP_len _ _) n8) (fun _ => rfl) (fun z _ H13 s13 R hR => te_in h_2 rfl rfl s13 hR) fun H13 hb1 s13 => ?_⟩
    refine ⟨D1, _, rfl, SqL.of hb1, ?_⟩
    refine ⟨_, rfl, t1, rfl, ⟨_, SqT.of (s13 _ _ h_1)⟩, fun D2 hD2 => bcomp (s13 _ _ h_1) hD2 (Nat.le_trans (lotP_len _ _) n8) (fun _ => rfl) (fun z _ H14 s14 R hR => te_in (s13 _ _ h_4) rfl rfl s14 hR) fun H14 hb2 s14 => ?_⟩
    refine ⟨D2, _, rfl, SqL.of hb2, rfl, _, rfl, iteNS (congrArg V.bl meets) ?_⟩
    have sA := s13.trans s14
    -- if not all(..) or not all(..)
    refine ⟨_, rfl, t1, rfl, ⟨_, SqT.of (sA _ _ h_1)⟩, fun D3 hD3 => bcomp (sA _ _ h_1) hD3 (Nat.le_trans (lotP_len _ _) n8) (fun _ => rfl) (fun z _ H15 s15 R hR => te_in (sA _ _ h_3) rfl rfl s15 hR) fun H15 hb3 s15 => ?_⟩
    refine ⟨D3, _, rfl, SqL.of hb3, _, rfl, ?_⟩
    rw [stay_step]
    refine iteF ?_
    have sB := sA.trans s15
    refine ⟨_, rfl, t2, rfl, ⟨_, SqT.of (sB _ _ h_2)⟩, fun D4 hD4 => bcomp (sB _ _ h_2) hD4 (Nat.le_trans (lotP_len _ _) n8) (fun _ => rfl) (fun z _ H16 s16 R hR => te_in (sB _ _ h_4) rfl rfl s16 hR) fun H16 hb4 s16 => ?_⟩
    refine ⟨D4, _, rfl, SqL.of hb4, _, rfl, ?_⟩
    rw [stay_before]
    refine iteF ?_
    have sC := sB.trans s16
    -- both
    refine ⟨_, rfl, _, rfl, t1, t2, n, p1, p2, rfl, sC _ _ h_1, sC _ _ h_2, n8, fun H17 t5 ht5 s17 => ?_⟩
    have sD := sC.trans s17
    refine ⟨_, rfl, _, rfl, _, rfl, c, x, tp, t5, n, E, ps, _, rfl, BD.same sD, sD _ _ h_p, PO, ht5, fun H18 t6 ht6 s18 => ?_⟩
    have sE1 := sD.trans s18
    refine ⟨_, rfl, _, rfl, _, rfl, _, rfl, c, x, tp, t2, n, E, ps, p2, rfl, BD.same sE1, sE1 _ _ h_p, PO, sE1 _ _ h_2, fun H19 t7 ht7 s19 => ?_⟩
    refine ⟨t3, t7, n, _, _, rfl, s19 _ _ (sE1 _ _ h_3), ht7, n8, fun H20 t8 ht8 s20 => ?_⟩
    refine neT (s20 _ _ (s19 _ _ ht6)) (by rw [step_or]; exact ht8) ⟨_, rfl, iteF ?_⟩
    have sF := (sE1.trans s19).trans s20
    have ht5F := s20 _ _ (s19 _ _ (s18 _ _ ht5))
    have GF : GA K b c H20 n x E tp t1 t3 ps p1 := ⟨n1, n8, BX.same sF, BD.same sF, PO, sF _ _ h_p, sF _ _ h_1, sF _ _ h_3⟩
    refine ⟨fun σ H' => σ = [some (.ref a), some (.ref b), some (.int (0 + (i : Int))), some (.ref tb), some (vI n), some (.ref x), some (.ref tp), some (.ref t1), some (.ref t2), some (.ref t3), some (.ref t4), some (.ref t5), v12, v13, v14, v15, v16, v17, none, none, none] ∧ GA K b c H' n x E tp t1 t3 ps p1, ?_, ?_⟩
    · refine ⟨_, rfl, _, rfl, _, rfl, c, x, tp, t5, n, E, ps, _, rfl, BD.same sF, sF _ _ h_p, PO, ht5F, fun H21 t9 ht9 s21 => ?_⟩
      have sG := sF.trans s21
      refine ⟨_, rfl, _, rfl, _, rfl, c, x, tp, t1, n, E, ps, p1, rfl, BD.same sG, sG _ _ h_p, PO, sG _ _ h_1, fun H22 t10 ht10 s22 => ?_⟩
      refine ⟨_, rfl, t10, t4, n, _, _, rfl, ht10, s22 _ _ (sG _ _ h_4), n8, fun H23 t11 ht11 s23 => ?_⟩
      refine neT (s23 _ _ (s22 _ _ ht9)) (by rw [before_or]; exact ht11) ⟨_, rfl, iteF ?_⟩
      exact ⟨rfl, GF.same ((s21.trans s22).trans s23)⟩
    rintro σ H23 ⟨rfl, ⟨_, _, BXH, BDH, _, g_p, g_1, g_3⟩⟩
    refine ⟨_, rfl, tp, rfl, ⟨_, SqT.of g_p⟩, fun D5 hD5 => ?_⟩
    have D5c := (BXH.new hD5).1
    have D5b := (BXH.new hD5).2
    refine lc_tup (K := K) (a := tp) (xs := ps.map vI) (fun j H24 => ∃ qs : List Nat, qs.length = j ∧ (∀ a, a < j → ps.getD a 0 ≤ qs.getD a 0) ∧ (∀ q ∈ qs, q ≤ 7) ∧ H24 D5 = some (.lst (qs.map vI)) ∧ Kc c H23 H24 ∧ Box b c H24)
      ⟨[], rfl, fun a ha => absurd ha (Nat.not_lt_zero a), by simp, upd_same, kc_same (same_upd hD5), BXH.same (same_upd hD5)⟩ (fun j H24 _ ⟨_, _, _, _, _, k, _⟩ => SqT.of (k.tup BXH.lst g_p)) ?_ ?_
    · rintro j y H24 hy ⟨qs, lq, q1, q7, hq, k24, B24⟩
      obtain ⟨m, hm, rfl⟩ : ∃ m, ps[j]? = some m ∧ vI m = y := by
        rw [List.getElem?_map] at hy
        cases e : ps[j]? with
        | none => rw [e] at hy; cases hy
        | some m => rw [e] at hy; exact ⟨m, rfl, Option.some.inj hy⟩
      have jl : j < ps.length := (List.getElem?_eq_some_iff.mp hm).1
      have m7 := ps7 m (List.mem_of_getElem? hm)
      have em : ps.getD j 0 = m := by rw [List.getD_eq_getElem?_getD, hm]; rfl
      refine ⟨rfl, ?_⟩
      unfold tYes
      refine iteT ?_
      refine ⟨_, rfl, _, rfl, b, c, _, rfl, B24, by decide, by decide, fun H25 d k25 B25 d0 d1 => ?_⟩
      obtain ⟨dn, rfl⟩ : ∃ dn : Nat, d = (dn : Nat) := ⟨d.toNat, by omega⟩
      refine ⟨_, _, rfl, rfl, _, _, rfl, ?_⟩
      have ev : V.int (if ((m : Nat) : Int) + (dn : Nat) < 7 then ((m : Nat) : Int) + (dn : Nat) else 7) = vI (min 7 (m + dn)) := by
        unfold vI
        congr 1
        split <;> omega
      rw [ev]
      have hq25 : H25 D5 = some (.lst (qs.map vI)) := k25 _ _ D5c (fun _ z => by cases z) hq
      refine ⟨_, hq25, ?_, qs ++ [min 7 (m + dn)], by simp [lq], fun a ha => ?_, fun q hq2 => ?_, ?_, (k24.trans k25).upd hD5, B25.upd D5c D5b⟩
      · rw [List.length_map]
        exact Nat.lt_of_le_of_lt (show qs.length ≤ 8 by omega) (by decide)
      · rcases Nat.lt_or_ge a j with z | z
        · have := q1 a z
          rw [List.getD_eq_getElem?_getD, List.getD_eq_getElem?_getD] at this ⊢
          rw [List.getElem?_append_left (by omega)]
          exact this
        · have ea : a = j := by omega
          subst ea
          rw [em, List.getD_eq_getElem?_getD, List.getElem?_append_right (by omega), lq, Nat.sub_self]
          show m ≤ min 7 (m + dn)
          omega
      · rcases List.mem_append.mp hq2 with z | z
        · exact q7 q z
        · rw [List.mem_singleton.mp z]
          omega
      · rw [upd_same, List.map_append]
        rfl
    rintro H24 ⟨qs, lq, q1, q7, hq, k24, B24⟩
    refine ⟨D5, _, rfl, .inl ⟨SqL.of hq, fun t12 ht12 => ?_⟩⟩
    rw [List.length_map, lps] at lq q1
    have s25 := same_upd (o := HO.tup (qs.map vI)) ht12
    have hQ12 : (upd H24 t12 (.tup (qs.map vI))) t12 = some (.tup (qs.map vI)) := upd_same
    have kJ := k24.trans (kc_same s25)
    have BXJ := B24.same s25
    have BDJ := (BDH.keep k24 BXH.lst).same s25
    have j_p := kJ.tup BXH.lst g_p
    have j_1 := kJ.tup BXH.lst g_1
    have j_3 := kJ.tup BXH.lst g_3
    generalize upd H24 t12 (.tup (qs.map vI)) = H25 at hQ12 kJ BXJ BDJ j_p j_1 j_3
    have PQ : PaceOk n qs := ⟨lq, q7⟩
    have GJ : GA K b c H25 n x E tp t1 t3 ps p1 := ⟨n1, n8, BXJ, BDJ, PO, j_p, j_1, j_3⟩
    refine ⟨fun σ H' => σ = [some (.ref a), some (.ref b), some (.int (0 + (i : Int))), some (.ref tb), some (vI n), some (.ref x), some (.ref tp), some (.ref t1), some (.ref t2), some (.ref t3), some (.ref t4), some (.ref t5), some (.ref t12), v13, v14, v15, v16, v17, none, none, none] ∧ GA K b c H' n x E tp t1 t3 ps p1, ?_, ?_⟩
    · refine ⟨_, rfl, t3, rfl, ⟨_, SqT.of j_3⟩, fun D6 hD6 => bcomp (f := fun b => decide (b ∈ lotP n (stepP n E qs p1))) j_3 hD6 (Nat.le_trans (lotP_len _ _) n8) (fun _ => rfl) (fun z hz H26 s26 R hR => ?_) fun H26 hb6 s26 => ?_⟩
      · refine ⟨_, rfl, _, rfl, _, rfl, _, rfl, c, x, t12, t1, n, E, qs, p1, rfl, BDJ.same s26, s26 _ _ hQ12, PQ, s26 _ _ j_1, fun H27 t13 ht13 s27 => ?_⟩
        refine ⟨t13, _, rfl, .inr (SqT.of ht13), rfl, flat_vI _, ?_⟩
        show R (.bl (inV (vI z) ((lotP n (stepP n E qs p1)).map vI))) H27
        rw [in_lot]
        exact hR H27 s27
      refine ⟨D6, _, rfl, SqL.of hb6, _, rfl, ?_⟩
      rw [longer_step q1]
      refine iteF ?_
      exact ⟨rfl, GJ.same s26⟩
    rintro σ H26 ⟨rfl, ⟨_, _, BXK, BDK, _, k_p, k_1, k_3⟩⟩
    refine ⟨_, rfl, _, rfl, (n : Int), rfl, RgOk.of_le (by decide) (by omega) (by decide) (by omega), fun l7 hl7 => ?_⟩
    have s27 := same_upd (o := HO.lst (rgV 0 (n : Int))) hl7
    refine ⟨b, c, l7, _, rfl, BXK.same s27, upd_same, (BXK.new hl7).1, by rw [rgV_length]; omega, fun H28 l8 ys pm hl8 l8c k28 B28 => ?_⟩
    rw [rg_range] at pm
    obtain ⟨os, rfl, po⟩ := perm_map pm
    refine ⟨l8, _, rfl, SqL.of hl8, fun t14 ob ht14 nod => ?_⟩
    have s29 := same_upd (o := HO.frz ob (.tup (os.map vI))) ht14
    have hO : (upd H28 t14 (.frz ob (.tup (os.map vI)))) t14 = some (.frz ob (.tup (os.map vI))) := upd_same
    have kL := ((kc_same s27).trans k28).trans (kc_same s29)
    have BXL := B28.same s29
    have BDL := BDK.keep kL BXK.lst
    have l_p := kL.tup BXK.lst k_p
    have l_1 := kL.tup BXK.lst k_1
    have l_3 := kL.tup BXK.lst k_3
    generalize upd H28 t14 (.frz ob (.tup (os.map vI))) = H29 at hO kL BXL BDL l_p l_1 l_3
    have lo : os.length = n := by rw [po.length_eq, List.length_range]
    have ndo : os.Nodup := po.nodup_iff.mpr List.nodup_range
    -- called
    obtain ⟨dx, r1, r2, r3, hxL⟩ := BDL.obj
    refine ⟨_, rfl, x, dx, _, rfl, hxL, bf_renamed _ _ _ _, _, rfl, c, x, t14, n, E, os, rfl, BDL, BXL.lst, sqF hO, po, fun H30 y E2 B2y mE2 sE2 s30 => ?_⟩
    have m_p := s30 _ _ l_p
    have m_1 := s30 _ _ l_1
    have m_3 := s30 _ _ l_3
    have m_o := s30 _ _ hO
    -- the new pace
    have ix : ∀ b, b < n → os.idxOf b < n ∧ os[os.idxOf b]? = some b := fun b hb => by
      have mb : b ∈ os := po.mem_iff.mpr (List.mem_range.mpr hb)
      have := List.idxOf_lt_length_of_mem mb
      refine ⟨by omega, ?_⟩
      rw [List.getElem?_eq_getElem this, List.getElem_idxOf]
    have GM : GA K b c H30 n x E tp t1 t3 ps p1 := ⟨n1, n8, BXL.same s30, BDL.same s30, PO, m_p, m_1, m_3⟩
    obtain ⟨ns8, en8⟩ : ∃ ns8, ns8 = (List.range n).map fun b => ps.getD (os.idxOf b) 0 := ⟨_, rfl⟩
    have P8 : PaceOk n ns8 := by
      refine ⟨by rw [en8]; simp, fun q hq => ?_⟩
      rw [en8] at hq
      obtain ⟨b, hb, rfl⟩ := List.mem_map.mp hq
      have bn := List.mem_range.mp hb
      exact ps7 _ (List.mem_of_getElem? (pace_get PO (ix b bn).1))
    have hq8 : ∀ a, a < n → ns8.getD (os.getD a 0) 0 = ps.getD a 0 := fun a ha => by
      obtain ⟨o1, o2⟩ := os_get po ha
      rw [en8, List.getD_eq_getElem?_getD, List.getElem?_map, List.getElem?_range o2]
      show ps.getD (os.idxOf (os.getD a 0)) 0 = ps.getD a 0
      have al : a < os.length := by omega
      have e1 := (ix _ o2).2
      rw [← o1] at e1
      rw [(List.getElem?_inj (by have := (ix _ o2).1; omega) ndo).mp e1]
    refine ⟨fun σ H' => ∃ (t15 : Addr), σ = [some (.ref a), some (.ref b), some (.int (0 + (i : Int))), some (.ref tb), some (vI n), some (.ref x), some (.ref tp), some (.ref t1), some (.ref t2), some (.ref t3), some (.ref t4), some (.ref t5), some (.ref t12), some (.ref t14), some (.ref y), some (.ref t15), v16, v17, none, none, none] ∧ H' t15 = some (.tup (ns8.map vI)) ∧ Same H30 H', ?_, ?_⟩
    · refine ⟨_, rfl, (n : Int), rfl, by omega, by omega, fun D7 hD7 => ?_⟩
      refine lc_range (lo := 0) (n := ((n : Nat) : Int).toNat) (fun j H31 => H31 D7 = some (.lst (((List.range j).map fun b => ps.getD (os.idxOf b) 0).map vI)) ∧ Same H30 H31)
        ⟨upd_same, same_upd hD7⟩ ?_ ?_
      · rintro j H31 hj ⟨h31, s31⟩
        have jn : j < n := by omega
        obtain ⟨i1, i2⟩ := ix j jn
        refine ⟨rfl, ?_⟩
        unfold tYes
        refine iteT ?_
        refine ⟨_, rfl, _, rfl, ⟨t14, ob, _, rfl, s31 _ _ m_o, nod⟩, _, rfl, t14, os.map nI, _, os.idxOf j, rfl, rfl, (by rw [← vI_map]; exact sqF (s31 _ _ m_o)), ?_, fun m hm => ?_, ?_⟩
        · rw [Int.zero_add, List.getElem?_map, i2]
          rfl
        · rw [Int.zero_add, List.getElem?_map]
          intro z
          cases e : os[m]? with
          | none => rw [e] at z; cases z
          | some v =>
            rw [e] at z
            have ev : v = j := by
              have : nI v = (j : Int) := Option.some.inj z
              unfold nI at this
              omega
            rw [ev, ← i2] at e
            have ml : m < os.length := by omega
            have := (List.getElem?_inj ml ndo).mp e
            omega
        refine ⟨tp, _, _, _, rfl, rfl, SqT.of (s31 _ _ m_p), atI_nat (get_map (pace_get PO i1)), ?_⟩
        refine ⟨_, h31, ?_, ?_, same_mut s31 hD7⟩
        · rw [List.length_map, List.length_map, List.length_range]
          exact Nat.lt_of_le_of_lt (show j ≤ 8 by omega) (by decide)
        · rw [upd_same, List.range_succ, List.map_append, List.map_append]
          rfl
      rintro H31 ⟨h31, s31⟩
      rw [Int.toNat_natCast] at h31
      refine ⟨D7, _, rfl, .inl ⟨SqL.of h31, fun t15 ht15 => ?_⟩⟩
      rw [← en8]
      have s32 := same_upd (o := HO.tup (ns8.map vI)) ht15
      have h8 : (upd H31 t15 (.tup (ns8.map vI))) t15 = some (.tup (ns8.map vI)) := upd_same
      have sM := s31.trans s32
      generalize upd H31 t15 (.tup (ns8.map vI)) = H32 at h8 sM
      exact ⟨t15, rfl, h8, sM⟩
    rintro σ H32 ⟨t15, rfl, h8, sM⟩
    have G32 := GM.same sM
    have By := B2y.same sM
    have o32 := sM _ _ m_o
    -- named
    refine ⟨_, rfl, _, rfl, (by show 2 ≤ sizeLine; decide), fun u5 hu5 => ?_⟩
    have s33 : Same H32 (upd H32 u5 (.tup [.ref t1, .ref t3])) := same_upd hu5
    have hu5' : (upd H32 u5 (.tup [.ref t1, .ref t3])) u5 = some (.tup [.ref t1, .ref t3]) := upd_same
    generalize upd H32 u5 (.tup [.ref t1, .ref t3]) = H33 at s33 hu5'
    refine ⟨u5, rfl, ⟨_, SqT.of hu5'⟩, fun D8 hD8 => ?_⟩
    refine lc_tup (K := K) (a := u5) (xs := [.ref t1, .ref t3]) (fun j H34 => ∃ rs : List Addr, H34 D8 = some (.lst (rs.map V.ref)) ∧ rs.length = j ∧ (∀ r, rs[0]? = some r → H34 r = some (.tup ((lotP n (namedP n os p1)).map vI))) ∧ (∀ r, rs[1]? = some r → H34 r = some (.tup ((lotP n (namedP n os (stepP n E ps p1))).map vI))) ∧ Same H33 H34)
      ⟨[], upd_same, rfl, fun r hr => (by simp at hr), fun r hr => (by simp at hr), same_upd hD8⟩ (fun j H34 _ ⟨_, _, _, _, _, s34⟩ => SqT.of (s34 _ _ hu5')) ?_ ?_
    · rintro j z H34 hz ⟨rs, hrs, lrs, r0, r1, s34⟩
      have s3234 := s33.trans s34
      obtain ⟨pp, tt, rfl, htt, hpp⟩ : ∃ (pp : Nat → Prop) (tt : Addr), z = .ref tt ∧ H34 tt = some (.tup ((lotP n pp).map vI)) ∧ ((j = 0 ∧ pp = p1) ∨ (j = 1 ∧ pp = stepP n E ps p1)) := by
        match j, hz with
        | 0, hz => exact ⟨p1, t1, (Option.some.inj hz).symm, s3234 _ _ G32.h1, .inl ⟨rfl, rfl⟩⟩
        | 1, hz => exact ⟨stepP n E ps p1, t3, (Option.some.inj hz).symm, s3234 _ _ G32.h3, .inr ⟨rfl, rfl⟩⟩
        | j + 2, hz => simp at hz
      refine ⟨rfl, ?_⟩

      refine yesT ?_
      refine ⟨_, rfl, tt, rfl, ⟨_, SqT.of htt⟩, fun D9 hD9 => ?_⟩
      have lpp := lotP_len n pp
      refine lc_tup (K := K) (a := tt) (xs := (lotP n pp).map vI) (fun k H35 => H35 D9 = some (.lst ((((lotP n pp).take k).map fun a => nI (os.getD a 0)).map V.int)) ∧ Same H34 H35)
        ⟨upd_same, same_upd hD9⟩ (fun k H35 _ ⟨_, s35⟩ => SqT.of (s35 _ _ htt)) ?_ ?_
      · rintro k z2 H35 hz2 ⟨h35, s35⟩
        obtain ⟨q, hq, rfl⟩ : ∃ q, (lotP n pp)[k]? = some q ∧ vI q = z2 := by
          rw [List.getElem?_map] at hz2
          cases e : (lotP n pp)[k]? with
          | none => rw [e] at hz2; cases hz2
          | some q => rw [e] at hz2; exact ⟨q, rfl, Option.some.inj hz2⟩
        have qn := (mem_lotP.mp (List.mem_of_getElem? hq)).1
        have kl : k < (lotP n pp).length := (List.getElem?_eq_some_iff.mp hq).1
        refine ⟨rfl, ?_⟩
        unfold tYes
        refine iteT ?_
        refine ⟨_, rfl, _, rfl, t14, _, _, _, rfl, rfl, sqF (s35 _ _ (s3234 _ _ o32)), atI_nat (get_map (os_get po qn).1), ?_⟩
        refine ⟨_, h35, ?_, ?_, same_mut s35 hD9⟩
        · rw [List.length_map, List.length_map, List.length_take]
          exact Nat.lt_of_le_of_lt (show min k (lotP n pp).length ≤ 8 by omega) (by decide)
        · rw [upd_same, List.take_add_one, hq, List.map_append, List.map_append]
          rfl
      · rintro H35 ⟨h35, s35⟩
        rw [List.length_map, List.take_length] at h35
        refine ⟨D9, _, rfl, SqL.of h35, by rw [List.length_map]; omega, fun ms l9 pm9 so9 hl9 => ?_⟩
        refine ⟨l9, _, rfl, .inl ⟨SqL.of upd_same, fun t16 ht16 => ?_⟩⟩
        have s36 := same_upd (o := HO.lst (ms.map V.int)) hl9
        have s37 := same_upd (o := HO.tup (ms.map V.int)) ht16
        have sN := (s35.trans s36).trans s37
        have en := named_sorted po pm9 so9
        have h16 : (upd (upd H35 l9 (.lst (ms.map V.int))) t16 (.tup (ms.map V.int))) t16 = some (.tup ((lotP n (namedP n os pp)).map vI)) := by rw [upd_same, en]
        generalize upd (upd H35 l9 (.lst (ms.map V.int))) t16 (.tup (ms.map V.int)) = H37 at sN h16
        have t16D : t16 ≠ D8 := ne_of h16 (sN _ _ hrs) (by intro z; cases z)
        have off : ∀ r xs, H37 r = some (.tup xs) → ∀ o, (upd H37 D8 o) r = some (.tup xs) := fun r xs e o => by
          rw [upd_ne (ne_of e (sN _ _ hrs) (by intro z; cases z))]
          exact e
        refine ⟨_, sN _ _ hrs, ?_, rs ++ [t16], ?_, by simp [lrs], fun r hr => ?_, fun r hr => ?_, same_mut (s34.trans sN) hD8⟩
        · rw [List.length_map]
          rcases hpp with ⟨e, _⟩ | ⟨e, _⟩ <;> exact Nat.lt_of_le_of_lt (show rs.length ≤ 8 by omega) (by decide)
        · rw [upd_same, List.map_append]
          rfl
        · rcases hpp with ⟨e, ep⟩ | ⟨e, ep⟩
          · rw [List.getElem?_append_right (by omega), lrs, e] at hr
            have : t16 = r := by simpa using hr
            rw [← this, ← ep]
            exact off _ _ h16 _
          · rw [List.getElem?_append_left (by omega)] at hr
            exact off _ _ (sN _ _ (r0 r hr)) _
        · rcases hpp with ⟨e, ep⟩ | ⟨e, ep⟩
          · rw [List.getElem?_append_right (by omega), lrs, e] at hr
            simp at hr
          · rw [List.getElem?_append_right (by omega), lrs, e] at hr
            have : t16 = r := by simpa using hr
            rw [← this, ← ep]
            exact off _ _ h16 _
    rintro H34 ⟨rs, hrs, lrs, r0, r1, s34⟩
    have lrs2 : rs.length = 2 := lrs
    obtain ⟨a0, a1, rfl⟩ : ∃ a0 a1, rs = [a0, a1] := by
      match rs, lrs2 with
      | [a0, a1], _ => exact ⟨a0, a1, rfl⟩
    have h0 := r0 a0 rfl
    have h1 := r1 a1 rfl
    have s3234 := s33.trans s34
    have G34 := G32.same s3234
    refine ⟨fun σ H' => σ = [some (.ref a), some (.ref b), some (.int (0 + (i : Int))), some (.ref tb), some (vI n), some (.ref x), some (.ref tp), some (.ref t1), some (.ref t2), some (.ref t3), some (.ref t4), some (.ref t5), some (.ref t12), some (.ref t14), some (.ref y), some (.ref t15), some (.ref D8), v17, none, none, none] ∧ GA K b c H' n x E tp t1 t3 ps p1, ?_, ?_⟩
    · refine ⟨_, rfl, _, rfl, _, rfl, D8, _, 0, _, rfl, rfl, SqL.of hrs, rfl, c, y, t15, a0, n, E2, ns8, namedP n os p1, rfl, By.same s3234, s3234 _ _ h8, P8, h0, fun H35 t17 ht17 s35 => ?_⟩
      refine ⟨_, rfl, D8, _, 1, _, rfl, rfl, SqL.of (s35 _ _ hrs), rfl, ?_⟩
      refine neT ht17 (by rw [renamed_step po G34.bd.on mE2 hq8]; exact s35 _ _ h1) ⟨_, rfl, iteF ?_⟩
      exact ⟨rfl, G34.same s35⟩
    rintro σ H36 ⟨rfl, GN⟩
    -- flat
    refine ⟨_, rfl, _, rfl, b, c, _, rfl, GN.bx, by decide, by decide, fun H37 d k37 B37 d0 d1 => ?_⟩
    obtain ⟨dn, rfl⟩ : ∃ dn : Nat, d = (dn : Nat) := ⟨d.toNat, by omega⟩
    have GO := GN.keep k37 B37
    refine ⟨c, x, n, dn, E, rfl, GO.bd, by omega, fun H38 t18 ht18 s38 => ?_⟩
    have GP := GO.same s38
    obtain ⟨dx2, w1, w2, w3, hxP⟩ := GP.bd.obj
    refine ⟨_, rfl, x, dx2, _, rfl, hxP, bf_turned _ _ _ _, c, x, n, E, rfl, GP.bd, GP.bx.lst, fun H39 y2 E3 B3y mE3 sE3 s39 => ?_⟩
    have PR : PaceOk n (List.replicate n dn) := ⟨by simp, fun q hq => by rw [(List.mem_replicate.mp hq).2]; omega⟩
    have GQ := GP.same s39
    refine ⟨_, rfl, _, rfl, c, y2, t18, t1, n, E3, _, p1, rfl, B3y, s39 _ _ ht18, PR, GQ.h1, fun H40 t19 ht19 s40 => ?_⟩
    refine ⟨_, rfl, _, rfl, _, rfl, c, x, t18, t1, n, E, _, p1, rfl, GQ.bd.same s40, s40 _ _ (s39 _ _ ht18), PR, s40 _ _ GQ.h1, fun H41 t20 ht20 s41 => ?_⟩
    refine neT (s41 _ _ ht19) (by rw [turned_step mE3]; exact ht20) ⟨_, rfl, iteF ?_⟩
    exact ⟨⟨_, _, _, _, _, _, _, _, _, _, _, _, _, _, _, _, rfl⟩, GQ.bx.same (s40.trans s41)⟩
end
end RL
namespace RL
open PySem PySem.Spec PyProof.Rows L2
theorem law_facts {P : Program} {w : World} {K : PySem.W.Frag} {h : Heap} {mg : Str → Option Value} {f : Addr} (X : K.In h) (G : h.Ns mainGlobals mg) (hfa : mg ("law" : Str) = some (.ref f)) (c : He.SaysD fa fn K) :
    ∃ fd : FuncData, (∀ (s : Shared) (v : Value), BindsTo s fd ⟨[v], []⟩ [("_law_script", v)]) ∧ ∀ base : Heap, K.In base → base.Ns mainGlobals mg → FnOk P w K mg base CX0 7 f fd ["_law_script"] (spLaw K) := by
  have T : Tx K mg := ⟨c, fun x z => He.glo_ok X G z, fun x z => He.free_ok X G z, fun x i z => He.int_ok X G z⟩
  obtain ⟨fd, F⟩ := T.d_law
  have e := hfa.symm.trans T.glo_law
  cases e
  have b := FunD.bindsA (ps := ["_law_script"]) F fun _ _ _ _ _ _ us hl => match us, hl with | [_], _ => rfl
  exact ⟨fd, fun s v => b s [v] rfl, fun base _ _ => ok_law T F⟩
end RL
open PySem PySem.W PySem.Calls PyProof.Rows
theorem PySem.Challenge.cw_roamlook_k06_whole_steps_there_and_back_holds : PySem.Challenge.rw_roamlook_k06_whole_steps_there_and_back.Holds := by
  w_on; o_law
  refine HandSHeadRun.head_any (r := OpenLaw.row PySem.Challenge.rw_roamlook_k06_whole_steps_there_and_back) (q := view (OpenLaw.row PySem.Challenge.rw_roamlook_k06_whole_steps_there_and_back).prog [38]) (H := RL.hk) (ob := RL.ob) (M := 9000) (loose := RL.loose) (d := HandSHeadRun.topDef (OpenLaw.row PySem.Challenge.rw_roamlook_k06_whole_steps_there_and_back).prog 38) (kwd := []) RL.ob_eq
    (by kernel_rfl) (fun s => by kernel_rfl) RL.run (by kernel_rfl) (by kernel_rfl) (by kernel_rfl) (by rfl) (by first | assumption | decide +kernel) (by decide +kernel) ⟨rfl, rfl, rfl, rfl, rfl, by decide +kernel⟩ ?hw ?hc
  case hw => w_witness2
  case hc =>
    refine L2.walk_ofE (l := PySem.Challenge.rw_roamlook_k06_whole_steps_there_and_back) (n := 63) (k := 7) (x := "_law_script") (CX := L2.CX0) rfl (by decide) (by kernel_rfl) ⟨rfl, by decide, by decide⟩ ?F (fun _ _ _ _ z => z)
    intro w mg fa h Y G hmg0
    obtain ⟨K, KX, c⟩ := Y
    have hmg : mg ("law" : PySem.Str) = some (.ref fa) := by
      have e : (HandSHeadRun.topDef (OpenLaw.row PySem.Challenge.rw_roamlook_k06_whole_steps_there_and_back).prog 38).name = ("law" : PySem.Str) := by kernel_rfl
      rw [← e]
      exact hmg0
    obtain ⟨fd, hb, hF⟩ := RL.law_facts (P := (PySem.Challenge.rw_roamlook_k06_whole_steps_there_and_back).prog) (w := w) KX G hmg c
    exact ⟨K, fd, RL.spLaw K, KX, hb, fun H a ns hl _ hS => ⟨a, ns, rfl, hS, hl, fun _ => rfl⟩, hF⟩
